package lzma2_test

import (
	"math"
	"testing"

	"garbler/api"
	"garbler/lzma2"
)

// dicts: all properties' dictionaries: each is half as great again as the one ahead, or a third.
func dicts() []int {
	all := []int{4096}
	for p := 1; p < 40; p++ {
		last := all[p-1]
		all = append(all, last+last/(3-p%2))
	}
	return append(all, math.MaxUint32)
}

func TestDict(t *testing.T) {
	all := dicts()
	for p := range 256 {
		want, wanted := 0, api.Props
		if p <= 40 {
			want, wanted = all[p], api.OK
		}
		if dict, code := lzma2.Dict(byte(p)); dict != want || code != wanted {
			t.Errorf("P11.1: Dict(%d): %d, code %d; not %d, code %d", p, dict, code, want, wanted)
		}
	}
	for p, want := range map[byte]int{1: 6144, 2: 8192, 3: 12288, 18: 2 << 20, 19: 3 << 20, 38: 1 << 31, 39: 3 << 30} {
		if all[p] != want {
			t.Errorf("property %d: %d, not %d", p, all[p], want)
		}
	}
}

func TestProp(t *testing.T) {
	all := dicts()
	least := 0
	for p, dict := range all {
		for _, n := range []int{least, least + 1, (least + dict) / 2, dict - 1, dict} {
			if n < least {
				continue
			}
			if got, code := lzma2.Prop(n); int(got) != p || code != api.OK {
				t.Errorf("P11.1: Prop(%d): %d, code %d; not %d", n, got, code, p)
			}
		}
		least = dict + 1
	}
	for _, n := range []int{math.MinInt, -1 << 32, -4096, -1, 0, 1, 2048} {
		if got, code := lzma2.Prop(n); got != 0 || code != api.OK {
			t.Errorf("P11.1: Prop(%d): %d, code %d; not 0", n, got, code)
		}
	}
	for _, n := range []int{1 << 32, 1<<32 + 1, 1<<32 + 4096, 1 << 33, 1 << 40, math.MaxInt} {
		if got, code := lzma2.Prop(n); got != 0 || code != api.Props {
			t.Errorf("P11.1: Prop(%d): %d, code %d; not Props", n, got, code)
		}
	}
}
