package parse_test

import (
	"bytes"
	"math"
	"math/rand"
	"slices"
	"strings"
	"testing"

	"garbler/api"
)

func TestExamples(t *testing.T) {
	whole("aaaa").is(t, listed("a", again(0, 3)), [4]uint32{})
	whole("abab").is(t, listed("ab", match(2, 1)), [4]uint32{1})
}

// TestNothing: where no bytes are told, there are no packets, and the elder distances stay.
func TestNothing(t *testing.T) {
	reps := [4]uint32{7, 1, math.MaxUint32, 0}
	for _, q := range []asked{{}, {to: 9}, {b: []byte("aaaa")}, {b: []byte("aaaa"), from: 2, to: 2}, {b: []byte("aaaa"), from: 4, to: 4}, {b: []byte("aaaa"), from: 3, to: 1}} {
		q.dict, q.reps = 4096, reps
		q.is(t, nil, reps)
	}
}

// TestEachSmallText: of one, two and three kinds of bytes; from each place to each other one, by several dictionaries and elder distances.
func TestEachSmallText(t *testing.T) {
	elder := [][4]uint32{{}, {1}, {0, 1, 2, 3}, {3, 2, 1, 0}, {5, 1, 1, 2}, {math.MaxUint32, 2, 4, math.MaxUint32}}
	for kinds, most := range map[int]int{1: 9, 2: 8, 3: 5} {
		for n := range most + 1 {
			for _, b := range texts(n, kinds) {
				for from := range n + 1 {
					for to := from; to <= n; to++ {
						for i, reps := range elder {
							asked{b, from, to, 1 + (from+to+i)%3, reps}.isModels(t)
							asked{b, from, to, 4096, reps}.isModels(t)
						}
					}
				}
			}
		}
	}
}

// texts: all of n bytes of so many kinds.
func texts(n, kinds int) [][]byte {
	list := [][]byte{nil}
	for range n {
		var longer [][]byte
		for _, b := range list {
			for k := range kinds {
				longer = append(longer, append(slices.Clone(b), byte('a'+k)))
			}
		}
		list = longer
	}
	return list
}

// TestAnyText: rows, copies with slips, and bytes of few and of many kinds.
func TestAnyText(t *testing.T) {
	for seed := range int64(3000) {
		anyAsked(rand.New(rand.NewSource(seed)), 500).isModels(t)
	}
	for seed := range int64(12) {
		anyAsked(rand.New(rand.NewSource(seed)), 5000).isModels(t)
	}
}

// TestAgainOrMatch: a match must have two bytes more than the longest copy at an elder distance.
func TestAgainOrMatch(t *testing.T) {
	for _, e := range []struct {
		q    asked
		list []api.Packet
		reps [4]uint32
	}{
		// "abcd" and "abc" lie ahead, then "abcd" comes: 3 again at 3, or 4 at 8.
		{whole("abcdxabcyabcd", 3, 3, 3, 3).behind(9), listed(again(0, 3), "d"), [4]uint32{3, 3, 3, 3}},
		// "abcde" and "abc": 3 again, or 5.
		{whole("abcdexabcyabcde", 3, 3, 3, 3).behind(10), listed(match(5, 9)), [4]uint32{9, 3, 3, 3}},
		{whole("abcdefxabcyabcdef", 3, 3, 3, 3).behind(11), listed(match(6, 10)), [4]uint32{10, 3, 3, 3}},
		// "abc" and "ab": 2 again, or 3; "abcd" and "ab": 2 again, or 4.
		{whole("abcxabyabc", 2, 2, 2, 2).behind(7), listed(again(0, 2), "c"), [4]uint32{2, 2, 2, 2}},
		{whole("abcdxabyabcd", 2, 2, 2, 2).behind(8), listed(match(4, 7)), [4]uint32{7, 2, 2, 2}},
		// The elder distance's copy is the longest one itself.
		{whole("abcxabc", 9, 9, 9, 3).behind(4), listed(again(3, 3)), [4]uint32{3, 9, 9, 9}},
		// One byte at an elder distance is none: a match of 2 is taken.
		{whole("abxacyab", 2, 2, 2, 2).behind(6), listed(match(2, 5)), [4]uint32{5, 2, 2, 2}},
	} {
		e.q.is(t, e.list, e.reps)
		e.q.isModels(t)
	}
}

// TestWhichElder: the longest copy's, and the first of those that are as long; it comes ahead of the ones that were ahead of it.
func TestWhichElder(t *testing.T) {
	text := "abcd-abce-abc"
	for _, e := range []struct {
		reps  [4]uint32
		which int
		want  [4]uint32
	}{
		{[4]uint32{4, 9, 1, 2}, 0, [4]uint32{4, 9, 1, 2}},
		{[4]uint32{9, 4, 1, 2}, 0, [4]uint32{9, 4, 1, 2}},
		{[4]uint32{1, 4, 9, 2}, 1, [4]uint32{4, 1, 9, 2}},
		{[4]uint32{1, 9, 4, 2}, 1, [4]uint32{9, 1, 4, 2}},
		{[4]uint32{1, 2, 4, 9}, 2, [4]uint32{4, 1, 2, 9}},
		{[4]uint32{1, 2, 3, 9}, 3, [4]uint32{9, 1, 2, 3}},
		{[4]uint32{math.MaxUint32, 13, 10, 4}, 3, [4]uint32{4, math.MaxUint32, 13, 10}},
		{[4]uint32{4, 4, 4, 4}, 0, [4]uint32{4, 4, 4, 4}},
		{[4]uint32{7, 9, 9, 7}, 1, [4]uint32{9, 7, 9, 7}},
	} {
		whole(text, e.reps[:]...).behind(10).is(t, listed(again(e.which, 3)), e.want)
	}
	// Of these copies one has three bytes, two have two, and one has one.
	whole("abc-ab-ax-ab-abc", 2, 5, 8, 12).behind(13).is(t, listed(again(3, 3)), [4]uint32{12, 2, 5, 8})
	whole("abc-ab-ax-ab-abc", 5, 8, 12, 2).behind(13).is(t, listed(again(2, 3)), [4]uint32{12, 5, 8, 2})
}

// TestWhichMatch: the longest copy's distance, and the least of those that are as long.
func TestWhichMatch(t *testing.T) {
	none := []uint32{99, 98, 97, 96}
	whole("abcd-abc+abcd", none...).behind(9).is(t, listed(match(4, 8)), [4]uint32{8, 99, 98, 97})
	whole("abcd-abcd+abc*abcd", none...).behind(14).is(t, listed(match(4, 8)), [4]uint32{8, 99, 98, 97})
	whole("abc-abc+abc*abc", none...).behind(12).is(t, listed(match(3, 3)), [4]uint32{3, 99, 98, 97})
	whole("ab-ab+ab", none...).behind(6).is(t, listed(match(2, 2)), [4]uint32{2, 99, 98, 97})
}

// TestFarPairs: a match of two bytes is taken at distances below 128, one of three at any.
func TestFarPairs(t *testing.T) {
	none := []uint32{999, 999, 999, 999}
	for gap := range 128 {
		d := uint32(gap + 1)
		pair, three := whole("xy"+filler(gap)+"xyz", none...), whole("xyz"+filler(gap)+"xyz", none...)
		if d < 128 {
			pair.behind(2+gap).is(t, listed(match(2, d), "z"), [4]uint32{d, 999, 999, 999})
		} else {
			pair.behind(2+gap).is(t, listed("xyz"), [4]uint32(none))
		}
		three.behind(3+gap).is(t, listed(match(3, d+1)), [4]uint32{d + 1, 999, 999, 999})
	}
	// Behind two bytes that aren't worth a match comes what is.
	whole("xyabc"+filler(124)+"-xyabc", none...).behind(130).is(t, listed(match(5, 129)), [4]uint32{129, 999, 999, 999})
	whole("xy"+filler(128)+"abc-xyabc", none...).behind(134).is(t, listed("xy", match(3, 5)), [4]uint32{5, 999, 999, 999})
	// Two bytes at an elder distance may be as far as they will.
	whole("xy"+filler(128)+"xy", 999, 129).behind(130).is(t, listed(again(1, 2)), [4]uint32{129, 999})
	// Three bytes at any distance, and two of them near.
	whole("xyz"+filler(128)+"xy-xyz", none...).behind(134).is(t, listed(match(3, 133)), [4]uint32{133, 999, 999, 999})
}

// TestSingle: the byte at the first elder distance, if neither a copy again nor a match is worth it.
func TestSingle(t *testing.T) {
	whole("abxc", 2).behind(3).is(t, listed("c"), [4]uint32{2})
	whole("abxa", 2).behind(3).is(t, listed(single()), [4]uint32{2})
	whole("abxa", 2, 2, 2, 2).behind(3).is(t, listed(single()), [4]uint32{2, 2, 2, 2})
	// Just the first one's.
	whole("abxa", 1, 2, 2, 2).behind(3).is(t, listed("a"), [4]uint32{1, 2, 2, 2})
	// At the end of what is told there is room for no copy.
	whole("aaaa", 1).behind(3).is(t, listed(single()), [4]uint32{1})
	whole("aaaa", 0).till(2).is(t, listed("a", single()), [4]uint32{})
	whole("abab", 1).behind(2).till(3).is(t, listed(single()), [4]uint32{1})
	// A match of two is taken ahead of it, if it isn't too far.
	whole("abxacyab", 4, 9, 9, 9).behind(6).is(t, listed(match(2, 5)), [4]uint32{5, 4, 9, 9})
	whole("xy"+filler(126)+"xzxy", 1, 9, 9, 9).behind(130).is(t, listed(single(), "y"), [4]uint32{1, 9, 9, 9})
	whole("xy"+filler(125)+"xzxy", 1, 9, 9, 9).behind(129).is(t, listed(single(), "y"), [4]uint32{1, 9, 9, 9})
	whole("xy"+filler(124)+"xzxy", 1, 9, 9, 9).behind(128).is(t, listed(match(2, 127)), [4]uint32{127, 1, 9, 9})
}

// TestPlaceBounds: a distance must be below the place.
func TestPlaceBounds(t *testing.T) {
	whole("aaaaa", 0).is(t, listed("a", again(0, 4)), [4]uint32{})
	whole("aaaaa", 1, 1, 1, 1).is(t, listed("a", match(4, 0)), [4]uint32{0, 1, 1, 1})
	whole("aaaaa", 2, 2, 2, 2).behind(2).is(t, listed(match(3, 0)), [4]uint32{0, 2, 2, 2})
	whole("aaaaa", 1, 2, 2, 2).behind(2).is(t, listed(again(0, 3)), [4]uint32{1, 2, 2, 2})
	whole("ab", 0).is(t, listed("ab"), [4]uint32{})
	whole("aa", 1).is(t, listed("aa"), [4]uint32{1})
	whole("aa", 0).is(t, listed("a", single()), [4]uint32{})
	for _, far := range []uint32{5, 6, math.MaxInt32, math.MaxInt32 + 1, math.MaxUint32 - 1, math.MaxUint32} {
		whole("abcabc", far, far, far, far).behind(3).is(t, listed(match(3, 2)), [4]uint32{2, far, far, far})
		whole("a", far, far, far, far).is(t, listed("a"), [4]uint32{far, far, far, far})
	}
}

// TestDictBounds: a distance must be below the dictionary, that of a match, of a copy again, and of a single one.
func TestDictBounds(t *testing.T) {
	q := whole("abcd-abcd", 9, 9, 9, 9).behind(5)
	q.within(5).is(t, listed(match(4, 4)), [4]uint32{4, 9, 9, 9})
	q.within(4).is(t, listed("abcd"), [4]uint32{9, 9, 9, 9})
	q = whole("abcd-abcd", 9, 9, 4, 9).behind(5)
	q.within(5).is(t, listed(again(2, 4)), [4]uint32{4, 9, 9, 9})
	q.within(4).is(t, listed("abcd"), [4]uint32{9, 9, 4, 9})
	q = whole("abcd-aefg", 4, 9, 9, 9).behind(5)
	q.within(5).is(t, listed(single(), "efg"), [4]uint32{4, 9, 9, 9})
	q.within(4).is(t, listed("aefg"), [4]uint32{4, 9, 9, 9})
	// A shorter copy lies within.
	whole("abcd-abc+abcd", 99, 99, 99, 99).behind(9).within(8).is(t, listed(match(3, 3), "d"), [4]uint32{3, 99, 99, 99})
	// The dictionary goes along with the place.
	whole("-abcdefghabcd", 99, 99, 99, 99).behind(5).within(8).is(t, listed("efgh", match(4, 7)), [4]uint32{7, 99, 99, 99})
	whole("-abcdefghabcd", 99, 99, 99, 99).behind(5).within(7).is(t, listed("efghabcd"), [4]uint32{99, 99, 99, 99})
	for _, dict := range []int{math.MinInt, -1, 0, 1} {
		whole("aabab").within(dict).is(t, listed("a", single(), "bab"), [4]uint32{})
		whole("abaaa", 3, 3, 3, 3).within(dict).is(t, listed("aba", match(2, 0)), [4]uint32{0, 3, 3, 3})
	}
	for _, dict := range []int{2, 3, 4096, math.MaxUint32, math.MaxUint32 + 1, math.MaxInt - 1, math.MaxInt} {
		whole("abab").within(dict).is(t, listed("ab", match(2, 1)), [4]uint32{1})
	}
}

// TestMostLen: no packet has more than 273 bytes.
func TestMostLen(t *testing.T) {
	row := strings.Repeat("a", 601)
	for n := 2; n <= 600; n++ {
		var rest []api.Packet
		for left := n; left > 0; left -= 273 {
			if left == 1 {
				rest = append(rest, single())
			} else {
				rest = append(rest, again(0, min(left, 273)))
			}
		}
		whole(row).till(1+n).is(t, listed("a", rest), [4]uint32{})
	}
	for _, n := range []int{272, 273, 274, 275, 546, 547, 600} {
		b := make([]byte, n)
		rand.New(rand.NewSource(int64(n))).Read(b)
		q := asked{b: slices.Concat(b, []byte("-"), b), from: n + 1, to: 2*n + 1, dict: 1 << 20, reps: [4]uint32{4000, 4000, 4000, 4000}}
		q.isModels(t)
		if list, _ := q.find(); list[0] != match(min(n, 273), uint32(n)) {
			t.Errorf("P10.1: %d bytes again: %v", n, list)
		}
	}
	// A row that is longer than another one is as good, as copies of both have 273 bytes.
	text := strings.Repeat("b", 300) + "-" + strings.Repeat("b", 280) + "+" + strings.Repeat("b", 279)
	whole(text, 0, 0, 0, 280).behind(582).is(t, listed(again(3, 273), again(0, 6)), [4]uint32{280})
	whole(text, 999, 999, 999, 999).behind(582).is(t, listed(match(273, 273), match(6, 0)), [4]uint32{0, 273, 999, 999})
	// One byte fewer again is as good as the longest match, two bytes fewer aren't.
	row = strings.Repeat("c", 273)
	whole(row[:272]+"-"+row+"+"+row, 273, 99999, 99999, 99999).behind(547).is(t, listed(again(0, 273)), [4]uint32{273, 99999, 99999, 99999})
	whole(row+"+"+row[:272]+"-"+row, 272, 99999, 99999, 99999).behind(547).is(t, listed(again(0, 272), "c"), [4]uint32{272, 99999, 99999, 99999})
	whole(row+"+"+row[:271]+"-"+row, 271, 99999, 99999, 99999).behind(546).is(t, listed(match(273, 545)), [4]uint32{545, 271, 99999, 99999})
}

// TestEndOfWhatIsTold: no packet tells bytes behind it, though they are there and the same.
func TestEndOfWhatIsTold(t *testing.T) {
	none := []uint32{99, 98, 97, 96}
	q := whole("abcdef-abcdef", none...).behind(7)
	q.till(13).is(t, listed(match(6, 6)), [4]uint32{6, 99, 98, 97})
	q.till(12).is(t, listed(match(5, 6)), [4]uint32{6, 99, 98, 97})
	q.till(9).is(t, listed(match(2, 6)), [4]uint32{6, 99, 98, 97})
	q.till(8).is(t, listed("a"), [4]uint32(none))
	// Of copies that would be longer, just the bytes till there count.
	q = whole("abcdef-abcd+abcdef", none...).behind(12)
	q.till(18).is(t, listed(match(6, 11)), [4]uint32{11, 99, 98, 97})
	q.till(16).is(t, listed(match(4, 4)), [4]uint32{4, 99, 98, 97})
	q = whole("abcdef-abc+abcdef", 3, 10).behind(11)
	q.till(17).is(t, listed(again(1, 6)), [4]uint32{10, 3})
	q.till(14).is(t, listed(again(0, 3)), [4]uint32{3, 10})
	// The bytes behind the end change nothing.
	for seed := range int64(300) {
		r := rand.New(rand.NewSource(seed))
		q := anyAsked(r, 300)
		list, reps := q.find()
		if to := min(max(q.to, q.from, 0), len(q.b)); to < len(q.b) {
			q.b = slices.Concat(q.b[:to], anyBytes(r, 40, 2))
			q.till(to).is(t, list, reps)
		}
	}
}

// TestBeginning: what lies ahead of the first byte that is told is copied from, but not told.
func TestBeginning(t *testing.T) {
	whole("abab").behind(2).is(t, listed(match(2, 1)), [4]uint32{1})
	whole("abab").behind(3).is(t, listed("b"), [4]uint32{})
	whole("abab", 1).behind(3).is(t, listed(single()), [4]uint32{1})
	whole("aaaa").behind(2).is(t, listed(again(0, 2)), [4]uint32{})
	whole("bcbc", 3, 2, 1, 0).behind(2).is(t, listed(again(2, 2)), [4]uint32{1, 3, 2, 0})
	// Two bytes of which the second one is the first that is told.
	whole("xabab").behind(2).is(t, listed("b", match(2, 1)), [4]uint32{1})
	whole("xaaa", 9, 9, 9, 9).behind(2).is(t, listed(match(2, 0)), [4]uint32{0, 9, 9, 9})
}

// TestBounds: from counts as 0 at least, to as from at least, both as the length at most.
func TestBounds(t *testing.T) {
	text := "abcabcab"
	least := []int{math.MinInt, math.MinInt + 1, math.MinInt32, -1, 0}
	most := []int{8, 9, math.MaxInt32, math.MaxUint32, math.MaxInt - 1, math.MaxInt}
	all, reps := listed("abc", match(5, 2)), [4]uint32{2}
	for _, low := range least {
		for _, high := range most {
			whole(text).behind(low).till(high).is(t, all, reps)
			whole(text).behind(high).till(low).is(t, nil, [4]uint32{})
		}
		for _, other := range least {
			whole(text).behind(low).till(other).is(t, nil, [4]uint32{})
		}
		whole(text).behind(low).till(3).is(t, listed("abc"), [4]uint32{})
		whole(text).behind(3).till(low).is(t, nil, [4]uint32{})
	}
	for _, high := range most {
		for _, other := range most {
			whole(text).behind(high).till(other).is(t, nil, [4]uint32{})
		}
		whole(text).behind(3).till(high).is(t, listed(match(5, 2)), reps)
		whole(text).behind(high).till(3).is(t, nil, [4]uint32{})
	}
}

// TestElderGoOver: behind each packet they are as layer 9 has them, for the packets behind.
func TestElderGoOver(t *testing.T) {
	whole("abcd-abcdXefgYabcd-efgY", 99, 98, 97, 96).is(t, listed("abcd-", match(4, 4), "XefgY", match(5, 13), match(4, 8)), [4]uint32{8, 13, 4, 99})
	whole("ccbbbcccbabaccabbb").is(t, listed("c", single(), "b", again(0, 2), match(2, 4), match(2, 5), "a", match(2, 1), again(1, 2), again(2, 2), again(3, 2)), [4]uint32{0, 4, 5, 1})
}

// TestHandedIn: bytes, and what lies behind them, stay as they are; what was answered stays, whatever becomes of them.
func TestHandedIn(t *testing.T) {
	for seed := range int64(200) {
		q := anyAsked(rand.New(rand.NewSource(seed)), 200)
		room := slices.Concat(q.b, []byte("spare room"))
		q.b = room[:len(q.b)]
		was := bytes.Clone(room)
		list, reps := q.find()
		if !bytes.Equal(room, was) {
			t.Fatalf("P10.1: %v: the bytes are %x, were %x", q, room, was)
		}
		q.is(t, list, reps)
		kept := slices.Clone(list)
		clear(room)
		if !slices.Equal(list, kept) {
			t.Fatalf("P10.1: %v: the packets hang on what becomes of the bytes", q)
		}
		copy(room, was)
		clear(append(list, list...))
		clear(list)
		q.is(t, kept, reps)
	}
}
