package packet_test

import (
	"testing"

	"garbler/api"
	"garbler/packet"
)

// TestStates: each of the twelve, by the chapter's rules of layer 8 written out.
func TestStates(t *testing.T) {
	for state, want := range [][5]int{
		{0, 7, 8, 9, 0}, {0, 7, 8, 9, 0}, {0, 7, 8, 9, 0}, {0, 7, 8, 9, 0}, {1, 7, 8, 9, 0}, {2, 7, 8, 9, 0}, {3, 7, 8, 9, 0},
		{4, 10, 11, 11, 1}, {5, 10, 11, 11, 1}, {6, 10, 11, 11, 1}, {4, 10, 11, 11, 1}, {5, 10, 11, 11, 1},
	} {
		got := [5]int{packet.BehindLiteral(state), packet.BehindMatch(state), packet.BehindAgain(state), packet.BehindSingle(state), 0}
		if packet.Apart(state) {
			got[4] = 1
		}
		if got != want {
			t.Errorf("state %d: %v, not %v", state, got, want)
		}
	}
}

func TestDistances(t *testing.T) {
	d := packet.Distances{}
	for i := range uint32(6) {
		d.Push(i)
	}
	if d != (packet.Distances{5, 4, 3, 2}) {
		t.Errorf("pushed: %v", d)
	}
	for which, want := range []packet.Distances{{5, 4, 3, 2}, {4, 5, 3, 2}, {3, 5, 4, 2}, {2, 5, 4, 3}} {
		was := d
		if was.Raise(which); was != want {
			t.Errorf("%d raised: %v, not %v", which, was, want)
		}
	}
}

// TestLiterals: each of the places and bytes that a setting tells apart has a row of its own, and no other row.
func TestLiterals(t *testing.T) {
	for lc := range 9 {
		for lp := range 5 {
			p := api.Lzma{Lc: lc, Lp: lp}
			all := make([]uint16, packet.OfLiterals(p))
			rows := map[*uint16][2]int{}
			for place := range 40 {
				for last := range 256 {
					row := packet.Literal(all, p, place, byte(last))
					kind := [2]int{place % (1 << lp), last / (1 << (8 - lc))}
					if was, ok := rows[&row[0]]; ok && was != kind || len(row) != 768 {
						t.Fatalf("%+v: %v and %v have one row of %d", p, was, kind, len(row))
					}
					rows[&row[0]] = kind
				}
			}
			if len(rows) != 1<<(lc+lp) || len(all) != 768*len(rows) {
				t.Errorf("%+v: %d rows of %d probabilities", p, len(rows), len(all))
			}
		}
	}
}

// TestSlots: lengths 0 to 2 have a row each, greater ones the last.
func TestSlots(t *testing.T) {
	c := new(packet.Chances)
	rows := map[*uint16]int{}
	for l := range 272 {
		row := c.Slot(l)
		if which, ok := rows[&row[0]]; ok && which != min(l, 3) || len(row) != 64 {
			t.Fatalf("length %d: the row of %d, of %d", l, which, len(row))
		}
		rows[&row[0]] = min(l, 3)
	}
	if len(rows) != 4 {
		t.Errorf("%d rows", len(rows))
	}
}

// TestRenew: every probability begins, wherever it went.
func TestRenew(t *testing.T) {
	one, two := new(packet.Chances), new(packet.Chances)
	one.Renew()
	for i := range two.Match {
		packet.Renew(two.Match[i][:])
		two.Long[i][i] = uint16(i)
		two.Rep2[i] = uint16(2 * i)
	}
	for l := range 4 {
		two.Slot(l)[63-l] = 77
	}
	two.Len.First, two.RepLen.Second, two.Len.Low[15][7], two.RepLen.Mid[15][7], two.Len.High[255], two.RepLen.High[1] = 1, 2, 3, 4, 5, 6
	two.Rep[11], two.Rep0[1], two.Rep1[5], two.Special[114], two.Align[15] = 7, 8, 9, 10, 11
	two.Renew()
	if *one != *two {
		t.Error("not all probabilities begin anew")
	}
	if one.Match[11][15] != 1024 || one.Len.First != 1024 || one.Slot(9)[63] != 1024 || one.Special[114] != 1024 {
		t.Error("a probability begins as another number")
	}
}
