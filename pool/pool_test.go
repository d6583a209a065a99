package pool

import (
	"bytes"
	"math"
	"slices"
	"testing"

	"deedhold/api"
)

// model has 1 for each number that is free.
type model []int

func (m model) next(i int) (int, bool) {
	for k := max(i, 0); k < len(m); k++ {
		if m[k] == 1 {
			return k, true
		}
	}
	return 0, false
}

// check holds a pool against what it must be.
func check(t *testing.T, p *Pool, m model) {
	t.Helper()
	var free, got []int
	var runs, gotRuns [][2]int
	want := make([]byte, (len(m)+7)/8)
	for i, f := range m {
		if f == 0 {
			continue
		}
		free = append(free, i)
		want[i/8] |= 1 << (i % 8)
		if k := len(runs) - 1; k >= 0 && runs[k][0]+runs[k][1] == i {
			runs[k][1]++
		} else {
			runs = append(runs, [2]int{i, 1})
		}
	}
	for i := range p.All() {
		got = append(got, i)
	}
	for i, n := range p.Runs() {
		gotRuns = append(gotRuns, [2]int{i, n})
	}
	if p.Len() != len(m) || p.Free() != len(free) || !slices.Equal(got, free) || !slices.Equal(gotRuns, runs) || !bytes.Equal(p.Bytes(), want) {
		t.Fatalf("%v: Len %d, Free %d, All %v, Runs %v, Bytes %x", m, p.Len(), p.Free(), got, gotRuns, p.Bytes())
	}
	for i := -2; i < len(m)+2; i++ {
		a, okA := p.Next(i)
		b, okB := m.next(i)
		if a != b || okA != okB || p.Has(i) != (i >= 0 && i < len(m) && m[i] == 1) {
			t.Fatalf("Next(%d): %d, %t; want %d, %t", i, a, okA, b, okB)
		}
	}
	q, ok := Parse(want, len(m))
	if !ok || !q.Equal(p) || !p.Equal(q) || q.Free() != p.Free() {
		t.Fatal("Parse of its bytes")
	}
}

func TestNew(t *testing.T) { // P7.1
	for _, n := range []int{-1, 1<<16 + 1, math.MinInt, math.MaxInt} {
		if New(n) != nil {
			t.Errorf("New(%d)", n)
		}
	}
	for _, n := range []int{0, 1, 7, 8, 9, 63, 64, 65, 1000} {
		check(t, New(n), slices.Repeat(model{1}, n))
	}
	if p := New(1 << 16); p == nil || p.Free() != 1<<16 || !p.Has(1<<16-1) || p.Has(1<<16) {
		t.Error("the greatest one")
	}
}

func TestTakeMarkGive(t *testing.T) { // P7.1, P7.2
	for _, n := range []int{0, 1, 3, 64, 65, 130} {
		p, m, seed := New(n), slices.Repeat(model{1}, n), uint32(n+1)
		for range 400 {
			seed = seed*1664525 + 1013904223
			i := int(seed>>16)%(n+4) - 2
			in := i >= 0 && i < n
			var e, want api.Errno
			switch seed >> 8 % 3 {
			case 0:
				k, ok := m.next(0)
				var got int
				if got, e = p.Take(); !ok {
					want = api.ErrFull
				} else {
					m[k] = 0
				}
				if got != k {
					t.Fatalf("Take: %d, want %d", got, k)
				}
			case 1:
				if e = p.Mark(i); !in {
					want = api.ErrRange
				} else if m[i] == 0 {
					want = api.ErrState
				} else {
					m[i] = 0
				}
			case 2:
				if e = p.Give(i); !in {
					want = api.ErrRange
				} else if m[i] == 1 {
					want = api.ErrState
				} else {
					m[i] = 1
				}
			}
			if e != want {
				t.Fatalf("of %d, %d: %d, want %d", n, i, e, want)
			}
			check(t, p, m)
		}
	}
	p := New(3)
	for range 2 {
		if i, e := p.Take(); i != 0 || e != api.OK || p.Give(0) != api.OK {
			t.Error("the example")
		}
	}
	for _, i := range []int{math.MinInt, math.MaxInt} {
		if _, ok := p.Next(i); ok != (i < 0) || p.Has(i) || p.Mark(i) != api.ErrRange || p.Give(i) != api.ErrRange {
			t.Errorf("far off: %d", i)
		}
	}
}

func TestAsked(t *testing.T) { // P7.2
	p := New(100)
	p.Mark(3)
	p.Mark(50)
	n := 0
	for range p.All() {
		if n++; n == 2 {
			break
		}
	}
	for i := range p.Runs() {
		if n++; i == 4 {
			break
		}
	}
	for i := range p.Runs() {
		if n++; i == 51 {
			break
		}
	}
	if n != 7 {
		t.Errorf("%d were told", n)
	}
	all := p.All()
	p.Mark(0)
	for i := range all {
		if i != 1 {
			t.Error("it is told as it was when it was asked for")
		}
		break
	}
}

func TestParse(t *testing.T) { // P7.3
	for _, c := range []struct {
		b []byte
		n int
	}{{[]byte{0}, 0}, {nil, 1}, {[]byte{2}, 1}, {[]byte{0x80}, 7}, {[]byte{1, 1}, 8}, {[]byte{1, 2}, 9}, {[]byte{1}, 9}, {nil, -1}, {make([]byte, 1<<13+1), 1<<16 + 1}, {nil, math.MinInt}, {nil, math.MaxInt}} {
		if p, ok := Parse(c.b, c.n); ok || p != nil {
			t.Errorf("Parse(%x, %d)", c.b, c.n)
		}
	}
	if p, ok := Parse(nil, 0); !ok || p.Len() != 0 {
		t.Error("the least one")
	}
	b := []byte{0xff, 1}
	p, ok := Parse(b, 9)
	clear(b)
	if !ok || p.Free() != 9 {
		t.Error("Parse keeps the bytes")
	}
	clear(p.Bytes())
	check(t, p, slices.Repeat(model{1}, 9))
}

func TestCopyEqual(t *testing.T) { // P7.3
	p := New(70)
	p.Take()
	c := p.Copy()
	if !c.Equal(p) || New(70).Equal(p) || New(69).Equal(New(70)) || !New(0).Equal(New(0)) {
		t.Error("Equal")
	}
	c.Take()
	p.Mark(69)
	if p.Has(0) || !p.Has(1) || c.Has(1) || !c.Has(69) || p.Free() != 68 || c.Free() != 68 || p.Equal(c) {
		t.Error("a copy is the same object")
	}
}
