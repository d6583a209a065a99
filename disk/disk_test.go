package disk

import (
	"bytes"
	"math"
	"slices"
	"testing"

	"deedhold/api"
)

func fill(c byte) []byte { return bytes.Repeat([]byte{c}, 16) }

func is(t *testing.T, what string, e, want api.Errno) {
	t.Helper()
	if e != want {
		t.Errorf("%s: %d, want %d", what, e, want)
	}
}

func has(t *testing.T, d *Disk, i int, want []byte) {
	t.Helper()
	if b, e := d.Read(i); e != api.OK || !bytes.Equal(b, want) {
		t.Errorf("sector %d: %x, %d; want %x", i, b, e, want)
	}
}

func TestNew(t *testing.T) { // P5.1
	for _, c := range [][2]int{{0, 16}, {-1, 16}, {4097, 16}, {1, 15}, {1, 4097}, {1, -1}, {math.MaxInt, math.MaxInt}, {math.MinInt, 16}} {
		if New(c[0], c[1]) != nil {
			t.Errorf("New(%d, %d)", c[0], c[1])
		}
	}
	for _, c := range [][2]int{{1, 16}, {4096, 16}, {3, 4096}} {
		d := New(c[0], c[1])
		if d == nil || d.Sectors() != c[0] || d.Size() != c[1] || d.Down() || d.Commands() != 0 || len(d.Cached()) != 0 {
			t.Fatalf("New(%d, %d)", c[0], c[1])
		}
		has(t, d, 0, make([]byte, c[1]))
		has(t, d, c[0]-1, make([]byte, c[1]))
	}
}

func TestReadWrite(t *testing.T) { // P5.2
	d := New(4, 16)
	is(t, "Write", d.Write(2, fill(7)), api.OK)
	is(t, "Write", d.Write(0, fill(8)), api.OK)
	is(t, "Write again", d.Write(2, fill(9)), api.OK)
	if !slices.Equal(d.Cached(), []int{0, 2}) || d.Commands() != 3 {
		t.Errorf("%v %d", d.Cached(), d.Commands())
	}
	has(t, d, 2, fill(9))
	for _, i := range []int{-1, 4, math.MinInt, math.MaxInt} {
		is(t, "Write", d.Write(i, nil), api.ErrRange)
		b, e := d.Read(i)
		is(t, "Read", e, api.ErrRange)
		if b != nil {
			t.Error("bytes beside an error")
		}
	}
	for _, n := range []int{0, 15, 17} {
		is(t, "Write", d.Write(1, make([]byte, n)), api.ErrForm)
	}
	if d.Commands() != 3 || len(d.Cached()) != 2 {
		t.Error("what was refused counts")
	}
	is(t, "Flush", d.Flush(), api.OK)
	if len(d.Cached()) != 0 || d.Commands() != 4 {
		t.Error("Flush")
	}
	d.Crash(Loss{})
	has(t, d, 2, fill(9))
	has(t, d, 0, fill(8))
}

func TestArm(t *testing.T) { // P5.2
	d := New(4, 16)
	d.Arm(2)
	is(t, "Write", d.Write(0, fill(1)), api.OK)
	is(t, "refused", d.Write(9, fill(1)), api.ErrRange)
	is(t, "refused", d.Write(1, nil), api.ErrForm)
	is(t, "Flush", d.Flush(), api.OK)
	if d.Down() {
		t.Error("down too early")
	}
	is(t, "Write", d.Write(1, fill(2)), api.ErrDown)
	if !d.Down() || !slices.Equal(d.Cached(), []int{1}) || d.Commands() != 2 {
		t.Errorf("%t %v %d", d.Down(), d.Cached(), d.Commands())
	}
	is(t, "Write", d.Write(2, fill(2)), api.ErrDown)
	is(t, "Write far", d.Write(99, nil), api.ErrDown)
	is(t, "Flush", d.Flush(), api.ErrDown)
	_, e := d.Read(99)
	is(t, "Read", e, api.ErrDown)
	if !slices.Equal(d.Cached(), []int{1}) {
		t.Error("a write behind the end of the power stands in the cache")
	}
	d.Arm(5)
	_, e = d.Read(0)
	for _, e := range []api.Errno{e, d.Write(0, fill(3)), d.Flush()} {
		is(t, "armed when it is down", e, api.ErrDown)
	}
	if !d.Down() {
		t.Error("armed, it is up again")
	}
	d.Crash(Loss{Keep: []int{1}})
	has(t, d, 1, fill(2))
	for range 9 {
		is(t, "Flush", d.Flush(), api.OK)
	}
	d.Arm(0)
	is(t, "Flush", d.Flush(), api.ErrDown)
	d.Crash(Loss{})
	d.Arm(0)
	d.Arm(-1)
	is(t, "Flush", d.Flush(), api.OK)
	d.Arm(0)
	d.Arm(math.MinInt)
	is(t, "Flush", d.Flush(), api.OK)
	d.Arm(math.MaxInt)
	is(t, "Flush", d.Flush(), api.OK)
}

func TestFlushThatFindsThePowerGone(t *testing.T) { // P5.2
	d := New(2, 16)
	d.Write(0, fill(5))
	d.Arm(0)
	is(t, "Flush", d.Flush(), api.ErrDown)
	if !slices.Equal(d.Cached(), []int{0}) {
		t.Error("the cache is empty")
	}
	d.Crash(Loss{Torn: 1})
	has(t, d, 0, fill(0))
}

func TestCrash(t *testing.T) { // P5.3
	make4 := func() *Disk {
		d := New(4, 16)
		for i := range 3 {
			d.Write(i, fill(byte(i+1)))
		}
		d.Flush()
		for i := range 3 {
			d.Write(i, fill(byte(i+11)))
		}
		d.Arm(1)
		return d
	}
	torn := func(old, c byte, cut int) []byte { return append(fill(c)[:cut:cut], fill(old)[cut:]...) }
	for _, c := range []struct {
		l    Loss
		want [3][]byte
	}{
		{Loss{Torn: -1}, [3][]byte{fill(1), fill(2), fill(3)}},
		{Loss{}, [3][]byte{fill(1), fill(2), fill(3)}},
		{Loss{Keep: []int{0, 2, 2, 3, -7, 99}, Torn: 3, Cut: 16}, [3][]byte{fill(11), fill(2), fill(13)}},
		{Loss{Torn: 1, Cut: 3}, [3][]byte{fill(1), torn(2, 12, 3), fill(3)}},
		{Loss{Torn: 1, Cut: -3}, [3][]byte{fill(1), fill(2), fill(3)}},
		{Loss{Torn: 1, Cut: math.MinInt}, [3][]byte{fill(1), fill(2), fill(3)}},
		{Loss{Torn: 1, Cut: 15}, [3][]byte{fill(1), torn(2, 12, 15), fill(3)}},
		{Loss{Torn: 1, Cut: 16}, [3][]byte{fill(1), fill(12), fill(3)}},
		{Loss{Torn: 1, Cut: math.MaxInt}, [3][]byte{fill(1), fill(12), fill(3)}},
		{Loss{Keep: []int{1}, Torn: 1, Cut: 3}, [3][]byte{fill(1), fill(12), fill(3)}},
		{Loss{Keep: []int{0}, Torn: 2, Cut: 1}, [3][]byte{fill(11), fill(2), torn(3, 13, 1)}},
		{Loss{Torn: 77, Cut: 1}, [3][]byte{fill(1), fill(2), fill(3)}},
	} {
		d := make4()
		n := d.Commands()
		d.Crash(c.l)
		for i, want := range c.want {
			has(t, d, i, want)
		}
		has(t, d, 3, fill(0))
		if len(d.Cached()) != 0 || d.Down() || d.Commands() != n {
			t.Errorf("%v: %v", c.l, d.Cached())
		}
		is(t, "Flush", d.Flush(), api.OK)
		is(t, "Flush", d.Flush(), api.OK)
	}
}

func TestCopy(t *testing.T) { // P5.4
	d := New(3, 16)
	d.Write(0, fill(1))
	d.Flush()
	d.Write(1, fill(2))
	d.Arm(1)
	c := d.Copy()
	if c.Commands() != 3 || !slices.Equal(c.Cached(), []int{1}) || c.Sectors() != 3 || c.Size() != 16 {
		t.Error("it is not the same")
	}
	is(t, "Write", c.Write(0, fill(9)), api.OK)
	is(t, "Write", c.Write(0, fill(9)), api.ErrDown)
	if d.Down() {
		t.Error("the first one is down, too")
	}
	has(t, d, 0, fill(1))
	c.Crash(Loss{Keep: []int{0, 1}})
	c.Flush()
	d.Crash(Loss{Torn: 1, Cut: 4})
	has(t, c, 1, fill(2))
	has(t, c, 0, fill(9))
	has(t, d, 0, fill(1))
	has(t, d, 1, append(fill(2)[:4:4], fill(0)[4:]...))
	d.Arm(0)
	d.Flush()
	if x := d.Copy(); !x.Down() {
		t.Error("the copy of one that is down")
	}
}

func TestMemory(t *testing.T) { // P5.4
	d := New(2, 16)
	b := fill(1)
	d.Write(0, b)
	clear(b)
	has(t, d, 0, fill(1))
	r, _ := d.Read(0)
	clear(r[:cap(r)])
	has(t, d, 0, fill(1))
	d.Flush()
	r, _ = d.Read(0)
	clear(r[:cap(r)])
	has(t, d, 0, fill(1))
	r, _ = d.Read(1)
	r[0] = 1
	has(t, d, 1, fill(0))
	keep := []int{0, 1}
	d.Crash(Loss{Keep: keep})
	if !slices.Equal(keep, []int{0, 1}) {
		t.Error("Keep is changed")
	}
}
