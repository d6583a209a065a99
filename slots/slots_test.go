package slots

import (
	"bytes"
	"math"
	"slices"
	"testing"

	"deedhold/api"
	"deedhold/disk"
	"deedhold/seal"
	"deedhold/varint"
)

// full is a root of n numbers whose bytes are the longest.
func full(n int) Root { return Root{1 << 40, slices.Repeat([]int{4095}, n)} }

func encode(r Root, size int) []byte {
	b, _ := seal.Fit(new(varint.Out).Int(r.Epoch).Ints(r.Table...).All(), size-8)
	for i := 7; i >= 0; i-- {
		b = append(b, byte(r.Epoch>>(8*i)))
	}
	return b
}

func TestRight(t *testing.T) { // P6.1
	for i, c := range []struct {
		r    Root
		want bool
	}{
		{Root{1, nil}, true}, {Root{1 << 40, []int{0, 4095, 0}}, true}, {full(64), true}, {Root{}, false}, {Root{-1, nil}, false},
		{Root{1<<40 + 1, nil}, false}, {full(65), false}, {Root{1, []int{-1}}, false}, {Root{1, []int{4096}}, false}, {Root{math.MinInt, nil}, false},
	} {
		b, e := c.r.Bytes(512)
		if c.r.Right() != c.want || (e == api.ErrForm) == c.want || c.want && !bytes.Equal(b, encode(c.r, 512)) || !c.want && b != nil {
			t.Errorf("%d: %t, %x, %d", i, c.r.Right(), b, e)
		}
	}
	if !(Root{1, nil}).Equal(Root{1, []int{}}) || (Root{1, nil}).Equal(Root{2, nil}) || (Root{1, []int{1, 2}}).Equal(Root{1, []int{1, 3}}) || (Root{1, []int{1}}).Equal(Root{1, nil}) || !(Root{3, []int{4}}).Equal(Root{3, []int{4}}) {
		t.Error("Equal")
	}
}

func TestBytes(t *testing.T) { // P6.1
	r := Root{5, []int{1, 300}}
	need := 1 + 1 + 1 + 2 + 6 + 8
	for _, size := range []int{math.MinInt, -1, 0, 7, 8, 13, need - 1, need, need + 1, 64, 4096, 1<<16 + 8, 1<<16 + 9, math.MaxInt} {
		b, e := r.Bytes(size)
		if size < need || size > 1<<16+8 {
			if e != api.ErrMany || b != nil {
				t.Errorf("size %d: %d", size, e)
			}
			continue
		}
		if e != api.OK || !bytes.Equal(b, encode(r, size)) {
			t.Errorf("size %d: %x, %d", size, b, e)
		}
		if p, ok := Parse(b); !ok || !p.Equal(r) {
			t.Errorf("size %d: %v, %t", size, p, ok)
		}
	}
}

func TestParse(t *testing.T) { // P6.1
	b, _ := (Root{7, []int{2, 3}}).Bytes(64)
	for i := range 64 * 8 {
		b[i/8] ^= 1 << (i % 8)
		if p, ok := Parse(b); ok || !p.Equal(Root{}) {
			t.Errorf("bit %d turned: %v", i, p)
		}
		b[i/8] ^= 1 << (i % 8)
	}
	for n := range 64 {
		if _, ok := Parse(b[:n]); ok {
			t.Errorf("%d bytes of it", n)
		}
	}
	for name, c := range map[string]Root{"epoch 0": {0, nil}, "an epoch too great": {1<<40 + 1, nil}, "a number below 0": {1, []int{-1}}, "a number too great": {1, []int{4096}}, "too many": full(65)} {
		if p, ok := Parse(encode(c, 256)); ok {
			t.Errorf("%s: %v", name, p)
		}
	}
	long, _ := seal.Fit([]byte{2, 0, 0}, 56)
	if _, ok := Parse(append(long, 0, 0, 0, 0, 0, 0, 0, 1)); ok {
		t.Error("a byte behind the table")
	}
	if p, ok := Parse(encode(Root{1, nil}, 64)); !ok || !p.Equal(Root{1, nil}) {
		t.Error("the least one")
	}
}

func TestFits(t *testing.T) { // P6.1
	for n := -1; n <= 65; n++ {
		for size := range 200 {
			_, e := full(max(n, 0)).Bytes(size)
			want := e == api.OK && n >= 0
			if Fits(n, size) != want {
				t.Errorf("Fits(%d, %d): %t", n, size, !want)
			}
		}
	}
	if Fits(1, math.MaxInt) || Fits(1, math.MinInt) || Fits(math.MinInt, 64) || Fits(math.MaxInt, 64) || !Fits(64, 1<<16+8) || Fits(0, 1<<16+9) {
		t.Error("Fits, far off")
	}
}

func TestLoadSave(t *testing.T) { // P6.2
	d := disk.New(4, 64)
	if r, e := Load(d); e != api.ErrNone || !r.Equal(Root{}) {
		t.Errorf("an empty disk: %v, %d", r, e)
	}
	for epoch := 1; epoch < 6; epoch++ {
		r := Root{epoch, []int{epoch, 9}}
		n := d.Commands()
		if e := Save(d, r); e != api.OK || d.Commands() != n+2 || len(d.Cached()) != 0 {
			t.Fatalf("Save: %d", e)
		}
		b, _ := d.Read(epoch % 2)
		if got, e := Load(d); e != api.OK || !got.Equal(r) || !bytes.Equal(b, encode(r, 64)) {
			t.Fatalf("Load: %v, %d", got, e)
		}
	}
	if e := Save(d, Root{}); e != api.ErrForm {
		t.Errorf("no right one: %d", e)
	}
	if e := Save(d, full(64)); e != api.ErrMany {
		t.Errorf("too many: %d", e)
	}
	one := disk.New(1, 64)
	if Save(one, Root{}) != api.ErrForm || Save(one, Root{2, nil}) != api.ErrRange || one.Commands() != 0 {
		t.Error("a disk of one sector")
	}
	wrong := disk.New(2, 64)
	wrong.Write(0, encode(Root{1, nil}, 64))
	wrong.Write(1, encode(Root{2, nil}, 64))
	if _, e := Load(wrong); e != api.ErrNone {
		t.Error("roots in others' slots count")
	}
	wrong.Write(0, encode(Root{2, nil}, 64))
	if r, e := Load(wrong); e != api.OK || r.Epoch != 2 {
		t.Error("one of them is right")
	}
}

func TestLoadOfOneSector(t *testing.T) { // P6.2
	d := disk.New(1, 64)
	if r, e := Load(d); e != api.ErrNone || !r.Equal(Root{}) {
		t.Errorf("an empty one: %v, %d", r, e)
	}
	d.Write(0, encode(Root{3, nil}, 64))
	if r, e := Load(d); e != api.ErrNone || !r.Equal(Root{}) {
		t.Errorf("a root whose slot isn't there: %v, %d", r, e)
	}
	d.Write(0, encode(Root{4, []int{7}}, 64))
	if r, e := Load(d); e != api.OK || !r.Equal(Root{4, []int{7}}) {
		t.Errorf("a root in its slot: %v, %d", r, e)
	}
	d.Arm(0)
	d.Flush()
	if r, e := Load(d); e != api.ErrDown || !r.Equal(Root{}) {
		t.Errorf("one that is down: %v, %d", r, e)
	}
}

func TestDown(t *testing.T) { // P6.2
	for arm := range 2 {
		d := disk.New(4, 64)
		Save(d, Root{1, nil})
		d.Arm(arm)
		if e := Save(d, Root{2, nil}); e != api.ErrDown {
			t.Errorf("Save: %d", e)
		}
		if _, e := Load(d); e != api.ErrDown {
			t.Errorf("Load: %d", e)
		}
		if Save(d, Root{}) != api.ErrForm || Save(d, full(64)) != api.ErrMany || Save(d, Root{1, nil}) != api.ErrDown {
			t.Error("the errors' order")
		}
	}
}

func TestTorn(t *testing.T) { // P6.3
	for _, size := range []int{30, 64, 65, 300} {
		for epoch := 1; epoch < 520; epoch += 1 + epoch/7 {
			for cut := -1; cut <= size+1; cut++ {
				d := disk.New(3, size)
				Save(d, Root{max(epoch-1, 1), []int{4}})
				Save(d, Root{epoch, []int{1, 2}})
				d.Arm(1)
				next := Root{epoch + 1, []int{3}}
				if e := Save(d, next); e != api.ErrDown {
					t.Fatal(e)
				}
				d.Crash(disk.Loss{Torn: (epoch + 1) % 2, Cut: cut})
				r, e := Load(d)
				if e != api.OK || !r.Equal(next) && !r.Equal(Root{epoch, []int{1, 2}}) {
					t.Fatalf("size %d, epoch %d, cut %d: %v, %d", size, epoch, cut, r, e)
				}
				if cut >= size && !r.Equal(next) || cut <= 0 && r.Equal(next) {
					t.Fatalf("size %d, epoch %d, cut %d: %v", size, epoch, cut, r)
				}
			}
		}
	}
}

func TestMemory(t *testing.T) { // P6.3
	table := []int{1, 2, 3}
	r := Root{1, table[:2]}
	d := disk.New(2, 64)
	Save(d, r)
	b, _ := r.Bytes(64)
	p, _ := Parse(b)
	clear(b)
	if !slices.Equal(table, []int{1, 2, 3}) || !p.Equal(r) {
		t.Error("what was handed in is changed or kept")
	}
	x, _ := Load(d)
	y, _ := Load(d)
	x.Table[0] = 9
	if y.Table[0] != 1 {
		t.Error("two answers share")
	}
}
