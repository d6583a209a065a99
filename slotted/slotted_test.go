package slotted

import (
	"bytes"
	"math"
	"slices"
	"testing"

	"deedhold/api"
)

func rec(c, n int) []byte { return bytes.Repeat([]byte{byte(c)}, n) }

// encode: by the document's words.
func encode(slots [][]byte, size int) ([]byte, bool) {
	b := []byte{byte(len(slots))}
	for _, r := range slots {
		b = append(b, byte(len(r)), byte(len(r)>>8))
	}
	for _, r := range slots {
		b = append(b, r...)
	}
	if len(b) > size || len(slots) > 63 {
		return nil, false
	}
	return append(b, make([]byte, size-len(b))...), true
}

func check(t *testing.T, p *Page, slots [][]byte, size int) {
	t.Helper()
	want, _ := encode(slots, size)
	n := 0
	var got []int
	for i, r := range slots {
		if len(r) > 0 {
			n++
			got = append(got, i)
		}
		b, e := p.Get(i)
		if (e == api.OK) != (len(r) > 0) || e != api.OK && e != api.ErrNone || !bytes.Equal(b, r) {
			t.Fatalf("Get(%d): %x, %d", i, b, e)
		}
	}
	for i, b := range p.All() {
		if len(got) == 0 || got[0] != i || !bytes.Equal(b, slots[i]) {
			t.Fatalf("All: %d %x", i, b)
		}
		got = got[1:]
	}
	if len(got) > 0 || p.Len() != n || p.Slots() != len(slots) || p.Size() != size || !bytes.Equal(p.Bytes(), want) {
		t.Fatalf("Len %d, Slots %d, Bytes %x; want %x", p.Len(), p.Slots(), p.Bytes(), want)
	}
	room := 0
	for k := 1; k <= size; k++ {
		if _, e := p.Copy().Put(rec(1, k)); e == api.OK {
			room = k
		}
		if _, ok := put(slots, rec(1, k), size); ok != (room == k) {
			t.Fatalf("%d bytes more", k)
		}
	}
	if p.Room() != room {
		t.Fatalf("Room %d, want %d", p.Room(), room)
	}
	q, ok := Load(want)
	if !ok || !bytes.Equal(q.Bytes(), want) || q.Room() != room {
		t.Fatal("Load of its bytes")
	}
}

func put(slots [][]byte, b []byte, size int) ([][]byte, bool) {
	l := slices.Clone(slots)
	i := slices.IndexFunc(l, func(r []byte) bool { return len(r) == 0 })
	if i < 0 {
		i = len(l)
		l = append(l, nil)
	}
	l[i] = b
	_, ok := encode(l, size)
	return l, ok
}

func TestNew(t *testing.T) { // P9.1
	for _, size := range []int{15, 0, -1, 4097, math.MaxInt, math.MinInt} {
		if New(size) != nil {
			t.Errorf("New(%d)", size)
		}
	}
	for _, size := range []int{16, 17, 64, 4096} {
		check(t, New(size), nil, size)
	}
	p := New(16)
	if i, e := p.Put([]byte("abc")); i != 0 || e != api.OK || string(p.Bytes()) != "\x01\x03\x00abc\x00\x00\x00\x00\x00\x00\x00\x00\x00\x00" || p.Room() != 8 {
		t.Errorf("the example: %x, Room %d", p.Bytes(), p.Room())
	}
}

func TestModel(t *testing.T) { // P9.1, P9.2, P9.3
	for _, size := range []int{16, 20, 64, 130, 400} {
		p := New(size)
		var slots [][]byte
		seed := uint32(size)
		for range 600 {
			seed = seed*1664525 + 1013904223
			i, b := int(seed>>8%70)-1, rec(int(seed>>16), int(seed>>20)%(size/4+1))
			if seed>>8%5 < 3 && len(b) > 6 {
				b = b[:1+len(b)%3]
			}
			there := i >= 0 && i < len(slots) && len(slots[i]) > 0
			var e, want api.Errno
			switch seed >> 28 % 4 {
			case 0, 1:
				l, ok := put(slots, b, size)
				var at int
				at, e = p.Put(b)
				if len(b) == 0 {
					want = api.ErrRange
				} else if !ok {
					want = api.ErrFull
				} else if slots = l; !bytes.Equal(slots[at], b) {
					t.Fatalf("Put: %d", at)
				}
			case 2:
				e = p.Set(i, b)
				l := slices.Clone(slots)
				if there {
					l[i] = b
				}
				if _, ok := encode(l, size); len(b) == 0 {
					want = api.ErrRange
				} else if !there {
					want = api.ErrNone
				} else if !ok {
					want = api.ErrFull
				} else {
					slots = l
				}
			case 3:
				if e = p.Del(i); !there {
					want = api.ErrNone
				} else {
					slots = slices.Clone(slots)
					slots[i] = nil
					for len(slots) > 0 && len(slots[len(slots)-1]) == 0 {
						slots = slots[:len(slots)-1]
					}
				}
			}
			if e != want {
				t.Fatalf("%d, want %d", e, want)
			}
			check(t, p, slots, size)
		}
	}
}

func TestLongRecords(t *testing.T) { // P9.1: lengths that need both bytes
	p := New(4096)
	slots := [][]byte{rec(1, 300), rec(2, 256), rec(3, 255), rec(4, 3000)}
	for _, r := range slots {
		p.Put(r)
	}
	want, _ := encode(slots, 4096)
	if !bytes.Equal(p.Bytes(), want) {
		t.Errorf("%x", p.Bytes()[:20])
	}
	q, ok := Load(want)
	if !ok || !bytes.Equal(q.Bytes(), want) || q.Room() != 4096-1-8-3811-2 {
		t.Error("Load")
	}
	full, _ := encode(slices.Repeat([][]byte{{7}}, 63), 4096)
	if _, ok := Load(full); !ok {
		t.Error("63 slots")
	}
	if p, ok := Load(append(append([]byte{64}, bytes.Repeat([]byte{1, 0}, 64)...), append(rec(7, 64), make([]byte, 300)...)...)); ok || p != nil {
		t.Error("64 slots")
	}
}

func TestMany(t *testing.T) { // P9.2, P9.3
	p := New(4096)
	for i := range 63 {
		if p.Room() != 4096-1-3*i-2 {
			t.Fatalf("Room %d", p.Room())
		}
		if k, e := p.Put([]byte{1}); k != i || e != api.OK {
			t.Fatalf("Put: %d, %d", k, e)
		}
	}
	if _, e := p.Put([]byte{1}); e != api.ErrFull || p.Room() != 0 {
		t.Errorf("the 64th slot: %d, Room %d", e, p.Room())
	}
	p.Del(5)
	if p.Slots() != 63 || p.Len() != 62 || p.Room() != 4096-1-2*63-62 {
		t.Errorf("Room %d", p.Room())
	}
	if i, e := p.Put(rec(2, p.Room())); i != 5 || e != api.OK || p.Room() != 0 {
		t.Errorf("Put: %d, %d", i, e)
	}
	if e := p.Set(5, rec(3, 1)); e != api.OK || p.Room() != 0 {
		t.Errorf("Set: %d", e)
	}
}

func TestRefused(t *testing.T) { // P9.2, P9.4
	p := New(64)
	p.Put([]byte("ab"))
	was := p.Bytes()
	for _, i := range []int{-1, 1, 63, math.MinInt, math.MaxInt} {
		if b, e := p.Get(i); e != api.ErrNone || b != nil {
			t.Errorf("Get(%d)", i)
		}
		if p.Del(i) != api.ErrNone || p.Set(i, rec(1, 1)) != api.ErrNone || p.Set(i, rec(1, 99)) != api.ErrNone || p.Set(i, nil) != api.ErrRange {
			t.Errorf("slot %d", i)
		}
	}
	for _, c := range []struct {
		n int
		e api.Errno
	}{{0, api.ErrRange}, {60, api.ErrFull}, {1 << 14, api.ErrFull}, {1<<14 + 1, api.ErrRange}} {
		if i, e := p.Put(rec(1, c.n)); i != 0 || e != c.e {
			t.Errorf("Put of %d: %d", c.n, e)
		}
		if c.n != 60 && p.Set(0, rec(1, c.n)) != c.e {
			t.Errorf("Set of %d", c.n)
		}
	}
	if p.Set(0, rec(1, 62)) != api.ErrFull || !bytes.Equal(p.Bytes(), was) {
		t.Error("what is refused changes something")
	}
	if p.Set(0, rec(1, 61)) != api.OK {
		t.Error("as much as there is room for")
	}
}

func TestLoad(t *testing.T) { // P9.1
	for name, s := range map[string]string{
		"too short":                "\x00",
		"slots without room":       "\x08\x01",
		"64 slots":                 "\x40" + string(rec(1, 400)),
		"the last has nothing":     "\x02\x01\x00\x00\x00a",
		"no noughts":               "\x01\x01\x00ab",
		"a record past the end":    "\x01\x0e\x00abcdefghijklm",
		"a record far past it":     "\x01\xff\xff",
		"slots, but no slot ahead": "\x00\x01",
	} {
		b := append([]byte(s), make([]byte, max(0, 16-len(s)))...)
		if name == "too short" {
			b = b[:15]
		}
		if p, ok := Load(b); ok || p != nil {
			t.Errorf("%s: %x", name, b)
		}
	}
	if p, ok := Load([]byte("\x01\x0d\x00abcdefghijklm")); !ok || p.Room() != 0 {
		t.Error("a full one")
	}
	if p, ok := Load([]byte("\x02\x00\x00\x01\x00a\x00\x00\x00\x00\x00\x00\x00\x00\x00\x00")); !ok || p.Len() != 1 || p.Slots() != 2 {
		t.Error("a slot of nothing ahead")
	}
	if _, ok := Load(make([]byte, 4097)); ok {
		t.Error("too great")
	}
	if _, ok := Load(nil); ok {
		t.Error("nothing")
	}
}

func TestMemory(t *testing.T) { // P9.4
	b := []byte("abcdef")
	p := New(64)
	p.Put(b[:3])
	p.Put(b[3:])
	p.Set(1, b[3:5])
	was := p.Bytes()
	l, _ := Load(was)
	c := p.Copy()
	clear(b)
	g, _ := p.Get(0)
	clear(g[:cap(g)])
	for _, r := range p.All() {
		clear(r[:cap(r)])
	}
	p.Bytes()[0] = 9
	again := p.Bytes()
	if !bytes.Equal(again, was) {
		t.Errorf("%x", again)
	}
	clear(was)
	c.Set(0, []byte("x"))
	c.Del(1)
	c.Put([]byte("q"))
	if !bytes.Equal(p.Bytes(), again) || !bytes.Equal(l.Bytes(), again) {
		t.Error("a copy, or what was loaded, shares")
	}
	n := 0
	for range p.All() {
		n++
		break
	}
	if n != 1 {
		t.Error("All, as far as it is asked")
	}
}
