package chain

import (
	"bytes"
	"math"
	"slices"
	"testing"

	"deedhold/api"
	"deedhold/disk"
	"deedhold/pager"
)

func newPager(t *testing.T, sectors, size int) (*disk.Disk, *pager.Pager) {
	t.Helper()
	d := disk.New(sectors, size)
	p, e := pager.Open(d)
	if e != api.OK || p.Begin() != api.OK {
		t.Fatalf("pager: %d", e)
	}
	return d, p
}

func some(n int) []byte {
	b := make([]byte, n)
	for i := range b {
		b[i] = byte(i%251 + 1)
	}
	return b
}

func TestNeed(t *testing.T) { // P11.1
	for _, c := range [][3]int{{0, 64, 0}, {-1, 64, 0}, {1, 63, 0}, {1, 64, 1}, {59, 64, 1}, {60, 64, 2}, {118, 64, 2}, {119, 64, 3}, {1 << 14, 64, 278}, {1<<14 + 1, 64, 0},
		{1 << 14, 4096, 5}, {1 << 14, math.MaxInt, 1}, {1, math.MinInt, 0}, {math.MaxInt, math.MaxInt, 0}, {math.MinInt, 64, 0}, {507, 512, 1}, {508, 512, 2}} {
		if n := Need(c[0], c[1]); n != c[2] {
			t.Errorf("Need(%d, %d): %d", c[0], c[1], n)
		}
	}
}

func TestPut(t *testing.T) { // P11.1, P11.2
	for _, size := range []int{64, 65, 512, 4096} {
		_, p := newPager(t, 4096, size)
		for _, n := range []int{1, 2, size - 6, size - 5, size - 4, 2*size - 10, 2*size - 9, 5000, 1 << 14} {
			used := p.Used()
			b := some(n)
			first, e := Put(p, b)
			if e != api.OK || p.Used() != used+Need(n, size) {
				t.Fatalf("Put of %d: %d, %d pages", n, e, p.Used()-used)
			}
			got, e := Get(p, first)
			if e != api.OK || !bytes.Equal(got, b) {
				t.Fatalf("Get of %d: %d", n, e)
			}
			pages, e := Pages(p, first)
			if e != api.OK || len(pages) != Need(n, size) || pages[0] != first {
				t.Fatalf("Pages of %d: %v, %d", n, pages, e)
			}
			layout(t, p, pages, b)
			var all []byte
			for part := range Each(p, first) {
				all = append(all, part...)
				clear(part[:cap(part)])
			}
			if !bytes.Equal(all, b) {
				t.Fatalf("Each of %d", n)
			}
			for range Each(p, first) {
				break
			}
			if n%2 == 0 {
				if e := Del(p, first); e != api.OK || p.Used() != used {
					t.Fatalf("Del of %d: %d", n, e)
				}
			}
		}
		for _, n := range []int{0, 1<<14 + 1} {
			used := p.Used()
			if first, e := Put(p, some(n)); e != api.ErrRange || first != 0 || p.Used() != used {
				t.Errorf("Put of %d: %d", n, e)
			}
		}
	}
}

// layout holds each page's bytes against the document's words.
func layout(t *testing.T, p *pager.Pager, pages []int, b []byte) {
	t.Helper()
	each := p.Size() - 5
	for i, page := range pages {
		next, part := 0, b[i*each:min((i+1)*each, len(b))]
		if i+1 < len(pages) {
			next = pages[i+1] + 1
		}
		want := append([]byte{3, byte(next), byte(next >> 8), byte(len(part)), byte(len(part) >> 8)}, part...)
		want = append(want, make([]byte, p.Size()-len(want))...)
		if got, _ := p.Read(page); !bytes.Equal(got, want) {
			t.Fatalf("page %d: %x", page, got)
		}
	}
}

func TestBad(t *testing.T) { // P11.2
	_, p := newPager(t, 400, 64)
	for range 300 {
		p.Alloc()
	}
	write := func(page, kind, next, n, end int) {
		b := make([]byte, 64)
		b[0], b[1], b[2], b[3], b[4] = byte(kind), byte(next), byte(next>>8), byte(n), byte(n>>8)
		for i := range min(n, 59) {
			b[5+i] = 7
		}
		b[63] |= byte(end)
		if e := p.Write(page, b); e != api.OK {
			t.Fatal(e)
		}
	}
	write(1, 3, 3, 59, 0)
	write(2, 3, 0, 4, 0)
	whole := 63
	for name, c := range map[string]struct {
		set  func()
		told int
	}{
		"another kind":           {func() { write(0, 2, 0, 4, 0) }, 0},
		"nothing in it":          {func() { write(0, 3, 0, 0, 0) }, 0},
		"too much in it":         {func() { write(0, 3, 0, 60, 0) }, 0},
		"far too much":           {func() { write(0, 3, 0, 65535, 0) }, 0},
		"no nought":              {func() { write(0, 3, 0, 4, 1) }, 0},
		"not full, but not last": {func() { write(0, 3, 2, 58, 0) }, 0},
		"it leads to itself":     {func() { write(0, 3, 1, 59, 0) }, 59},
		"to a page not used":     {func() { write(0, 3, 399, 59, 0) }, 59},
		"to no page":             {func() { write(0, 3, 65535, 59, 0) }, 59},
		"to one that is bad":     {func() { write(0, 3, 6, 59, 0) }, 59},
	} {
		c.set()
		_, e := Get(p, 0)
		l, f := Pages(p, 0)
		n := 0
		for part := range Each(p, 0) {
			n += len(part)
		}
		used := p.Used()
		if e != api.ErrBad || f != api.ErrBad || l != nil || Del(p, 0) != api.ErrBad || p.Used() != used || n != c.told {
			t.Errorf("%s: %d, %d, %d bytes are told", name, e, f, n)
		}
	}
	if b, e := Get(p, 1); len(b) != whole || e != api.OK {
		t.Errorf("a right one: %d", e)
	}
	for i := range 278 { // 277 full pages are 41 bytes less than the most
		write(i, 3, i+2, 59, 0)
	}
	write(277, 3, 0, 41, 0)
	if b, e := Get(p, 0); len(b) != 1<<14 || e != api.OK {
		t.Errorf("the longest: %d, %d", len(b), e)
	}
	write(277, 3, 0, 42, 0)
	if _, e := Get(p, 0); e != api.ErrBad {
		t.Errorf("too long: %d", e)
	}
	write(2, 3, 1, 59, 0)
	if l, e := Pages(p, 0); e != api.ErrBad || l != nil {
		t.Errorf("a ring: %d", e)
	}
}

func TestPagersErrors(t *testing.T) { // P11.1, P11.2
	d, p := newPager(t, 20, 64)
	for _, first := range []int{-1, 0, 18, math.MinInt, math.MaxInt} {
		_, e := Get(p, first)
		_, f := Pages(p, first)
		if e != api.ErrNone || f != api.ErrNone || Del(p, first) != api.ErrNone {
			t.Errorf("Get(%d): %d", first, e)
		}
		for range Each(p, first) {
			t.Error("parts of nothing")
		}
	}
	first, _ := Put(p, some(100))
	p.Commit()
	if first, e := Put(p, some(100)); first != 0 || e != api.ErrState {
		t.Errorf("Put: %d", e)
	}
	if _, e := Put(p, nil); e != api.ErrRange {
		t.Errorf("Put: %d", e)
	}
	if e := Del(p, first); e != api.ErrState {
		t.Errorf("Del: %d", e)
	}
	p.Begin()
	if first, e := Put(p, some(59*15)); first != 0 || e != api.ErrFull {
		t.Errorf("Put: %d", e)
	}
	p.Abort()
	p.Begin()
	if _, e := Put(p, some(59*14)); e != api.OK {
		t.Errorf("Put of as much as there is room for: %d", e)
	}
	p.Abort()
	p.Begin()
	d.Arm(1)
	if _, e := Put(p, some(100)); e != api.ErrDown {
		t.Errorf("Put: %d", e)
	}
	_, e := Get(p, first)
	_, f := Pages(p, first)
	if e != api.ErrDown || f != api.ErrDown || Del(p, first) != api.ErrDown {
		t.Errorf("down: %d", e)
	}
}

func TestMemory(t *testing.T) { // P11.3
	_, p := newPager(t, 40, 64)
	b := some(130)
	was := slices.Clone(b)
	first, _ := Put(p, b[:100])
	if !bytes.Equal(b, was) {
		t.Error("what is handed in is changed")
	}
	clear(b)
	got, _ := Get(p, first)
	clear(got[:cap(got)])
	if got, _ = Get(p, first); !bytes.Equal(got, was[:100]) {
		t.Error("what is handed in is kept, or what is told is no new memory")
	}
}

func TestFarPages(t *testing.T) { // P11.2: pages whose numbers need both bytes
	_, p := newPager(t, 1000, 256)
	for range 700 {
		p.Alloc()
	}
	b := some(1 << 14)
	first, e := Put(p, b)
	if e != api.OK || first != 700 {
		t.Fatalf("Put: %d, %d", first, e)
	}
	if got, e := Get(p, first); e != api.OK || !bytes.Equal(got, b) {
		t.Errorf("Get: %d", e)
	}
	if Del(p, first) != api.OK || p.Used() != 700 {
		t.Error("Del")
	}
}
