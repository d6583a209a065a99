package pager

import (
	"bytes"
	"maps"
	"math"
	"slices"
	"testing"

	"deedhold/api"
	"deedhold/disk"
	"deedhold/slots"
)

func fill(c, n int) []byte { return bytes.Repeat([]byte{byte(c)}, n) }

func open(t *testing.T, d *disk.Disk) *Pager {
	t.Helper()
	p, e := Open(d)
	if e != api.OK {
		t.Fatalf("Open: %d", e)
	}
	return p
}

func is(t *testing.T, what string, e, want api.Errno) {
	t.Helper()
	if e != want {
		t.Fatalf("%s: %d, want %d", what, e, want)
	}
}

// model is a pager by the document's words; nil bytes are noughts.
type model struct {
	sectors, size, places int
	pages                 map[int][]byte
	was                   map[int][]byte
	fresh, touched        map[int]int
	open                  bool
	epoch                 int
}

func newModel(sectors, size int) *model {
	return &model{sectors: sectors, size: size, places: size / 2, pages: map[int][]byte{}, was: map[int][]byte{}, fresh: map[int]int{}, touched: map[int]int{}}
}

func (m *model) led() int {
	n, tables := 0, map[int]int{}
	for i, b := range m.was {
		tables[i/m.places] = 1
		if b != nil {
			n++
		}
	}
	return n + len(tables)
}

func (m *model) room() int { return m.sectors - 2 - m.led() - len(m.fresh) - len(m.touched) }

func (m *model) touch(i, more int) bool {
	if m.touched[i/m.places] == 0 {
		more++
	}
	if m.room() < more {
		return false
	}
	m.touched[i/m.places] = 1
	return true
}

func (m *model) alloc(most int) (int, api.Errno) {
	if !m.open {
		return 0, api.ErrState
	}
	for i := range most {
		if _, ok := m.pages[i]; !ok {
			if !m.touch(i, 0) {
				return 0, api.ErrFull
			}
			m.pages[i] = nil
			return i, api.OK
		}
	}
	return 0, api.ErrFull
}

func (m *model) write(i int, b []byte) api.Errno {
	_, ok := m.pages[i]
	switch {
	case !m.open:
		return api.ErrState
	case !ok:
		return api.ErrNone
	case len(b) != m.size:
		return api.ErrForm
	case m.fresh[i] == 0 && !m.touch(i, 1):
		return api.ErrFull
	}
	m.fresh[i] = 1
	m.pages[i] = b
	return api.OK
}

func (m *model) free(i int) api.Errno {
	_, ok := m.pages[i]
	switch {
	case !m.open:
		return api.ErrState
	case !ok:
		return api.ErrNone
	case !m.touch(i, 0):
		return api.ErrFull
	}
	delete(m.pages, i)
	delete(m.fresh, i)
	return api.OK
}

func (m *model) end(keep bool) api.Errno {
	if !m.open {
		return api.ErrState
	}
	if keep && len(m.touched) > 0 {
		m.epoch++
	}
	if keep {
		m.was = maps.Clone(m.pages)
	} else {
		m.pages = maps.Clone(m.was)
	}
	m.open = false
	clear(m.fresh)
	clear(m.touched)
	return api.OK
}

func (m *model) begin() api.Errno {
	if m.open {
		return api.ErrState
	}
	m.open = true
	return api.OK
}

// same holds a pager's pages against a model's.
func same(t *testing.T, p *Pager, m *model, pages map[int][]byte) {
	t.Helper()
	if got, want := slices.Collect(p.All()), slices.Sorted(maps.Keys(pages)); !slices.Equal(got, want) || p.Used() != len(want) {
		t.Fatalf("All: %v, want %v", got, want)
	}
	for i := -1; i <= p.Cap(); i++ {
		want, ok := pages[i]
		if want == nil {
			want = make([]byte, m.size)
		}
		b, e := p.Read(i)
		if ok != (e == api.OK) || !ok && (e != api.ErrNone || b != nil) || ok && !bytes.Equal(b, want) {
			t.Fatalf("Read(%d): %x, %d", i, b, e)
		}
	}
}

func (m *model) match(t *testing.T, p *Pager) {
	t.Helper()
	if p.Room() != m.room() || p.Open() != m.open || p.Epoch() != m.epoch {
		t.Fatalf("Room %d, Open %t, Epoch %d; want %d, %t, %d", p.Room(), p.Open(), p.Epoch(), m.room(), m.open, m.epoch)
	}
	same(t, p, m, m.pages)
}

type chance uint32

func (c *chance) of(n int) int {
	*c = *c*1664525 + 1013904223
	return int(*c>>8) % n
}

// step does one thing to both; false: the power is gone.
func step(t *testing.T, c *chance, p *Pager, m *model) bool {
	var got, want api.Errno
	i := c.of(p.Cap()+2) - 1
	switch k := c.of(20); {
	case k < 2:
		got, want = p.Begin(), m.begin()
	case k < 8:
		a, e := p.Alloc()
		b, w := m.alloc(p.Cap())
		if a != b {
			t.Fatalf("Alloc: %d, want %d", a, b)
		}
		got, want = e, w
	case k < 15:
		b := fill(c.of(256), m.size)
		got = p.Write(i, b)
		if got != api.ErrDown {
			want = m.write(i, b)
		}
	case k == 15:
		got, want = p.Write(i, make([]byte, c.of(2)*(m.size+1))), m.write(i, nil)
	case k < 18:
		got, want = p.Free(i), m.free(i)
	case k == 18:
		if got = p.Commit(); got != api.ErrDown {
			want = m.end(true)
		}
	default:
		if c.of(4) > 0 {
			return true
		}
		got, want = p.Abort(), m.end(false)
	}
	if got == api.ErrDown {
		return false
	}
	is(t, "a step", got, want)
	return true
}

func TestModel(t *testing.T) { // P8.1 to P8.4
	for _, s := range [][2]int{{8, 64}, {9, 65}, {12, 64}, {40, 64}, {80, 64}, {30, 128}} {
		d := disk.New(s[0], s[1])
		p, m, c := open(t, d), newModel(s[0], s[1]), chance(s[0])
		for i := range 3000 {
			step(t, &c, p, m)
			m.match(t, p)
			if i%100 == 99 && !p.Open() {
				p = open(t, d)
				m.match(t, p)
			}
		}
	}
}

func TestCrash(t *testing.T) { // P8.5
	for seed := range 400 {
		c := chance(seed)
		d := disk.New(8+c.of(40), 64)
		p, m := open(t, d), newModel(d.Sectors(), 64)
		for range 6 {
			d.Arm(c.of(30))
			var after map[int][]byte
			steps := 0
			for ; steps < 1000; steps++ {
				// What a Commit would have left, if it finds the power gone.
				after = maps.Clone(m.pages)
				if was := m.open; !step(t, &c, p, m) {
					if !was {
						t.Fatal("down without a change")
					}
					break
				}
			}
			if steps == 1000 { // so full that nothing can be changed
				break
			}
			if !p.Down() || p.Begin() != api.ErrDown {
				t.Fatal("it is not down")
			}
			before := m.was
			keep := []int{}
			for _, s := range d.Cached() {
				if c.of(2) == 0 {
					keep = append(keep, s)
				}
			}
			d.Crash(disk.Loss{Keep: keep, Torn: c.of(d.Sectors()), Cut: c.of(66) - 1})
			p = open(t, d)
			m.open = false
			clear(m.fresh)
			clear(m.touched)
			m.pages = maps.Clone(before)
			if p.Epoch() != m.epoch {
				m.epoch++
				m.pages, m.was = after, maps.Clone(after)
			}
			m.match(t, p)
		}
	}
}

func TestLayout(t *testing.T) { // P8.1, P8.3, P8.4
	d := disk.New(40, 64)
	p := open(t, d)
	if p.Cap() != 38 || p.Size() != 64 || p.Epoch() != 0 || p.Room() != 38 || p.Used() != 0 || d.Commands() != 0 {
		t.Fatalf("an empty one: %d %d %d %d", p.Cap(), p.Size(), p.Epoch(), p.Room())
	}
	p.Begin()
	for i := range 34 {
		if a, e := p.Alloc(); a != i || e != api.OK {
			t.Fatalf("Alloc: %d, %d", a, e)
		}
	}
	is(t, "Write", p.Write(33, fill(7, 64)), api.OK)
	is(t, "Write", p.Write(0, fill(8, 64)), api.OK)
	is(t, "Write again", p.Write(33, fill(9, 64)), api.OK)
	if d.Commands() != 3 || p.Room() != 38-2-2 {
		t.Errorf("%d commands, Room %d", d.Commands(), p.Room())
	}
	is(t, "Commit", p.Commit(), api.OK)
	if d.Commands() != 3+2+1+2 || p.Room() != 38-4 {
		t.Errorf("%d commands, Room %d", d.Commands(), p.Room())
	}
	root, _ := slots.Load(d)
	if !root.Equal(slots.Root{Epoch: 1, Table: []int{4, 5}}) {
		t.Errorf("the root: %v", root)
	}
	first, second := make([]byte, 64), make([]byte, 64)
	for i := range 32 {
		first[2*i] = 1
	}
	first[0], second[0], second[2] = 3, 1, 2
	for s, want := range map[int][]byte{2: fill(9, 64), 3: fill(8, 64), 4: first, 5: second} {
		if b, _ := d.Read(s); !bytes.Equal(b, want) {
			t.Errorf("sector %d: %x", s, b)
		}
	}
	p.Begin()
	p.Write(0, fill(1, 64)) // to 6; then the table page to 7, and 3 and 4 are free
	is(t, "Commit", p.Commit(), api.OK)
	p.Begin()
	p.Free(33)
	p.Free(32) // the second table page is left out
	is(t, "Commit", p.Commit(), api.OK)
	if root, _ := slots.Load(d); !root.Equal(slots.Root{Epoch: 3, Table: []int{7, 0}}) || p.Room() != 38-2 {
		t.Errorf("the root: %v, Room %d", root, p.Room())
	}
	n := d.Commands()
	p.Begin()
	is(t, "Commit of nothing", p.Commit(), api.OK)
	if d.Commands() != n || p.Epoch() != 3 {
		t.Error("nothing was touched, yet something was written")
	}
	p.Begin()
	p.Alloc()
	p.Free(32)
	is(t, "Commit of what came to nothing", p.Commit(), api.OK)
	if p.Epoch() != 4 {
		t.Error("a table page was touched")
	}
}

func TestCap(t *testing.T) { // P8.1
	for _, c := range [][3]int{{8, 64, 6}, {4096, 64, 21 * 32}, {4096, 65, 22 * 32}, {4096, 66, 22 * 33}, {4096, 256, 32 * 128}, {4096, 4096, 4094}, {34, 64, 32}, {35, 64, 33}} {
		p := open(t, disk.New(c[0], c[1]))
		want := min(c[2], c[0]-2)
		if p.Cap() != want || p.Size() != c[1] {
			t.Errorf("%v: Cap %d", c, p.Cap())
		}
	}
	for _, c := range [][2]int{{7, 64}, {8, 63}, {1, 16}} {
		d := disk.New(c[0], c[1])
		d.Arm(0)
		d.Flush()
		p, e := Open(d)
		is(t, "Open", e, api.ErrRange)
		if p != nil {
			t.Error("a pager beside an error")
		}
	}
	d := disk.New(8, 64)
	d.Arm(0)
	d.Flush()
	_, e := Open(d)
	is(t, "Open of one that is down", e, api.ErrDown)
}

func TestBadRoots(t *testing.T) { // P8.1
	table := func(l ...int) []byte {
		b := make([]byte, 65)
		for i, n := range l {
			b[2*i], b[2*i+1] = byte(n), byte(n>>8)
		}
		return b
	}
	far := make([]int, 32)
	far[31] = 1
	for name, c := range map[string]struct {
		root []int
		page []byte
		want api.Errno
	}{
		"right":                 {[]int{3, 0}, table(1, 4, 0, 39), api.OK},
		"none":                  {[]int{0, 0}, table(), api.OK},
		"a table page of none":  {[]int{3, 0}, table(), api.OK},
		"too few tables":        {[]int{3}, table(), api.ErrBad},
		"too many tables":       {[]int{3, 0, 0}, table(), api.ErrBad},
		"a table in a root":     {[]int{1, 0}, table(), api.ErrBad},
		"a table far off":       {[]int{40, 0}, table(), api.ErrBad},
		"one table twice":       {[]int{3, 3}, table(), api.ErrBad},
		"a page in its table":   {[]int{3, 0}, table(3), api.ErrBad},
		"a page far off":        {[]int{3, 0}, table(40), api.ErrBad},
		"a page very far off":   {[]int{3, 0}, table(65535), api.ErrBad},
		"a sector of two pages": {[]int{3, 0}, table(4, 5, 4), api.ErrBad},
		"a page of no place":    {[]int{0, 3}, table(far...), api.ErrBad},
		"the last place":        {[]int{0, 3}, table(0, 0, 0, 0, 0, 2), api.OK},
		"behind the last place": {[]int{0, 3}, table(0, 0, 0, 0, 0, 0, 2), api.ErrBad},
	} {
		d := disk.New(40, 65)
		d.Write(3, c.page)
		slots.Save(d, slots.Root{Epoch: 6, Table: c.root})
		n := d.Commands()
		p, e := Open(d)
		if e != c.want || (p == nil) != (e != api.OK) || d.Commands() != n {
			t.Errorf("%s: %d", name, e)
		}
	}
	d := disk.New(40, 65)
	d.Write(3, table(1, 4, 0, 39))
	d.Write(39, fill(5, 65))
	slots.Save(d, slots.Root{Epoch: 6, Table: []int{3, 0}})
	p := open(t, d)
	if b, _ := p.Read(3); !slices.Equal(slices.Collect(p.All()), []int{0, 1, 3}) || p.Epoch() != 6 || p.Room() != 35 || !bytes.Equal(b, fill(5, 65)) {
		t.Error("what the root leads to")
	}
}

func TestStates(t *testing.T) { // P8.2
	p := open(t, disk.New(8, 64))
	i, e := p.Alloc()
	is(t, "Alloc", e, api.ErrState)
	if i != 0 {
		t.Error("a page beside an error")
	}
	is(t, "Write", p.Write(99, nil), api.ErrState)
	is(t, "Free", p.Free(-1), api.ErrState)
	is(t, "Commit", p.Commit(), api.ErrState)
	is(t, "Abort", p.Abort(), api.ErrState)
	is(t, "Begin", p.Begin(), api.OK)
	is(t, "Begin", p.Begin(), api.ErrState)
	for _, i := range []int{math.MinInt, -1, 0, 6, math.MaxInt} {
		_, e := p.Read(i)
		is(t, "Read", e, api.ErrNone)
		is(t, "Write", p.Write(i, nil), api.ErrNone)
		is(t, "Free", p.Free(i), api.ErrNone)
	}
}

func TestDown(t *testing.T) { // P8.2
	d := disk.New(8, 64)
	p := open(t, d)
	p.Begin()
	p.Alloc()
	d.Arm(0)
	is(t, "Write", p.Write(0, fill(1, 64)), api.ErrDown)
	d.Crash(disk.Loss{})
	_, e := p.Read(0)
	_, f := p.Alloc()
	for _, got := range []api.Errno{e, f, p.Begin(), p.Write(9, nil), p.Free(9), p.Commit(), p.Abort()} {
		is(t, "behind it", got, api.ErrDown)
	}
	if !p.Down() {
		t.Error("Down")
	}
}

func TestCommitAtEachCommand(t *testing.T) { // P8.4, P8.5
	for arm := range 9 {
		d := disk.New(20, 64)
		p := open(t, d)
		p.Begin()
		p.Alloc()
		p.Write(0, fill(1, 64))
		p.Commit()
		n := d.Commands()
		d.Arm(arm)
		p.Begin()
		e := p.Write(0, fill(2, 64))
		if e == api.OK {
			e = p.Commit()
		}
		if (e == api.OK) != (arm >= 5) || e != api.OK && e != api.ErrDown || d.Commands()-n != min(arm, 5) {
			t.Fatalf("armed with %d: %d", arm, e)
		}
		d.Crash(disk.Loss{Torn: -1})
		b, _ := open(t, d).Read(0)
		want := 1
		if arm >= 5 {
			want = 2
		}
		if !bytes.Equal(b, fill(want, 64)) {
			t.Errorf("armed with %d: %x", arm, b)
		}
	}
}

func TestLastEpoch(t *testing.T) {
	d := disk.New(8, 64)
	slots.Save(d, slots.Root{Epoch: 1 << 40, Table: []int{0}})
	p := open(t, d)
	p.Begin()
	p.Alloc()
	n := d.Commands()
	is(t, "Commit", p.Commit(), api.ErrForm)
	if d.Commands() != n {
		t.Error("something was written")
	}
	is(t, "Abort", p.Abort(), api.OK)
}

func TestMemory(t *testing.T) { // P8.5
	p := open(t, disk.New(8, 64))
	p.Begin()
	p.Alloc()
	b := fill(1, 64)
	p.Write(0, b)
	clear(b)
	r, _ := p.Read(0)
	clear(r[:cap(r)])
	if r, _ = p.Read(0); !bytes.Equal(r, fill(1, 64)) {
		t.Error("what is handed in is kept, or what is told is no new memory")
	}
	n := 0
	for range p.All() {
		n++
		break
	}
	p.Alloc()
	for range p.All() {
		n++
		break
	}
	if n != 2 {
		t.Error("All, as far as it is asked")
	}
}

func TestManySectors(t *testing.T) { // P8.1, P8.4: numbers of sectors that need both bytes
	d := disk.New(1000, 1024)
	p := open(t, d)
	p.Begin()
	for i := range 600 {
		p.Alloc()
		is(t, "Write", p.Write(i, fill(i, 1024)), api.OK)
	}
	is(t, "Commit", p.Commit(), api.OK)
	root, _ := slots.Load(d)
	b, _ := d.Read(root.Table[0])
	for i := range 512 {
		if int(b[2*i])|int(b[2*i+1])<<8 != i+2 {
			t.Fatalf("the page %d is at %x", i, b[2*i:2*i+2])
		}
	}
	p = open(t, d)
	for i := range 600 {
		if b, e := p.Read(i); e != api.OK || !bytes.Equal(b, fill(i, 1024)) {
			t.Fatalf("Read(%d): %d", i, e)
		}
	}
}

func TestNoSectorForATablePage(t *testing.T) { // P8.3
	d := disk.New(40, 64)
	p := open(t, d)
	p.Begin()
	for i := range 33 {
		p.Alloc()
		if i < 32 {
			p.Write(i, fill(1, 64))
		}
	}
	is(t, "Commit", p.Commit(), api.OK)
	if p.Room() != 38-32-2 {
		t.Fatalf("Room %d", p.Room())
	}
	p.Begin()
	for i := range 2 {
		is(t, "Write", p.Write(i, fill(2, 64)), api.OK)
	}
	if p.Room() != 1 {
		t.Fatalf("Room %d", p.Room())
	}
	is(t, "Write where one is there, and two are needed", p.Write(32, fill(2, 64)), api.ErrFull)
	is(t, "Write where one is needed", p.Write(2, fill(2, 64)), api.OK)
	if i, e := p.Alloc(); i != 0 || e != api.ErrFull {
		t.Errorf("Alloc: %d, %d", i, e)
	}
	is(t, "Free", p.Free(32), api.ErrFull)
	is(t, "Write", p.Write(3, fill(2, 64)), api.ErrFull)
	is(t, "Write again", p.Write(2, fill(3, 64)), api.OK)
	if p.Room() != 0 || p.Used() != 33 {
		t.Errorf("Room %d, Used %d", p.Room(), p.Used())
	}
	is(t, "Free", p.Free(2), api.OK)
	if p.Room() != 1 {
		t.Errorf("Room %d: what the change took is free again", p.Room())
	}
	if i, e := p.Alloc(); i != 2 || e != api.OK {
		t.Errorf("Alloc in a table page that is touched: %d, %d", i, e)
	}
	is(t, "Free", p.Free(32), api.OK)
	is(t, "Commit", p.Commit(), api.OK)
	if p.Room() != 38-31-1 {
		t.Errorf("Room %d", p.Room())
	}
}
