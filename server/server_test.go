package server

import (
	"bytes"
	"math"
	"slices"
	"testing"

	"deedhold/api"
	"deedhold/disk"
	"deedhold/estate"
	"deedhold/order"
	"deedhold/pager"
	"deedhold/rect"
)

func boot(t *testing.T, d *disk.Disk) *Server {
	t.Helper()
	s, e := Boot(d, 64, nil)
	if e != api.OK {
		t.Fatalf("Boot: %d", e)
	}
	return s
}

func is(t *testing.T, what string, e, want api.Errno) {
	t.Helper()
	if e != want {
		t.Fatalf("%s: %d, want %d", what, e, want)
	}
}

func encode(t *testing.T, c order.Command) []byte {
	t.Helper()
	b, e := c.Bytes()
	if e != api.OK {
		t.Fatalf("%+v: %d", c, e)
	}
	return b
}

func login(t *testing.T, session int, name string) []byte {
	return encode(t, order.Command{Session: session, Login: name})
}

func as(t *testing.T, session int, o estate.Order) []byte {
	return encode(t, order.Command{Session: session, Order: o})
}

// told commits, and holds the replies against what they must be.
func told(t *testing.T, s *Server, want ...estate.Reply) {
	t.Helper()
	if s.Waiting() != len(want) {
		t.Fatalf("%d wait, not %d", s.Waiting(), len(want))
	}
	l, e := s.Commit()
	if e != api.OK || len(l) != len(want) || s.Waiting() != 0 {
		t.Fatalf("Commit: %d, %d replies, %d wait", e, len(l), s.Waiting())
	}
	for i, b := range l {
		if !bytes.Equal(b, order.Reply(want[i])) {
			r, _ := order.ParseReply(b)
			t.Fatalf("reply %d: %v, want %v", i, r, want[i])
		}
	}
}

func push(t *testing.T, s *Server, l ...[]byte) {
	t.Helper()
	for _, b := range l {
		is(t, "Push", s.Push(b), api.OK)
	}
}

func sessions(s *Server) [][2]int {
	var l [][2]int
	for n, account := range s.Sessions() {
		l = append(l, [2]int{n, account})
	}
	return l
}

func TestBoot(t *testing.T) { // P29.1
	d := disk.New(100, 128)
	s := boot(t, d)
	if !s.Parts().Equal(estate.Parts{NextDeed: 1, NextThing: 1, NextBid: 1}) || s.Epoch() != 0 || s.Room() != 98 || s.Down() || s.Waiting() != 0 || d.Commands() != 0 || len(sessions(s)) != 0 {
		t.Error("a new one")
	}
	for name, c := range map[string]struct {
		d       *disk.Disk
		side    int
		blocked []rect.Rect
		want    api.Errno
	}{
		"too few sectors": {disk.New(7, 128), 65, nil, api.ErrRange}, "too small ones": {disk.New(8, 63), 64, nil, api.ErrRange}, "no land": {d, 65, nil, api.ErrRange}, "a wrong rectangle": {d, 64, []rect.Rect{{}}, api.ErrRange},
	} {
		if s, e := Boot(c.d, c.side, c.blocked); s != nil || e != c.want {
			t.Errorf("%s: %d", name, e)
		}
	}
	push(t, s, as(t, 0, estate.Order{Kind: 1, Text: "ann"}), as(t, 0, estate.Order{Kind: 2, A: 1, B: 500}), login(t, 3, "ann"), as(t, 3, estate.Order{Kind: 4, C: 4, D: 4}))
	told(t, s, estate.Reply{N: 1}, estate.Reply{}, estate.Reply{N: 1}, estate.Reply{N: 1})
	if _, e := Boot(d, 64, []rect.Rect{{W: 1, H: 1}}); e != api.ErrBad {
		t.Errorf("other land: %d", e)
	}
	n := d.Commands()
	o := boot(t, d)
	if !o.Parts().Equal(s.Parts()) || len(sessions(o)) != 0 || o.Epoch() != 1 || o.Room() != s.Room() || d.Commands() != n {
		t.Error("booted again")
	}
	d.Arm(0)
	d.Flush()
	if s, e := Boot(d, 65, nil); s != nil || e != api.ErrDown {
		t.Errorf("a disk that is down: %d", e)
	}
	d = disk.New(100, 128)
	p, _ := pager.Open(d)
	p.Begin()
	p.Alloc()
	p.Commit()
	if s, e := Boot(d, 64, nil); s != nil || e != api.ErrBad {
		t.Errorf("pages, but no keep: %d", e)
	}
	if _, e := Boot(d, 65, nil); e != api.ErrRange {
		t.Errorf("no keep, and no land: %d", e)
	}
}

func TestCommands(t *testing.T) { // P29.2, P29.3
	s := boot(t, disk.New(100, 256))
	push(t, s, []byte{0xff}, nil, make([]byte, 600), as(t, 0, estate.Order{Kind: 1, Text: "ann"}), as(t, 5, estate.Order{Kind: 24}), login(t, 5, "bob"), login(t, 5, "ann"), as(t, 5, estate.Order{Kind: 24}), as(t, 0, estate.Order{Kind: 24}), as(t, 5, estate.Order{Kind: 25, A: 1}))
	if _, ok := s.Session(5); ok || len(s.Parts().Folk) != 0 {
		t.Error("what waits is to be seen")
	}
	bad, denied := estate.Reply{E: api.ErrCommand}, estate.Reply{E: api.ErrDenied}
	told(t, s, bad, bad, bad, estate.Reply{N: 1}, denied, estate.Reply{E: api.ErrNone}, estate.Reply{N: 1}, estate.Reply{}, denied, denied)
	push(t, s, as(t, 0, estate.Order{Kind: 1, Text: "bob"}), login(t, 5, "bob"), login(t, 1<<20, "ann"), login(t, 2, "ann"), login(t, 9, "eve"))
	told(t, s, estate.Reply{N: 2}, estate.Reply{N: 2}, estate.Reply{N: 1}, estate.Reply{N: 1}, estate.Reply{E: api.ErrNone})
	if l := sessions(s); !slices.Equal(l, [][2]int{{2, 1}, {5, 2}, {1 << 20, 1}}) {
		t.Errorf("Sessions %v", l)
	}
	for n, want := range map[int]int{2: 1, 5: 2, 9: 0, 0: 0, -1: 0, math.MaxInt: 0} {
		if account, ok := s.Session(n); account != want || ok != (want > 0) {
			t.Errorf("Session(%d): %d, %t", n, account, ok)
		}
	}
	n := 0
	for range s.Sessions() {
		n++
		break
	}
	if n != 1 {
		t.Error("Sessions, as far as it is asked")
	}
}

func TestBatch(t *testing.T) { // P29.2, P29.3
	d := disk.New(100, 256)
	s := boot(t, d)
	if l, e := s.Commit(); len(l) != 0 || e != api.OK || d.Commands() != 0 {
		t.Error("Commit without a batch")
	}
	push(t, s, as(t, 0, estate.Order{Kind: 25}), nil)
	told(t, s, estate.Reply{E: api.ErrRange}, estate.Reply{E: api.ErrCommand})
	if d.Commands() != 0 || s.Epoch() != 0 {
		t.Error("a keep is created for nothing")
	}
	for range 64 {
		push(t, s, as(t, 0, estate.Order{Kind: 25, A: 1}))
	}
	is(t, "Push", s.Push(nil), api.ErrMany)
	if s.Waiting() != 64 {
		t.Errorf("%d wait", s.Waiting())
	}
	told(t, s, slices.Repeat([]estate.Reply{{}}, 64)...)
	if s.Parts().Now != 64 || s.Epoch() != 1 {
		t.Error("the clock")
	}
	push(t, s, as(t, 0, estate.Order{Kind: 25, A: 1}), as(t, 0, estate.Order{Kind: 1, Text: "ann"}), login(t, 1, "ann"))
	is(t, "Abort", s.Abort(), api.OK)
	is(t, "Abort", s.Abort(), api.OK)
	if l, e := s.Commit(); len(l) != 0 || e != api.OK || s.Parts().Now != 64 || len(sessions(s)) != 0 || s.Waiting() != 0 {
		t.Error("Abort")
	}
	n := d.Commands()
	push(t, s, as(t, 0, estate.Order{Kind: 25}), as(t, 0, estate.Order{Kind: 24}))
	told(t, s, estate.Reply{E: api.ErrRange}, estate.Reply{E: api.ErrDenied})
	if d.Commands() != n || s.Epoch() != 1 {
		t.Error("the state is the same, yet something was written")
	}
	s = boot(t, d)
	push(t, s, as(t, 0, estate.Order{Kind: 1, Text: "ann"}))
	told(t, s, estate.Reply{N: 1})
	n = d.Commands()
	push(t, s, login(t, 1, "ann"))
	told(t, s, estate.Reply{N: 1})
	if account, ok := s.Session(1); d.Commands() != n || account != 1 || !ok {
		t.Error("a login alone")
	}
}

func TestFull(t *testing.T) { // P29.3
	d := disk.New(40, 128)
	s := boot(t, d)
	push(t, s, as(t, 0, estate.Order{Kind: 1, Text: "ann"}), login(t, 1, "ann"))
	told(t, s, estate.Reply{N: 1}, estate.Reply{N: 1})
	made := 0
	for {
		push(t, s, []byte{9}, login(t, 2+made, "ann"))
		for range 30 {
			push(t, s, as(t, 1, estate.Order{Kind: 8, Text: "abcdefghijklmnop"}))
		}
		before, room, epoch := s.Parts(), s.Room(), s.Epoch()
		l, e := s.Commit()
		is(t, "Commit", e, api.OK)
		if r, _ := order.ParseReply(l[1]); r.E == api.OK {
			made += 30
			continue
		}
		for i, b := range l {
			if !bytes.Equal(b, order.Full()) {
				t.Fatalf("reply %d: %x", i, b)
			}
			clear(b)
		}
		if len(l) != 32 || !s.Parts().Equal(before) || s.Room() != room || s.Epoch() != epoch || s.Waiting() != 0 {
			t.Error("something is changed")
		}
		break
	}
	o := boot(t, d)
	if !o.Parts().Equal(s.Parts()) || len(o.Parts().Things) != made || made == 0 {
		t.Errorf("%d things were made, %d are there", made, len(o.Parts().Things))
	}
	push(t, s, as(t, 1, estate.Order{Kind: 9, A: 1}), as(t, 1, estate.Order{Kind: 24}))
	l, e := s.Commit()
	is(t, "Commit", e, api.OK)
	_, there := s.Session(2)
	if _, ok := s.Session(2 + made); len(l) != 2 || ok || !there {
		t.Error("a session of a batch for which there was no room")
	}
	for i := range 8 { // what is left over from the batch is in nobody's way
		push(t, s, as(t, 1, estate.Order{Kind: 9, A: i + 2}), as(t, 1, estate.Order{Kind: 8, Text: "b"}))
		l, e := s.Commit()
		is(t, "Commit", e, api.OK)
		if r, _ := order.ParseReply(l[0]); r.E == api.ErrFull {
			t.Log("full, again")
		}
		for range 64 {
			push(t, s, as(t, 1, estate.Order{Kind: 8, Text: "abcdefghijklmnop"}))
		}
		l, e = s.Commit()
		is(t, "Commit", e, api.OK)
		if r, _ := order.ParseReply(l[63]); r.E != api.ErrFull {
			t.Error("not full any more")
		}
		if o := boot(t, d); !o.Parts().Equal(s.Parts()) {
			t.Fatal("what was committed is not booted")
		}
	}
	small := boot(t, disk.New(8, 64))
	push(t, small, as(t, 0, estate.Order{Kind: 1, Text: "ann"}), login(t, 1, "ann"))
	told(t, small, estate.Reply{E: api.ErrFull}, estate.Reply{E: api.ErrFull})
	if len(sessions(small)) != 0 || len(small.Parts().Folk) != 0 || small.Room() != 6 {
		t.Error("no room for a keep")
	}
}

func TestDown(t *testing.T) { // P29.1, P29.3
	d := disk.New(100, 256)
	s := boot(t, d)
	push(t, s, as(t, 0, estate.Order{Kind: 1, Text: "ann"}))
	d.Arm(2)
	is(t, "Push", s.Push(nil), api.OK)
	l, e := s.Commit()
	is(t, "Commit", e, api.ErrDown)
	if l != nil || !s.Down() || len(s.Parts().Folk) != 0 || s.Waiting() != 0 {
		t.Error("down")
	}
	is(t, "Push", s.Push(nil), api.ErrDown)
	is(t, "Abort", s.Abort(), api.ErrDown)
	_, e = s.Commit()
	is(t, "Commit", e, api.ErrDown)
	d.Crash(disk.Loss{})
	is(t, "Push", s.Push(nil), api.ErrDown)
}

type chance uint32

func (c *chance) of(n int) int {
	*c = *c*1664525 + 1013904223
	return int(*c>>8) % n
}

// some is a command, and what it does to a state and its sessions.
func (c *chance) some(t *testing.T, s *estate.State, on map[int]int) ([]byte, estate.Reply) {
	t.Helper()
	names := []string{"ann", "bob", "cat", "dan", "eve"}
	session := c.of(4)
	switch c.of(8) {
	case 0:
		name := names[c.of(5)]
		session = max(session, 1)
		for i, r := range s.Parts().Folk {
			if r.Name == name {
				on[session] = i + 1
				return login(t, session, name), estate.Reply{N: i + 1}
			}
		}
		return login(t, session, name), estate.Reply{E: api.ErrNone}
	case 1:
		return []byte{byte(c.of(256))}, estate.Reply{E: api.ErrCommand}
	}
	o := estate.Order{Kind: 1 + c.of(27)}
	if c.of(3) == 0 {
		o.Kind, session = []int{1, 2, 2, 25}[c.of(4)], 0
	}
	for _, f := range order.Fields(o.Kind) {
		switch f {
		case 'T':
			o.Text = names[c.of(5)]
		case 'A':
			o.A = c.of(9)
		case 'B':
			o.B = c.of(60)
		case 'C':
			o.C = c.of(9)
		case 'D':
			o.D = c.of(3)
		}
	}
	b := as(t, session, o)
	who, ok := on[session]
	if session > 0 && !ok {
		return b, estate.Reply{E: api.ErrDenied}
	}
	o.Who = who
	return b, s.Do(o)
}

func TestTheRegistrysReplies(t *testing.T) { // P29.2, P29.3
	for seed := range 20 {
		c := chance(seed)
		d := disk.New(400, 256)
		s := boot(t, d)
		state, _ := estate.New(64, nil)
		on := map[int]int{}
		for range 40 {
			next, nextOn := state.Copy(), map[int]int{}
			for n, who := range on {
				nextOn[n] = who
			}
			var want []estate.Reply
			for range c.of(12) {
				b, r := c.some(t, next, nextOn)
				push(t, s, b)
				want = append(want, r)
			}
			if c.of(6) == 0 {
				is(t, "Abort", s.Abort(), api.OK)
				continue
			}
			told(t, s, want...)
			state, on = next, nextOn
			if !s.Parts().Equal(state.Parts()) {
				t.Fatal("another state")
			}
			if c.of(9) == 0 {
				s = boot(t, d)
				clear(on)
			}
			for n := range 4 {
				if who, ok := s.Session(n); who != on[n] || ok != (on[n] > 0) {
					t.Fatalf("Session(%d): %d", n, who)
				}
			}
		}
	}
}

func TestCrash(t *testing.T) { // P29.4
	after := 0
	for seed := range 300 {
		c := chance(seed)
		d := disk.New(150, 128)
		s := boot(t, d)
		on := map[int]int{}
		was, _ := estate.New(64, nil)
		for range 4 {
			d.Arm(c.of(60))
			next := was
			for range 60 {
				next = was.Copy()
				for range 1 + c.of(5) {
					b, _ := c.some(t, next, on)
					push(t, s, b)
				}
				l, e := s.Commit()
				if e == api.ErrDown {
					break
				}
				if r, _ := order.ParseReply(l[0]); r.E == api.ErrFull {
					t.Fatal("no room")
				}
				was = next
			}
			var kept []int
			for _, i := range d.Cached() {
				if c.of(2) == 0 {
					kept = append(kept, i)
				}
			}
			down := s.Down()
			d.Crash(disk.Loss{Keep: kept, Torn: c.of(150), Cut: c.of(130)})
			s = boot(t, d)
			clear(on)
			if got := s.Parts(); down && !got.Equal(was.Parts()) && got.Equal(next.Parts()) {
				was = next
				after++
			}
			if !s.Parts().Equal(was.Parts()) {
				t.Fatal("a part of a batch is there, or one is lost")
			}
		}
	}
	if after == 0 {
		t.Error("no Commit that found the power gone was done all the same")
	}
}

func TestMemory(t *testing.T) { // P29.4
	s := boot(t, disk.New(100, 256))
	b := as(t, 0, estate.Order{Kind: 1, Text: "ann"})
	push(t, s, b)
	clear(b)
	push(t, s, as(t, 0, estate.Order{Kind: 1, Text: "bob"}))
	l, _ := s.Commit()
	if r, _ := order.ParseReply(l[1]); r.N != 2 || s.Parts().Folk[0].Name != "ann" {
		t.Error("what is handed in is kept")
	}
	s.Parts().Folk[0].Name = "zoe"
	if s.Parts().Folk[0].Name != "ann" {
		t.Error("Parts tells its own memory")
	}
}
