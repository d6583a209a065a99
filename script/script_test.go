package script

import (
	"bytes"
	"math"
	"slices"
	"strings"
	"testing"

	"deedhold/api"
	"deedhold/disk"
	"deedhold/estate"
	"deedhold/order"
	"deedhold/rect"
)

func ofOrder(session int, o estate.Order) Step {
	return Step{Kind: 1, Command: order.Command{Session: session, Order: o}}
}

// lines are right ones, and their steps.
func lines() map[string]Step {
	m := map[string]Step{
		"login 1 ann":                      {Kind: 1, Command: order.Command{Session: 1, Login: "ann"}},
		"login 1048576 abcdefghijklmnop":   {Kind: 1, Command: order.Command{Session: 1 << 20, Login: "abcdefghijklmnop"}},
		"as 0 enrol ann":                   ofOrder(0, estate.Order{Kind: 1, Text: "ann"}),
		"as 1048576 make a-1":              ofOrder(1<<20, estate.Order{Kind: 8, Text: "a-1"}),
		"as 3 claim 0 -1 4 -50":            ofOrder(3, estate.Order{Kind: 4, B: -1, C: 4, D: -50}),
		"as 3 purse":                       ofOrder(3, estate.Order{Kind: 24}),
		"as 3 bank":                        ofOrder(3, estate.Order{Kind: 27}),
		"as 0 tick 9223372036854775807":    ofOrder(0, estate.Order{Kind: 25, A: math.MaxInt}),
		"as 0 mint -9223372036854775808 7": ofOrder(0, estate.Order{Kind: 2, A: math.MinInt, B: 7}),
		"raw":                              {Kind: 2},
		"raw 00ff9a0b":                     {Kind: 2, Data: []byte{0, 255, 0x9a, 11}},
		"commit":                           {Kind: 3},
		"abort":                            {Kind: 4},
		"boot":                             {Kind: 5},
		"arm 0":                            {Kind: 6},
		"arm -7":                           {Kind: 6, N: -7},
		"crash 0 0":                        {Kind: 7},
		"crash -1 600 3 3 -2 0":            {Kind: 7, Loss: disk.Loss{Torn: -1, Cut: 600, Keep: []int{3, 3, -2, 0}}},
	}
	for i, word := range strings.Fields("enrol mint give claim demolish transfer list make destroy build store take open stock unstock buy collect pay auction bid look near ask purse tick inside bank") {
		o, line := estate.Order{Kind: i + 1}, "as 2 "+word
		for _, f := range order.Fields(i + 1) {
			switch f {
			case 'T':
				o.Text, line = "zoe", line+" zoe"
			case 'A':
				o.A, line = 5, line+" 5"
			case 'B':
				o.B, line = 6, line+" 6"
			case 'C':
				o.C, line = 7, line+" 7"
			case 'D':
				o.D, line = 8, line+" 8"
			}
		}
		m[line] = ofOrder(2, o)
	}
	m["raw "+strings.Repeat("0f", 600)] = Step{Kind: 2, Data: bytes.Repeat([]byte{15}, 600)}
	m["crash 1 2"+strings.Repeat(" 9", 64)] = Step{Kind: 7, Loss: disk.Loss{Torn: 1, Cut: 2, Keep: slices.Repeat([]int{9}, 64)}}
	return m
}

func TestLines(t *testing.T) { // P30.1
	for line, s := range lines() {
		got, e := s.Line()
		if !s.Right() || got != line || e != api.OK {
			t.Errorf("%q: %q, %d", line, got, e)
		}
		p, e := Parse(line)
		if e != api.OK || !p.Equal(s) || !s.Equal(p) {
			t.Errorf("%q: %+v, %d", line, p, e)
		}
		for other, o := range lines() {
			if o.Equal(s) != (other == line) {
				t.Errorf("%q and %q: Equal %t", line, other, o.Equal(s))
			}
		}
	}
	if !(Step{Kind: 2, Data: []byte{}}).Equal(Step{Kind: 2}) || !(Step{Loss: disk.Loss{Keep: []int{}}}).Equal(Step{}) {
		t.Error("nil and empty are one")
	}
}

func TestNoLines(t *testing.T) { // P30.1
	for _, line := range []string{"", " ", "x", "commit ", " commit", "commit 1", "abort 0", "boot now", "Commit", "arm", "arm x", "arm 1 2", "arm 01", "arm +1", "arm -0", "arm 1_0", "arm 0x1", "arm  1", "arm 9223372036854775808",
		"crash", "crash 1", "crash 1 2 ", "crash 1 x", "crash 1 2 03", "crash 1 2 9223372036854775808", "crash 1 2" + strings.Repeat(" 9", 65), "raw ", "raw 0", "raw 0G", "raw 0A", "raw 00 00", "raw 00  00", "raw " + strings.Repeat("00", 601),
		"login", "login 1", "login 1 Ann", "login 0 ann", "login 1048577 ann", "login -1 ann", "login 1 ann ", "login 1 ann 2", "login x ann", "login 1 ", "login 01 ann", "login  1 ann", "login 1 abcdefghijklmnopq",
		"as", "as 1", "as 1 ", "as 1 fly", "as 1 fly 1", "as x purse", "as -1 purse", "as 1048577 purse", "as 1 purse 1", "as 1 purse ", "as 1 enrol", "as 1 enrol ", "as 1 enrol Ann", "as 1 enrol 1", "as 1 enrol ann bob", "as 1 enrol abcdefghijklmnopq",
		"as 1 claim 1 2 3", "as 1 claim 1 2 3 4 5", "as 1 claim 1 2 3 x", "as 1 claim 1 2 3 04", "as 1 destroy", "as 1 destroy a", "as 1 login", "as 1  purse", "AS 1 purse", "as 1 purse\n", "as\t1 purse", "commit\x00"} {
		if s, e := Parse(line); e != api.ErrLine || !s.Equal(Step{}) {
			t.Errorf("%q: %+v, %d", line, s, e)
		}
	}
}

func TestNotRight(t *testing.T) { // P30.1
	c := order.Command{Session: 1, Order: estate.Order{Kind: 24}}
	l := []Step{{}, {Kind: -1}, {Kind: 8}, {Kind: math.MaxInt}, {Kind: 1}, {Kind: 1, Command: order.Command{Login: "ann"}}, ofOrder(0, estate.Order{Kind: 24, A: 1}), ofOrder(0, estate.Order{Kind: 24, Who: 1}),
		ofOrder(0, estate.Order{Kind: 1}), ofOrder(0, estate.Order{Kind: 1, Text: "a b"}), ofOrder(0, estate.Order{Kind: 8, Text: "A"}), ofOrder(-1, estate.Order{Kind: 24}),
		{Kind: 2, Data: make([]byte, 601)}, {Kind: 7, Loss: disk.Loss{Keep: make([]int, 65)}}}
	for kind := 1; kind <= 7; kind++ {
		if kind != 1 {
			l = append(l, Step{Kind: kind, Command: c})
		}
		s := Step{Kind: kind}
		if kind == 1 {
			s.Command = c
		}
		if kind != 2 {
			s.Data = []byte{1}
			l = append(l, s)
			s.Data = nil
		}
		if kind != 6 {
			s.N = 1
			l = append(l, s)
			s.N = 0
		}
		if kind != 7 {
			for _, loss := range []disk.Loss{{Torn: 1}, {Cut: 1}, {Keep: []int{0}}} {
				s.Loss = loss
				l = append(l, s)
			}
		}
	}
	for _, s := range l {
		if line, e := s.Line(); s.Right() || line != "" || e != api.ErrForm {
			t.Errorf("%+v: %q, %d", s, line, e)
		}
	}
}

func newWorld(t *testing.T, sectors, size int, blocked ...rect.Rect) *World {
	t.Helper()
	w, e := New(sectors, size, 64, blocked)
	if e != api.OK {
		t.Fatalf("New: %d", e)
	}
	return w
}

// play runs lines, each with what it must show behind a >.
func play(t *testing.T, w *World, text string) {
	t.Helper()
	var l, want []string
	for _, x := range strings.Split(strings.TrimSpace(text), "\n") {
		line, shown, _ := strings.Cut(strings.TrimSpace(x), " > ")
		l, want = append(l, line), append(want, shown)
	}
	got := w.Run(l)
	if len(got) != len(l) {
		t.Fatalf("%d lines, %d answers", len(l), len(got))
	}
	for i := range l {
		if got[i] != want[i] {
			t.Errorf("%q: %q, want %q", l[i], got[i], want[i])
		}
	}
}

func TestNew(t *testing.T) { // P30.2
	for name, c := range map[string]struct {
		sectors, size, side int
		blocked             []rect.Rect
	}{"no sectors": {0, 128, 64, nil}, "too many": {4097, 128, 64, nil}, "too small": {100, 15, 64, nil}, "too few for a server": {7, 128, 64, nil}, "too small for one": {100, 63, 64, nil}, "no land": {100, 128, 65, nil}, "wrong land": {100, 128, 64, []rect.Rect{{}}}} {
		if w, e := New(c.sectors, c.size, c.side, c.blocked); w != nil || e != api.ErrRange {
			t.Errorf("%s: %d", name, e)
		}
	}
	w := newWorld(t, 100, 128)
	if w.Disk().Sectors() != 100 || w.Disk().Size() != 128 || w.Server() == nil || w.Server().Room() != 98 {
		t.Error("New")
	}
}

func TestExamplesOfTheWhole(t *testing.T) { // the document's ten
	w := newWorld(t, 512, 256, rect.Rect{X: 20, Y: 20, W: 1, H: 1})
	play(t, w, `
		as 0 enrol ann > 0
		as 0 mint 1 500 > 0
		login 1 ann > 0
		as 1 claim 0 0 4 4 > 0
		commit > 0 | 0 1 | 0 0 | 0 1 | 0 1
		as 1 purse > 0
		as 0 enrol bob > 0
		as 0 enrol cat > 0
		as 0 enrol dan > 0
		login 2 bob > 0
		login 3 cat > 0
		login 4 dan > 0
		as 2 claim 3 3 2 2 > 0
		as 2 claim 19 19 2 2 > 0
		as 2 claim 8 8 1 1 > 0
		commit > 0 | 0 420 | 0 2 | 0 3 | 0 4 | 0 2 | 0 3 | 0 4 | 32 0 | 33 0 | 35 0
		as 1 list 1 1 2 1 > 0
		as 1 list 1 2 3 1 > 0
		as 1 build 1 3 > 0
		as 1 make sword > 0
		as 1 store 1 1 1 > 0
		as 3 take 1 > 0
		as 2 take 1 > 0
		as 2 bank > 0
		commit > 0 | 0 0 | 0 0 | 0 1 | 0 1 | 0 0 | 31 0 | 0 0 | 0 0 1
		as 1 list 1 3 2 1 > 0
		as 2 ask 1 > 0
		commit > 0 | 0 0 | 0 0 0 0 4 4 1 0 100 0 1 0
		as 0 mint 3 200 > 0
		as 0 mint 4 200 > 0
		as 1 make pot > 0
		as 1 open 1 > 0
		as 1 stock 2 1 30 > 0
		as 3 buy 2 > 0
		as 1 collect 1 > 0
		commit > 0 | 0 0 | 0 0 | 0 2 | 0 0 | 0 0 | 0 30 | 0 30
		as 1 auction 1 100 141 > 0
		as 3 bid 1 100 > 0
		as 4 bid 1 104 > 0
		as 4 bid 1 105 > 0
		as 3 purse > 0
		commit > 0 | 0 1 | 0 0 | 36 0 | 0 3 | 0 170
		as 1 make lamp > 0
		as 1 store 3 1 0 > 0
		as 0 tick 140 > 0
		as 1 bank > 0
		as 0 tick 1 > 0
		as 1 bank > 0
		as 1 look 0 0 > 0
		commit > 0 | 0 3 | 0 0 | 0 0 | 0 0 | 0 2 | 0 0 3 | 0 0
		raw ff > 0
		raw > 0
		commit > 0 | 30 0 | 30 0
	`)
}

func TestSteps(t *testing.T) { // P30.2
	w := newWorld(t, 200, 128)
	play(t, w, `
		nonsense > 60
		commit > 0
		abort > 0
		as 0 enrol ann > 0
		login 1 ann > 0
		commit > 0 | 0 1 | 0 1
		as 1 purse > 0
		boot > 0
		commit > 0
		as 1 purse > 0
		commit > 0 | 31 0
		login 1 ann > 0
		as 1 make a > 0
		abort > 0
		as 0 tick 1 > 0
		arm 3 > 0
		commit > 20
		commit > 20
		as 1 purse > 20
		raw 00 > 20
		abort > 20
		boot > 20
		login 0 ann > 60
		crash 0 0 > 0
		login 1 ann > 0
		as 0 tick 5 > 0
		as 1 bank > 0
		commit > 0 | 0 1 | 0 0 | 0 0
		arm 0 > 0
		arm -1 > 0
		as 0 tick 7 > 0
		commit > 0 | 0 0
		crash -1 99 1 2 3 > 0
	`)
	if w.Server().Parts().Now != 12 || w.Server().Down() {
		t.Errorf("the clock: %d", w.Server().Parts().Now)
	}
	for range 64 {
		if a := w.Do(Step{Kind: 2}); a.E != api.OK || len(a.Replies) != 0 {
			t.Fatal("raw")
		}
	}
	for _, s := range []Step{{Kind: 2}, ofOrder(0, estate.Order{Kind: 25})} {
		if a := w.Do(s); a.E != api.ErrMany {
			t.Errorf("one more: %d", a.E)
		}
	}
	before := w.Server()
	for _, s := range []Step{{}, {Kind: 8}, {Kind: -1}, {Kind: math.MinInt}, {Kind: 1}, ofOrder(0, estate.Order{Kind: 28}), ofOrder(0, estate.Order{Kind: 24, B: 1})} {
		if a := w.Do(s); a.E != api.ErrForm || len(a.Replies) != 0 || w.Server() != before || before.Waiting() != 64 {
			t.Errorf("%+v: %d", s, a.E)
		}
	}
	if a := w.Do(Step{Kind: 3}); a.E != api.OK || len(a.Replies) != 64 {
		t.Error("commit")
	}
	if len(w.Run(nil)) != 0 {
		t.Error("Run of nothing")
	}
}

func TestBootThatFails(t *testing.T) { // P30.2: the server stays as it is
	w := newWorld(t, 200, 128)
	play(t, w, `
		as 0 enrol ann > 0
		commit > 0 | 0 1
		as 0 tick 1 > 0
		arm 2 > 0
		commit > 20
	`)
	s := w.Server()
	if a := w.Do(Step{Kind: 5}); a.E != api.ErrDown || w.Server() != s || !s.Down() {
		t.Errorf("boot: %d", a.E)
	}
	if a := w.Do(Step{Kind: 7, Loss: disk.Loss{Torn: -1}}); a.E != api.OK || w.Server() == s || w.Server().Down() || len(w.Server().Parts().Folk) != 1 || w.Server().Parts().Now != 0 {
		t.Errorf("crash: %d", a.E)
	}
}

func TestCrashes(t *testing.T) { // examples 9: behind the boot all of the batch is there, or none
	some := []int{0, 0}
	for armed := range 40 {
		for keep := range 8 {
			w := newWorld(t, 60, 128)
			w.Run([]string{"as 0 enrol ann", "commit", "as 0 enrol bob", "as 0 mint 1 7", "as 0 mint 2 8", "as 0 tick 9"})
			w.Disk().Arm(armed)
			w.Run([]string{"commit"})
			l := disk.Loss{Torn: keep % 3, Cut: 40 + keep}
			for _, i := range w.Disk().Cached() {
				if (i+keep)%3 == 0 {
					l.Keep = append(l.Keep, i)
				}
			}
			if a := w.Do(Step{Kind: 7, Loss: l}); a.E != api.OK {
				t.Fatalf("crash: %d", a.E)
			}
			p := w.Server().Parts()
			switch {
			case len(p.Folk) == 1 && p.Folk[0].Gold == 0 && p.Now == 0:
				some[0]++
			case len(p.Folk) == 2 && p.Folk[0].Gold == 7 && p.Folk[1].Gold == 8 && p.Now == 9:
				some[1]++
			default:
				t.Fatalf("%+v", p)
			}
		}
	}
	if some[0] == 0 || some[1] == 0 {
		t.Errorf("%v", some)
	}
}

func TestFull(t *testing.T) { // example 8
	w := newWorld(t, 8, 64)
	play(t, w, `
		as 0 enrol ann > 0
		raw 01 > 0
		commit > 0 | 21 0 | 21 0
	`)
}

func TestShow(t *testing.T) { // P30.2
	r := func(x estate.Reply) []byte { return order.Reply(x) }
	for want, a := range map[string]Answer{
		"0":                         {},
		"60":                        {E: api.ErrLine},
		"-3":                        {E: -3},
		"0 | 0 1":                   {Replies: [][]byte{r(estate.Reply{N: 1})}},
		"20 | ? | 31 0 | 0 -1 5 -6": {E: 20, Replies: [][]byte{{9}, r(estate.Reply{E: 31}), r(estate.Reply{N: -1, L: []int{5, -6}})}},
	} {
		if got := a.Show(); got != want {
			t.Errorf("%q, want %q", got, want)
		}
	}
	if got := (Answer{Replies: [][]byte{nil, r(estate.Reply{N: math.MinInt})}}).Show(); got != "0 | ? | 0 -9223372036854775808" {
		t.Errorf("%q", got)
	}
}

func TestMemory(t *testing.T) {
	blocked := []rect.Rect{{X: 1, W: 1, H: 1}}
	w, _ := New(100, 128, 64, blocked)
	blocked[0].X = 5
	play(t, w, `
		boot > 0
		as 0 enrol ann > 0
		as 0 mint 1 90 > 0
		login 1 ann > 0
		as 1 claim 1 0 1 1 > 0
		as 1 claim 5 0 1 1 > 0
		commit > 0 | 0 1 | 0 0 | 0 1 | 33 0 | 0 1
	`)
	s, _ := Parse("crash 1 2 3 4")
	o, _ := Parse("crash 1 2 3 4")
	clear(s.Loss.Keep)
	if !slices.Equal(o.Loss.Keep, []int{3, 4}) {
		t.Error("two steps share")
	}
}
