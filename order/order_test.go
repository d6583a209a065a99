package order

import (
	"bytes"
	"math"
	"slices"
	"strings"
	"testing"

	"deedhold/api"
	"deedhold/estate"
	"deedhold/varint"
)

// uses is the document's table.
var uses = map[int]string{1: "T", 8: "T", 2: "AB", 3: "AB", 6: "AB", 10: "AB", 18: "AB", 20: "AB", 21: "AB", 26: "AB", 4: "ABCD", 7: "ABCD", 22: "ABCD",
	5: "A", 9: "A", 12: "A", 13: "A", 15: "A", 16: "A", 17: "A", 23: "A", 25: "A", 11: "ABC", 14: "ABC", 19: "ABC", 24: "", 27: ""}

// full is an order that has all fields that its kind uses.
func full(kind int) estate.Order {
	o := estate.Order{Kind: kind}
	for _, f := range uses[kind] {
		switch f {
		case 'T':
			o.Text = "Any text\x00\xff"
		case 'A':
			o.A = 5
		case 'B':
			o.B = -70
		case 'C':
			o.C = math.MaxInt
		case 'D':
			o.D = math.MinInt
		}
	}
	return o
}

func encode(c Command) []byte {
	o := new(varint.Out).Int(c.Session).Int(c.Order.Kind)
	if c.Login != "" {
		o.Text(c.Login)
	}
	for _, f := range uses[c.Order.Kind] {
		switch f {
		case 'T':
			o.Text(c.Order.Text)
		case 'A':
			o.Int(c.Order.A)
		case 'B':
			o.Int(c.Order.B)
		case 'C':
			o.Int(c.Order.C)
		case 'D':
			o.Int(c.Order.D)
		}
	}
	return o.All()
}

func right() []Command {
	l := []Command{{Order: estate.Order{Kind: 8, Text: strings.Repeat("\xff", 16)}}, {Session: 1, Login: "ann"}, {Session: 1 << 20, Login: "abcdefghijklmnop"}}
	for kind := 1; kind <= 27; kind++ {
		for _, session := range []int{0, 1, 1 << 20} {
			l = append(l, Command{Session: session, Order: estate.Order{Kind: kind}}, Command{Session: session, Order: full(kind)})
		}
	}
	return l
}

func TestRight(t *testing.T) { // P27.1, P27.3
	seen := map[string]Command{}
	for _, c := range right() {
		b, e := c.Bytes()
		if !c.Right() || e != api.OK || !bytes.Equal(b, encode(c)) {
			t.Errorf("%+v: %t, %x, %d", c, c.Right(), b, e)
		}
		if p, e := Parse(b); p != c || e != api.OK {
			t.Errorf("%+v: %+v, %d", c, p, e)
		}
		if o, ok := seen[string(b)]; ok && o != c {
			t.Errorf("%+v and %+v have the same bytes", c, o)
		}
		seen[string(b)] = c
		for n := range b {
			if p, e := Parse(b[:n]); e != api.ErrCommand || p != (Command{}) {
				if o, ok := seen[string(b[:n])]; !ok || o != p {
					t.Errorf("%x: %+v", b[:n], p)
				}
			}
		}
		if _, e := Parse(append(slices.Clone(b), 0)); e != api.ErrCommand {
			t.Errorf("%x and a byte more", b)
		}
	}
	if b, _ := (Command{Session: 1, Order: estate.Order{Kind: 24}}).Bytes(); string(b) != "\x02\x30" {
		t.Errorf("the example: %x", b)
	}
}

func TestWrong(t *testing.T) { // P27.1
	l := []Command{{}, {Session: 1}, {Login: "ann"}, {Session: 1, Login: "Ann"}, {Session: 1, Login: "abcdefghijklmnopq"}, {Session: -1, Login: "ann"}, {Session: 1<<20 + 1, Login: "ann"},
		{Session: 1, Login: "ann", Order: estate.Order{Kind: 24}}, {Session: 1, Login: "ann", Order: estate.Order{Text: "a"}}, {Session: 1, Login: "ann", Order: estate.Order{Who: 1}},
		{Session: -1, Order: full(24)}, {Session: 1<<20 + 1, Order: full(24)}, {Session: math.MinInt, Order: full(24)}, {Order: estate.Order{Kind: 28}}, {Order: estate.Order{Kind: -1}}, {Order: estate.Order{Kind: math.MaxInt}},
		{Order: estate.Order{Kind: 1, Text: strings.Repeat("a", 17)}}}
	for kind := 1; kind <= 27; kind++ {
		for i, f := range "TABCDW" {
			o := estate.Order{Kind: kind}
			switch i {
			case 0:
				o.Text = "a"
			case 1:
				o.A = 1
			case 2:
				o.B = 1
			case 3:
				o.C = 1
			case 4:
				o.D = 1
			case 5:
				o.Who = 1
			}
			if !strings.ContainsRune(uses[kind], f) {
				l = append(l, Command{Order: o})
			}
		}
	}
	for _, c := range l {
		if b, e := c.Bytes(); c.Right() || e != api.ErrForm || b != nil {
			t.Errorf("%+v: %d", c, e)
		}
	}
	for name, b := range map[string][]byte{
		"nothing": nil, "a session": {2}, "a session below 0": {1, 0x30}, "a session too great": new(varint.Out).Int(1<<20 + 1).Int(24).All(), "a kind below 0": {2, 1},
		"the kind 28": {2, 0x38}, "a kind far off": new(varint.Out).Int(1).Int(math.MaxInt).All(), "a login in the session 0": {0, 0, 2, 'a'}, "a login of no name": {2, 0, 0}, "a login of a wrong name": {2, 0, 2, 'A'},
		"a login that is too long": new(varint.Out).Int(1).Int(0).Text("abcdefghijklmnopq").All(), "a text that is too long": new(varint.Out).Int(0).Int(1).Text("abcdefghijklmnopq").All(),
		"a number in two ways": {2, 0xb0, 0}, "too many bytes": make([]byte, 513), "a number that is none": append([]byte{2, 10}, 0xff, 0xff, 0xff, 0xff, 0xff, 0xff, 0xff, 0xff, 0xff, 2),
	} {
		if c, e := Parse(b); c != (Command{}) || e != api.ErrCommand {
			t.Errorf("%s: %+v, %d", name, c, e)
		}
	}
}

func TestFields(t *testing.T) { // P27.1
	for kind := -2; kind < 40; kind++ {
		if Fields(kind) != uses[kind] {
			t.Errorf("Fields(%d): %q", kind, Fields(kind))
		}
	}
	if Fields(math.MinInt) != "" || Fields(math.MaxInt) != "" {
		t.Error("Fields, far off")
	}
}

func TestReplies(t *testing.T) { // P27.2
	long := slices.Repeat([]int{-1}, 4096)
	for _, r := range []estate.Reply{{}, {E: 31}, {N: -5}, {E: -3, N: math.MinInt, L: []int{math.MaxInt, 0}}, {L: long}} {
		b := Reply(r)
		if want := new(varint.Out).Int(int(r.E)).Int(r.N).Ints(r.L...).All(); !bytes.Equal(b, want) {
			t.Errorf("%v: %x", r, b)
		}
		if p, ok := ParseReply(b); !ok || !p.Equal(r) {
			t.Errorf("%v: %v, %t", r, p, ok)
		}
	}
	for name, b := range map[string][]byte{"nothing": nil, "an error": {0}, "no list": {0, 0}, "a byte more": {0, 0, 0, 0}, "a list that is cut": {0, 0, 4, 2}, "a count below 0": {0, 0, 1}, "too many": Reply(estate.Reply{L: append(long, 1)})} {
		if r, ok := ParseReply(b); ok || !r.Equal(estate.Reply{}) {
			t.Errorf("%s: %v", name, r)
		}
	}
	if r, ok := ParseReply(Bad()); !ok || !r.Equal(estate.Reply{E: api.ErrCommand}) {
		t.Error("Bad")
	}
	if r, ok := ParseReply(Full()); !ok || !r.Equal(estate.Reply{E: api.ErrFull}) {
		t.Error("Full")
	}
}

func TestMemory(t *testing.T) { // P27.3
	b, _ := (Command{Session: 1, Login: "ann"}).Bytes()
	c, _ := Parse(b)
	clear(b)
	l := []int{1, 2, 3}
	r := Reply(estate.Reply{L: l[:2]})
	clear(Bad())
	if c.Login != "ann" || l[2] != 3 || len(r) != 5 || !bytes.Equal(Bad(), Reply(estate.Reply{E: api.ErrCommand})) {
		t.Error("what is handed in is kept")
	}
}
