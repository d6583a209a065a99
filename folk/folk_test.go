package folk

import (
	"math"
	"slices"
	"strconv"
	"strings"
	"testing"

	"deedhold/api"
)

const most = api.MaxGold

func is(t *testing.T, what string, e, want api.Errno) {
	t.Helper()
	if e != want {
		t.Errorf("%s: %d, want %d", what, e, want)
	}
}

func has(t *testing.T, f *Folk, held int, l ...int) {
	t.Helper()
	total := held
	for i, n := range l {
		if g, e := f.Gold(i + 1); g != n || e != api.OK {
			t.Errorf("Gold(%d): %d, %d; want %d", i+1, g, e, n)
		}
		total += n
	}
	if f.Held() != held || f.Total() != total || f.Len() != len(l) {
		t.Errorf("Held %d, Total %d, Len %d; want %d, %d, %d", f.Held(), f.Total(), f.Len(), held, total, len(l))
	}
}

func TestName(t *testing.T) { // P17.1
	for s, want := range map[string]bool{"a": true, "ann": true, "a-1": true, "z9-": true, "abcdefghijklmnop": true, "abcdefghijklmnopq": false, "": false, "-a": false, "1a": false,
		"A": false, "aB": false, "a b": false, "a_": false, "é": false, "aé": false, "a\x00": false, "a\n": false, "`": false, "{": false, "a{": false, "a/": false, "a:": false} {
		if Name(s) != want {
			t.Errorf("Name(%q): %t", s, !want)
		}
	}
}

func TestAdd(t *testing.T) { // P17.1
	f := New()
	has(t, f, 0)
	for i := 1; i <= 256; i++ {
		if id, e := f.Add("n" + strconv.Itoa(i)); id != i || e != api.OK {
			t.Fatalf("Add: %d, %d", id, e)
		}
	}
	for s, want := range map[string]api.Errno{"": api.ErrName, "N": api.ErrName, "n7": api.ErrTwice, "more": api.ErrMany} {
		if id, e := f.Add(s); id != 0 || e != want {
			t.Errorf("Add(%q): %d, %d", s, id, e)
		}
	}
	if id, ok := f.Find("n256"); id != 256 || !ok || f.Len() != 256 {
		t.Error("Find")
	}
	for _, s := range []string{"more", "", "n0"} {
		if id, ok := f.Find(s); id != 0 || ok {
			t.Errorf("Find(%q)", s)
		}
	}
	for id, want := range map[int]bool{0: false, 1: true, 256: true, 257: false, -1: false, math.MinInt: false, math.MaxInt: false} {
		if f.Has(id) != want {
			t.Errorf("Has(%d)", id)
		}
	}
}

func TestGold(t *testing.T) { // P17.2
	f := New()
	f.Add("ann")
	f.Add("bob")
	is(t, "Mint", f.Mint(1, 50), api.OK)
	is(t, "Hold", f.Hold(1, 20), api.OK)
	has(t, f, 20, 30, 0)
	is(t, "Move", f.Move(1, 2, 30), api.OK)
	is(t, "Move", f.Move(1, 2, 1), api.ErrFunds)
	is(t, "Move to itself", f.Move(2, 2, 30), api.OK)
	is(t, "Move to itself", f.Move(2, 2, 31), api.ErrFunds)
	is(t, "Give", f.Give(1, 21), api.ErrFunds)
	is(t, "Give", f.Give(1, 15), api.OK)
	is(t, "Burn", f.Burn(2, 31), api.ErrFunds)
	is(t, "Burn", f.Burn(2, 30), api.OK)
	is(t, "Burn", f.Burn(2, 0), api.OK)
	is(t, "Hold", f.Hold(1, 16), api.ErrFunds)
	has(t, f, 5, 15, 0)
	is(t, "Mint", f.Mint(2, most-20), api.OK)
	is(t, "Mint", f.Mint(2, 1), api.ErrOverflow)
	is(t, "Mint", f.Mint(1, most), api.ErrOverflow)
	is(t, "Mint", f.Mint(1, 0), api.OK)
	has(t, f, 5, 15, most-20)
	is(t, "Burn", f.Burn(2, most-20), api.OK)
	is(t, "Mint", f.Mint(1, most-20), api.OK)
	is(t, "Give", f.Give(2, 5), api.OK)
	is(t, "Hold", f.Hold(2, 5), api.OK)
	has(t, f, 5, most-5, 0)
}

func TestErrorsInOrder(t *testing.T) { // P17.2
	f := New()
	f.Add("ann")
	f.Mint(1, 9)
	f.Hold(1, 4)
	for _, id := range []int{0, 2, -1, math.MinInt, math.MaxInt} {
		for _, n := range []int{-1, 0, 100, most + 1} {
			_, e := f.Gold(id)
			for _, e := range []api.Errno{e, f.Mint(id, n), f.Burn(id, n), f.Move(id, 1, n), f.Hold(id, n), f.Give(id, n)} {
				is(t, "no account", e, api.ErrNone)
			}
		}
		is(t, "Move", f.Move(1, id, 100), api.ErrNone)
		is(t, "Move", f.Move(1, id, 1), api.ErrNone)
		is(t, "Move", f.Move(1, id, -1), api.ErrRange)
	}
	for _, n := range []int{-1, most + 1, math.MinInt, math.MaxInt} {
		for _, e := range []api.Errno{f.Mint(1, n), f.Burn(1, n), f.Move(1, 1, n), f.Hold(1, n), f.Give(1, n)} {
			is(t, "no amount", e, api.ErrRange)
		}
	}
	has(t, f, 4, 5)
}

func TestRestore(t *testing.T) { // P17.3
	l := []Row{{"ann", 5}, {"bob", 0}}
	f, ok := Restore(l, 7)
	if !ok {
		t.Fatal("Restore")
	}
	has(t, f, 7, 5, 0)
	if !slices.Equal(f.Rows(), l) {
		t.Error("Rows")
	}
	l[0].Name, f.Rows()[0].Gold = "eve", 99
	if id, ok := f.Find("ann"); id != 1 || !ok || f.Rows()[0] != (Row{"ann", 5}) {
		t.Error("it shares memory")
	}
	many := []Row{}
	for i := range 257 {
		many = append(many, Row{"n" + strconv.Itoa(i), 0})
	}
	for name, c := range map[string]struct {
		l    []Row
		held int
		want bool
	}{
		"nothing": {nil, 0, true}, "held alone": {nil, most, true}, "all of it": {[]Row{{"a", most - 1}}, 1, true}, "too much": {[]Row{{"a", most}}, 1, false},
		"too much of many": {[]Row{{"a", most}, {"b", most}, {"c", most}}, most, false}, "held below 0": {nil, -1, false}, "held too much": {nil, most + 1, false},
		"gold below 0": {[]Row{{"a", -1}, {"b", 1}}, 0, false}, "gold too much": {[]Row{{"a", most + 1}}, 0, false}, "no name": {[]Row{{"", 1}}, 0, false},
		"a wrong name": {[]Row{{"A", 1}}, 0, false}, "a name twice": {[]Row{{"a", 1}, {"b", 1}, {"a", 1}}, 0, false}, "256": {many[:256], 0, true}, "257": {many, 0, false},
		"a long name": {[]Row{{strings.Repeat("a", 17), 1}}, 0, false},
	} {
		if f, ok := Restore(c.l, c.held); ok != c.want || (f != nil) != ok {
			t.Errorf("%s: %t", name, ok)
		}
	}
}

func TestCopy(t *testing.T) { // P17.3
	f := New()
	f.Add("ann")
	f.Mint(1, 9)
	c := f.Copy()
	c.Add("bob")
	c.Hold(1, 4)
	c.Mint(2, 1)
	has(t, f, 0, 9)
	has(t, c, 4, 5, 1)
	if _, ok := f.Find("bob"); ok {
		t.Error("a copy shares with the first one")
	}
	f.Add("eve")
	has(t, c, 4, 5, 1)
	if id, ok := c.Find("bob"); id != 2 || !ok {
		t.Error("a copy shares with the first one")
	}
}
