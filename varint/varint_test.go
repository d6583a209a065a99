package varint

import (
	"bytes"
	"math"
	"slices"
	"testing"
)

func numbers() []int {
	l := []int{0, -1, 1, 63, -63, 64, -64, -65, 65, math.MaxInt, math.MinInt, math.MaxInt - 1, math.MinInt + 1}
	for i := range 63 {
		l = append(l, 1<<i, -1<<i, 1<<i-1, 1-1<<i, 1<<i+1, -1<<i-1)
	}
	return l
}

// encode: by the document's words.
func encode(n int) []byte {
	var u uint64
	if n >= 0 {
		u = 2 * uint64(n)
	} else {
		u = 2*(uint64(-(n+1))+1) - 1
	}
	var b []byte
	for {
		c := byte(u % 128)
		if u /= 128; u == 0 {
			return append(b, c)
		}
		b = append(b, c+128)
	}
}

func TestNumbers(t *testing.T) { // P4.1, P4.2
	for n, want := range map[int]string{0: "\x00", -1: "\x01", 63: "\x7e", 64: "\x80\x01", -65: "\x81\x01", math.MinInt: "\xff\xff\xff\xff\xff\xff\xff\xff\xff\x01"} {
		if got := string(new(Out).Int(n).All()); got != want {
			t.Errorf("%d: %x", n, got)
		}
	}
	for _, n := range numbers() {
		var o Out
		b := o.Int(n).All()
		if !bytes.Equal(b, encode(n)) || Size(n) != len(b) || o.Len() != len(b) {
			t.Errorf("%d: %x, Size %d", n, b, Size(n))
		}
		i := NewIn(append(slices.Clone(b), 4))
		if i.Int() != n || i.Done() || i.Int() != 2 || !i.Done() || i.Bad() {
			t.Errorf("%d is not read", n)
		}
		for k := range b {
			i := NewIn(b[:k])
			if i.Int() != 0 || !i.Bad() || i.Done() {
				t.Errorf("%d, of which %d bytes are there", n, k)
			}
		}
	}
}

func TestNoNumber(t *testing.T) { // P4.2
	for _, s := range []string{"", "\x80", "\x80\x00", "\xff\x00", "\x81\x80\x00", "\xff\xff\xff\xff\xff\xff\xff\xff\xff\x02", "\xff\xff\xff\xff\xff\xff\xff\xff\xff\x81\x00",
		"\x80\x80\x80\x80\x80\x80\x80\x80\x80\x00", "\x80\x80\x80\x80\x80\x80\x80\x80\x80\x80\x01", "\xff\xff\xff\xff\xff\xff\xff\xff\xff\xff"} {
		i := NewIn([]byte(s + "\x02\x02\x02"))
		if s == "" || s == "\x80" {
			i = NewIn([]byte(s))
		}
		if n := i.Int(); n != 0 || !i.Bad() || i.Done() || i.Int() != 0 || i.Bool() || i.Text(9) != "" || len(i.Ints(9)) != 0 || len(i.Bytes(9)) != 0 || i.Within(1, 2) != 0 {
			t.Errorf("%x: %d", s, n)
		}
	}
}

func TestOut(t *testing.T) { // P4.1
	var o Out
	if o.Len() != 0 || len(o.All()) != 0 {
		t.Error("it does not begin empty")
	}
	if o.Int(-1) != &o || o.Bytes([]byte{9, 8}) != &o || o.Text("héy") != &o || o.Bool(true) != &o || o.Bool(false) != &o || o.Ints(64, -1) != &o || o.Ints() != &o || o.Bytes(nil) != &o {
		t.Error("it does not tell itself")
	}
	want := []byte("\x01\x04\x09\x08\x08h\xc3\xa9y\x01\x00\x04\x80\x01\x01\x00\x00")
	if !bytes.Equal(o.All(), want) || o.Len() != len(want) {
		t.Errorf("%x", o.All())
	}
}

func TestIn(t *testing.T) { // P4.2
	i := NewIn([]byte("\x01\x04\x09\x08\x08h\xc3\xa9y\x01\x00\x04\x80\x01\x01\x00\x00\x05"))
	if i.Int() != -1 || !bytes.Equal(i.Bytes(2), []byte{9, 8}) || i.Text(4) != "héy" || !i.Bool() || i.Bool() || !slices.Equal(i.Ints(2), []int{64, -1}) || len(i.Ints(0)) != 0 || len(i.Bytes(0)) != 0 {
		t.Error("what was written is not read")
	}
	if i.Bad() || i.Done() || i.Within(-3, -3) != -3 || !i.Done() || i.Bad() {
		t.Error("the end")
	}
	if i.Bool() || !i.Bad() || i.Done() {
		t.Error("behind the end")
	}
	if e := NewIn(nil); !e.Done() || e.Bad() {
		t.Error("of nothing")
	}
}

func TestBad(t *testing.T) { // P4.2
	for name, c := range map[string]struct {
		b  string
		is func(i *In) bool
	}{
		"a bool of 2":             {"\x02", func(i *In) bool { return !i.Bool() }},
		"less than least":         {"\x04", func(i *In) bool { return i.Within(3, 9) == 0 }},
		"more than most":          {"\x14", func(i *In) bool { return i.Within(3, 9) == 0 }},
		"least above most":        {"\x0c", func(i *In) bool { return i.Within(9, 3) == 0 }},
		"a count below 0":         {"\x01", func(i *In) bool { return len(i.Bytes(9)) == 0 }},
		"a text's below 0":        {"\x01", func(i *In) bool { return i.Text(9) == "" }},
		"a list's below 0":        {"\x01", func(i *In) bool { return len(i.Ints(9)) == 0 }},
		"bytes above most":        {"\x04ab", func(i *In) bool { return len(i.Bytes(1)) == 0 }},
		"a text above most":       {"\x04ab", func(i *In) bool { return i.Text(1) == "" }},
		"a list above most":       {"\x04\x00\x00", func(i *In) bool { return len(i.Ints(1)) == 0 }},
		"most below 0":            {"\x00", func(i *In) bool { return len(i.Bytes(-1)) == 0 }},
		"too few bytes":           {"\x06ab", func(i *In) bool { return len(i.Bytes(9)) == 0 }},
		"too short a text":        {"\x06ab", func(i *In) bool { return i.Text(9) == "" }},
		"too short a list":        {"\x06\x00\x00", func(i *In) bool { return len(i.Ints(9)) == 0 }},
		"a list with no number":   {"\x04\x02\x80", func(i *In) bool { return len(i.Ints(9)) == 0 }},
		"a list cut in a number":  {"\x04\x80\x01\x80", func(i *In) bool { return len(i.Ints(9)) == 0 }},
		"a count far past all":    {string(encode(math.MaxInt)), func(i *In) bool { return len(i.Ints(math.MaxInt)) == 0 }},
		"so many bytes":           {string(encode(math.MaxInt)), func(i *In) bool { return len(i.Bytes(math.MaxInt)) == 0 }},
		"no bytes, as a count":    {"", func(i *In) bool { return i.Text(9) == "" }},
		"no bool":                 {"", func(i *In) bool { return !i.Bool() }},
		"nothing within":          {"", func(i *In) bool { return i.Within(-5, 5) == 0 }},
		"a count in two groups .": {"\x84\x00ab", func(i *In) bool { return len(i.Bytes(9)) == 0 }},
	} {
		i := NewIn([]byte(c.b))
		if !c.is(i) || !i.Bad() || i.Done() || i.Int() != 0 || i.Bool() {
			t.Error(name)
		}
	}
}

func TestMemory(t *testing.T) { // P4.3
	b := []byte("\x04ab\x04cd\x02\x04")
	i := NewIn(b)
	clear(b)
	x, y, l := i.Bytes(2), i.Bytes(2), i.Ints(1)
	x = append(x, 'X', 'X', 'X')
	if string(y) != "cd" || !slices.Equal(l, []int{2}) || string(x[:2]) != "ab" {
		t.Errorf("%q %v", y, l)
	}
	in := []byte("abcdef")
	ints := []int{1, 2, 3}
	var o Out
	o.Bytes(in[:3]).Ints(ints[:2]...)
	a := o.All()
	clear(a[:cap(a)])
	clear(in)
	clear(ints)
	c := o.All()
	o.Int(5)
	_ = append(c, 1)
	if string(o.All()) != "\x06abc\x04\x02\x04\x0a" {
		t.Errorf("%x", o.All())
	}
}
