package seal

import (
	"bytes"
	"hash/crc32"
	"math"
	"slices"
	"testing"
)

// some bytes, each unlike its neighbour, with spare room behind them.
func some(n int) []byte {
	b := make([]byte, n, n+16)
	for i := range b {
		b[i] = byte(i*7 + i/251 + 1)
	}
	return b
}

func TestSum(t *testing.T) { // P3.1
	if s := Sum([]byte("123456789")); s != 0xCBF43926 {
		t.Errorf("%x", s)
	}
	if Sum() != 0 || Sum(nil, []byte{}) != 0 {
		t.Error("the sum of nothing")
	}
	for n := range 600 {
		b := some(n)
		if Sum(b) != crc32.ChecksumIEEE(b) || Sum(b[:n/3], nil, b[n/3:n/2], b[n/2:]) != crc32.ChecksumIEEE(b) {
			t.Fatalf("the sum of %d bytes", n)
		}
	}
	for i := range 256 {
		if Sum([]byte{byte(i)}) != crc32.ChecksumIEEE([]byte{byte(i)}) {
			t.Errorf("the sum of %d", i)
		}
	}
}

func TestSealed(t *testing.T) { // P3.1
	for n := range 70 {
		b := some(n)
		s := Close(b)
		sum := crc32.ChecksumIEEE(b)
		if !bytes.Equal(s, append(slices.Clone(b), byte(sum), byte(sum>>8), byte(sum>>16), byte(sum>>24))) {
			t.Fatalf("Close of %d: %x", n, s)
		}
		if o, ok := Open(s); !ok || !bytes.Equal(o, b) {
			t.Fatalf("Open of %d: %x, %t", n, o, ok)
		}
		for bit := range len(s) * 8 {
			s[bit/8] ^= 1 << (bit % 8)
			if o, ok := Open(s); ok || o != nil {
				t.Fatalf("Open with bit %d turned", bit)
			}
			s[bit/8] ^= 1 << (bit % 8)
		}
	}
	for n := range 4 {
		if o, ok := Open(make([]byte, n)); ok || o != nil {
			t.Errorf("Open of %d bytes", n)
		}
	}
	if o, ok := Open(make([]byte, 4)); !ok || len(o) != 0 {
		t.Error("Open of nothing, sealed")
	}
}

func TestFit(t *testing.T) { // P3.2
	for _, size := range []int{6, 7, 16, 64, 300, 1 << 16} {
		for _, n := range []int{0, 1, 5, size/2 - 6, size - 7, size - 6} {
			if n < 0 || n > size-6 {
				continue
			}
			b := some(n)
			want := append([]byte{byte(n), byte(n >> 8)}, b...)
			want = append(want, make([]byte, size-6-n)...)
			sum := crc32.ChecksumIEEE(want)
			want = append(want, byte(sum), byte(sum>>8), byte(sum>>16), byte(sum>>24))
			s, ok := Fit(b, size)
			if !ok || !bytes.Equal(s, want) {
				t.Fatalf("Fit of %d into %d", n, size)
			}
			if p, ok := Part(s); !ok || !bytes.Equal(p, b) {
				t.Fatalf("Part of %d in %d", n, size)
			}
		}
		if s, ok := Fit(some(size-5), size); ok || s != nil {
			t.Errorf("Fit of too many into %d", size)
		}
	}
	for _, size := range []int{5, 0, -1, 1<<16 + 1, math.MinInt, math.MaxInt} {
		if s, ok := Fit(nil, size); ok || s != nil {
			t.Errorf("Fit into %d", size)
		}
	}
}

func TestPartRefuses(t *testing.T) { // P3.2
	s, _ := Fit([]byte("abc"), 20)
	for bit := range len(s) * 8 {
		s[bit/8] ^= 1 << (bit % 8)
		if _, ok := Part(s); ok {
			t.Errorf("bit %d turned", bit)
		}
		s[bit/8] ^= 1 << (bit % 8)
	}
	for name, b := range map[string][]byte{
		"none":                    nil,
		"too few":                 Close([]byte{0}),
		"a count past the end":    Close([]byte{3, 0, 1, 2}),
		"a count far past it":     Close([]byte{255, 255, 1, 2}),
		"no nought behind":        Close([]byte{1, 0, 7, 0, 1}),
		"a byte too many":         append(slices.Clone(s), 0),
		"more than there may be":  Close(make([]byte, 1<<16-3)),
		"no nought right ahead":   Close([]byte{0, 0, 9}),
		"a sum the other way on ": append(slices.Clone(s[:16]), s[19], s[18], s[17], s[16]),
	} {
		if p, ok := Part(b); ok || p != nil {
			t.Errorf("%s: %x", name, p)
		}
	}
	if p, ok := Part(Close(make([]byte, 1<<16-4))); !ok || len(p) != 0 {
		t.Error("the greatest one, of nothing")
	}
}

func TestMemory(t *testing.T) { // P3.3
	b := some(20)
	was := slices.Clone(b[:cap(b)])
	s := Close(b)
	f, _ := Fit(b, 40)
	o, _ := Open(s)
	p, _ := Part(f)
	Sum(b, b)
	for _, l := range [][]byte{s, f, o, p} {
		l = l[:cap(l)]
		for i := range l {
			l[i] = 99
		}
	}
	if !bytes.Equal(b[:cap(b)], was) {
		t.Error("what was handed in is changed, or told")
	}
	s, f = Close(b), Close(b)
	o, _ = Open(s)
	for i := range s[:cap(s)] {
		s[i] = 1
	}
	if !bytes.Equal(o, b) || !bytes.Equal(f[:20], b) {
		t.Error("two answers share")
	}
}
