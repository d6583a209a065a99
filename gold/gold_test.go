package gold

import (
	"math"
	"slices"
	"testing"

	"deedhold/api"
)

const most = api.MaxGold

// told holds one answer against what the document says.
func told(t *testing.T, what string, n int, e api.Errno, wantN int, wantE api.Errno) {
	t.Helper()
	if n != wantN || e != wantE {
		t.Errorf("%s: %d, %d; want %d, %d", what, n, e, wantN, wantE)
	}
}

func TestRight(t *testing.T) { // P1.1
	for n, want := range map[int]bool{0: true, 1: true, most: true, most + 1: false, -1: false, math.MinInt: false, math.MaxInt: false} {
		if Right(n) != want {
			t.Errorf("Right(%d): %t", n, !want)
		}
	}
}

func TestAddSub(t *testing.T) { // P1.1
	type row struct {
		a, b   int
		n      int
		e      api.Errno
		m      int
		eOfSub api.Errno
	}
	for _, c := range []row{
		{0, 0, 0, api.OK, 0, api.OK},
		{5, 3, 8, api.OK, 2, api.OK},
		{3, 5, 8, api.OK, 0, api.ErrFunds},
		{most, 0, most, api.OK, most, api.OK},
		{most, 1, 0, api.ErrOverflow, most - 1, api.OK},
		{most, most, 0, api.ErrOverflow, 0, api.OK},
		{most - 1, 1, most, api.OK, most - 2, api.OK},
		{-1, 1, 0, api.ErrRange, 0, api.ErrRange},
		{1, -1, 0, api.ErrRange, 0, api.ErrRange},
		{most + 1, 0, 0, api.ErrRange, 0, api.ErrRange},
		{0, most + 1, 0, api.ErrRange, 0, api.ErrRange},
		{math.MinInt, math.MaxInt, 0, api.ErrRange, 0, api.ErrRange},
	} {
		n, e := Add(c.a, c.b)
		told(t, "Add", n, e, c.n, c.e)
		n, e = Sub(c.a, c.b)
		told(t, "Sub", n, e, c.m, c.eOfSub)
	}
}

func TestTimes(t *testing.T) { // P1.1
	for _, c := range []struct {
		a, n, want int
		e          api.Errno
	}{
		{3, 4, 12, api.OK}, {0, math.MaxInt, 0, api.OK}, {most, 0, 0, api.OK}, {most, 1, most, api.OK},
		{most, 2, 0, api.ErrOverflow}, {1, most, most, api.OK}, {1, most + 1, 0, api.ErrOverflow},
		{1 << 20, 1 << 20, most, api.OK}, {1 << 20, 1<<20 + 1, 0, api.ErrOverflow}, {most, 1 << 24, 0, api.ErrOverflow},
		{3, math.MaxInt, 0, api.ErrOverflow}, {-1, 0, 0, api.ErrRange}, {0, -1, 0, api.ErrRange}, {most + 1, 0, 0, api.ErrRange},
	} {
		n, e := Times(c.a, c.n)
		told(t, "Times", n, e, c.want, c.e)
	}
}

func TestSum(t *testing.T) { // P1.1
	for _, c := range []struct {
		l    []int
		want int
		e    api.Errno
	}{
		{nil, 0, api.OK}, {[]int{7}, 7, api.OK}, {[]int{1, 2, 3}, 6, api.OK}, {[]int{most - 1, 0, 1}, most, api.OK},
		{[]int{most, 1}, 0, api.ErrOverflow}, {[]int{most, most, most, 0}, 0, api.ErrOverflow},
		{[]int{most, 1, -1}, 0, api.ErrRange}, {[]int{most + 1}, 0, api.ErrRange},
	} {
		n, e := Sum(c.l...)
		told(t, "Sum", n, e, c.want, c.e)
	}
	if _, e := Sum(slices.Repeat([]int{most}, 1<<24)...); e != api.ErrOverflow { // 2^64 in all
		t.Errorf("Sum of many: %d", e)
	}
}

func TestShare(t *testing.T) { // P1.2
	for _, c := range []struct {
		a, part, want int
		e             api.Errno
	}{
		{999, 1000, 99, api.OK}, {0, 10000, 0, api.OK}, {most, 10000, most, api.OK}, {most, 9999, most/10000*9999 + most%10000*9999/10000, api.OK},
		{1, 9999, 0, api.OK}, {most, 0, 0, api.OK}, {1, 10001, 0, api.ErrRange}, {1, -1, 0, api.ErrRange}, {-1, 1, 0, api.ErrRange}, {most + 1, 1, 0, api.ErrRange},
	} {
		n, e := Share(c.a, c.part)
		told(t, "Share", n, e, c.want, c.e)
	}
}

func TestSplit(t *testing.T) { // P1.2
	for _, a := range []int{0, 1, 6, 7, 63, 64, 65, 1000, most - 1, most} {
		for n := 1; n <= 64; n++ {
			l, e := Split(a, n)
			total, _ := Sum(l...)
			falling := slices.IsSortedFunc(l, func(x, y int) int { return y - x })
			if e != api.OK || len(l) != n || total != a || !falling || l[0]-l[n-1] > 1 || l[n-1] < 0 {
				t.Fatalf("Split(%d, %d): %v, %d", a, n, l, e)
			}
		}
	}
	for _, c := range [][2]int{{7, 0}, {7, -1}, {7, 65}, {-1, 3}, {most + 1, 3}, {7, math.MinInt}} {
		if l, e := Split(c[0], c[1]); len(l) != 0 || e != api.ErrRange {
			t.Errorf("Split(%d, %d): %v, %d", c[0], c[1], l, e)
		}
	}
	if l, _ := Split(7, 3); !slices.Equal(l, []int{3, 2, 2}) {
		t.Errorf("Split(7, 3): %v", l)
	}
}

func TestStep(t *testing.T) { // P1.2
	for a, want := range map[int]int{0: 1, 19: 1, 20: 1, 39: 1, 40: 2, 100: 5, 119: 5, 120: 6, most: most / 20} {
		n, e := Step(a)
		told(t, "Step", n, e, want, api.OK)
	}
	for _, a := range []int{-1, most + 1} {
		n, e := Step(a)
		told(t, "Step", n, e, 0, api.ErrRange)
	}
}
