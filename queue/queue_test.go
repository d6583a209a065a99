package queue

import (
	"math"
	"slices"
	"testing"

	"deedhold/api"
)

type row struct {
	n, due int
	v      string
}

// model has all rows by numbers.
type model struct {
	l     []row
	added int
}

func (m *model) sorted() []row {
	l := slices.Clone(m.l)
	slices.SortStableFunc(l, func(a, b row) int {
		switch {
		case a.due < b.due:
			return -1
		case a.due > b.due:
			return 1
		}
		return 0
	})
	return l
}

func (m *model) index(n int) int { return slices.IndexFunc(m.l, func(r row) bool { return r.n == n }) }

func check(t *testing.T, q *Queue[string], m *model) {
	t.Helper()
	l := m.sorted()
	if q.Len() != len(l) || q.Added() != m.added {
		t.Fatalf("Len %d, Added %d; want %d, %d", q.Len(), q.Added(), len(l), m.added)
	}
	i := 0
	for n, v := range q.All() {
		if i >= len(l) || n != l[i].n || v != l[i].v {
			t.Fatalf("All: %d %q at %d of %v", n, v, i, l)
		}
		i++
	}
	n, due, v, e := q.First()
	if i != len(l) || len(l) == 0 && (e != api.ErrNone || n != 0 || due != 0 || v != "") || len(l) > 0 && ((row{n, due, v}) != l[0] || e != api.OK) {
		t.Fatalf("First: %d %d %q %d", n, due, v, e)
	}
	for n := -1; n <= m.added+1; n++ {
		due, v, e := q.Get(n)
		if i := m.index(n); i < 0 && (e != api.ErrNone || due != 0 || v != "") || i >= 0 && (e != api.OK || (row{n, due, v}) != m.l[i]) {
			t.Fatalf("Get(%d): %d %q %d", n, due, v, e)
		}
	}
}

func TestModel(t *testing.T) { // P16.1, P16.2, P16.3
	q, m, seed := New[string](), &model{}, uint32(1)
	next := func(n int) int {
		seed = seed*1664525 + 1013904223
		return int(seed>>8) % n
	}
	check(t, q, m)
	for range 3000 {
		due, n := next(12)-4, next(m.added+3)-1
		i := m.index(n)
		want := api.OK
		if i < 0 {
			want = api.ErrNone
		}
		switch next(6) {
		case 0, 1:
			m.added++
			v := string(rune('a' + m.added%26))
			m.l = append(m.l, row{m.added, due, v})
			if got := q.Add(due, v); got != m.added {
				t.Fatalf("Add: %d", got)
			}
		case 2:
			if e := q.Cancel(n); e != want {
				t.Fatalf("Cancel: %d", e)
			}
			if i >= 0 {
				m.l = slices.Delete(m.l, i, i+1)
			}
		case 3:
			if e := q.Move(n, due); e != want {
				t.Fatalf("Move: %d", e)
			}
			if i >= 0 {
				m.l[i].due = due
			}
		case 4:
			n, at, v, e := q.Pop(due)
			if l := m.sorted(); len(l) == 0 || l[0].due > due {
				if e != api.ErrNone || n != 0 || at != 0 || v != "" {
					t.Fatalf("Pop: %d", e)
				}
			} else if (row{n, at, v}) != l[0] || e != api.OK {
				t.Fatalf("Pop: %d %d %q %d", n, at, v, e)
			} else {
				m.l = slices.Delete(m.l, m.index(n), m.index(n)+1)
			}
		case 5:
			left := next(3)
			for n, v := range q.Due(due - 3) {
				l := m.sorted()
				if len(l) == 0 || l[0].due > due-3 || l[0].n != n || l[0].v != v {
					t.Fatalf("Due: %d %q", n, v)
				}
				m.l = slices.Delete(m.l, m.index(n), m.index(n)+1)
				check(t, q, m)
				if left--; left < 0 {
					break
				}
			}
			if l := m.sorted(); left >= 0 && len(l) > 0 && l[0].due <= due-3 {
				t.Fatal("Due ends too early")
			}
		}
		if len(m.l) > 40 {
			for range q.Due(math.MaxInt) {
				m.l = nil
			}
		}
		check(t, q, m)
	}
}

func TestExample(t *testing.T) { // P16.3
	q := New[string]()
	q.Add(5, "x")
	q.Add(3, "y")
	q.Add(5, "z")
	got := ""
	for n, v := range q.All() {
		got += string(rune('0'+n)) + v
	}
	if got != "2y1x3z" {
		t.Error(got)
	}
	n := 0
	for range q.All() {
		n++
		break
	}
	if n != 1 {
		t.Error("All, as far as it is asked")
	}
}

func TestAddedMeanwhile(t *testing.T) { // P16.2
	q := New[int]()
	q.Add(1, 1)
	q.Add(2, 2)
	var got []int
	for _, v := range q.Due(5) {
		got = append(got, v)
		if v == 1 {
			q.Add(0, 10)
			q.Add(6, 11)
			q.Add(5, 12)
		}
	}
	if !slices.Equal(got, []int{1, 10, 2, 12}) || q.Len() != 1 || q.Added() != 5 {
		t.Errorf("%v", got)
	}
}

func TestFarTimes(t *testing.T) { // P16.2
	q := New[int]()
	q.Add(math.MaxInt, 1)
	q.Add(math.MinInt, 2)
	q.Add(0, 3)
	if _, due, v, e := q.Pop(math.MinInt); due != math.MinInt || v != 2 || e != api.OK {
		t.Error("the earliest")
	}
	if q.Move(1, -1) != api.OK || q.Move(0, 1) != api.ErrNone || q.Cancel(2) != api.ErrNone || q.Cancel(math.MinInt) != api.ErrNone {
		t.Error("numbers")
	}
	if n, _, _, e := q.First(); n != 1 || e != api.OK {
		t.Error("First")
	}
}

func TestCopy(t *testing.T) { // P16.3
	q := New[int]()
	for i := range 10 {
		q.Add(10-i, i)
	}
	c := q.Copy()
	for range c.Due(5) {
	}
	c.Add(0, 99)
	c.Move(1, 0)
	if q.Len() != 10 || c.Len() != 6 || c.Added() != 11 || q.Added() != 10 {
		t.Error("a copy shares with the first one")
	}
	if due, _, _ := q.Get(1); due != 10 {
		t.Error("a copy moves the first one's things")
	}
	last := 0
	for n := range q.All() {
		if last != 0 && n != last-1 {
			t.Error("All")
		}
		last = n
	}
}
