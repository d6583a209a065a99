package keep

import (
	"bytes"
	"maps"
	"slices"

	"deedhold/api"
	"deedhold/pager"
	"deedhold/table"
)

// mostID is the greatest id that a table takes.
const mostID = 1 << 40

// shelf is one of the tables, with what makes its bytes.
type shelf[T any] struct {
	table *table.Table[T]
	coder coder[T]
}

// row is a value, and where it stands.
type row[T any] struct {
	id    int
	value T
}

// newShelf is one with a new table.
func newShelf[T any](p *pager.Pager, c coder[T], e *api.Errno) shelf[T] {
	if *e != api.OK {
		return shelf[T]{}
	}
	t, err := table.New(p, c)
	*e = err
	return shelf[T]{t, c}
}

// openShelf is one with the table whose root a page is.
func openShelf[T any](p *pager.Pager, root int, c coder[T], e *api.Errno) shelf[T] {
	if *e != api.OK {
		return shelf[T]{}
	}
	t, err := table.Open(p, root, c)
	*e = err
	return shelf[T]{t, c}
}

// copy is one with a copy of the table.
func (s shelf[T]) copy() shelf[T] { return shelf[T]{s.table.Copy(), s.coder} }

// numbered makes rows of values, each where its number says.
func numbered[T any](l []T, number func(i int, v T) int) []row[T] {
	rows := make([]row[T], len(l))
	for i, v := range l {
		rows[i] = row[T]{number(i, v), v}
	}
	return rows
}

// rising: may rows stand in a table, one behind the other?
func rising[T any](rows []row[T]) bool {
	last := 0
	for _, r := range rows {
		if r.id <= last || r.id > mostID {
			return false
		}
		last = r.id
	}
	return true
}

// save makes the table have just these rows, if nothing has failed yet. Only those are written that are not as they were.
func (s shelf[T]) save(rows []row[T], e *api.Errno) {
	was := map[int][]byte{}
	for id, v := range s.table.Each(1) {
		was[id] = s.coder.Bytes(v)
	}
	var changed []row[T]
	for _, r := range rows {
		b, ok := was[r.id]
		if !ok || !bytes.Equal(b, s.coder.Bytes(r.value)) {
			changed = append(changed, r)
		}
		delete(was, r.id)
	}
	for _, id := range slices.Sorted(maps.Keys(was)) {
		if *e == api.OK {
			*e = s.table.Del(id)
		}
	}
	for _, r := range changed {
		if *e == api.OK {
			*e = s.table.Put(r.id, r.value)
		}
	}
}

// load tells all rows.
func (s shelf[T]) load(e *api.Errno) []row[T] {
	var rows []row[T]
	for id, v := range s.table.Each(1) {
		rows = append(rows, row[T]{id, v})
	}
	if *e == api.OK && len(rows) != s.table.Len() {
		*e = api.ErrBad
	}
	return rows
}

// values tells the values of rows that each stand where their numbers say.
func values[T any](rows []row[T], number func(i int, v T) int, e *api.Errno) []T {
	var l []T
	for i, r := range rows {
		if *e == api.OK && r.id != number(i, r.value) {
			*e = api.ErrBad
		}
		l = append(l, r.value)
	}
	return l
}
