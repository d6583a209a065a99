package rtree

import (
	"slices"

	"deedhold/rect"
)

// How many children or things a node has that isn't the root.
const (
	fewest = 2
	most   = 4
)

// entry is a thing, or, in a node that is no leaf, a child, with its rectangle.
type entry[T comparable] struct {
	box  rect.Rect
	kid  *node[T]
	what T
}

// node is one; how high it lies above the leaves is known to who comes from the root.
type node[T comparable] struct{ entries []entry[T] }

// box is the least rectangle that has all of a node's.
func (n *node[T]) box() rect.Rect {
	var b rect.Rect
	for _, e := range n.entries {
		b = b.Join(e.box)
	}
	return b
}

// choose is the child that a rectangle is best put into.
func (n *node[T]) choose(r rect.Rect) int {
	best := 0
	for i, e := range n.entries {
		grows, least := e.box.Growth(r), n.entries[best].box.Growth(r)
		if grows < least || grows == least && e.box.Area() < n.entries[best].box.Area() {
			best = i
		}
	}
	return best
}

// add puts an entry so many levels below a node. A node that would have too many is parted: the other part is told.
func (n *node[T]) add(e entry[T], levels int) *node[T] {
	if levels > 0 {
		i := n.choose(e.box)
		kid := n.entries[i].kid
		other := kid.add(e, levels-1)
		n.entries[i].box = kid.box()
		if other == nil {
			return nil
		}
		e = entry[T]{box: other.box(), kid: other}
	}
	n.entries = append(n.entries, e)
	if len(n.entries) <= most {
		return nil
	}
	return n.part()
}

// seeds are the two entries that would lie worst in one node.
func (n *node[T]) seeds() (int, int) {
	first, second, worst := 0, 1, 0
	for i, a := range n.entries {
		for j, b := range n.entries[:i] {
			lost := a.box.Join(b.box).Area() - a.box.Area() - b.box.Area()
			if i == 1 || lost > worst {
				first, second, worst = j, i, lost
			}
		}
	}
	return first, second
}

// part leaves one part of a node's entries in it, and tells another node with the others.
func (n *node[T]) part() *node[T] {
	i, j := n.seeds()
	one, two := &node[T]{n.entries[i : i+1 : i+1]}, &node[T]{n.entries[j : j+1 : j+1]}
	left := slices.Concat(n.entries[:i], n.entries[i+1:j], n.entries[j+1:])
	for len(left) > 0 {
		if short := oneThatMust(one, two, len(left)); short != nil {
			short.entries = append(short.entries, left...)
			break
		}
		k := farthest(left, one.box(), two.box())
		to := better(one, two, left[k].box)
		to.entries = append(to.entries, left[k])
		left = slices.Delete(left, k, k+1)
	}
	n.entries = one.entries
	return two
}

// oneThatMust is the part that needs all that is left; nil, if none does.
func oneThatMust[T comparable](one, two *node[T], left int) *node[T] {
	if len(one.entries)+left == fewest {
		return one
	}
	if len(two.entries)+left == fewest {
		return two
	}
	return nil
}

// farthest is the entry for which it matters most into which part it goes.
func farthest[T comparable](left []entry[T], one, two rect.Rect) int {
	best, widest := 0, -1
	for i, e := range left {
		differ := one.Growth(e.box) - two.Growth(e.box)
		if differ = max(differ, -differ); differ > widest {
			best, widest = i, differ
		}
	}
	return best
}

// better is the part that a rectangle goes to.
func better[T comparable](one, two *node[T], r rect.Rect) *node[T] {
	a, b := one.box(), two.box()
	if x, y := a.Growth(r), b.Growth(r); x != y {
		return lesser(one, two, x, y)
	}
	if x, y := a.Area(), b.Area(); x != y {
		return lesser(one, two, x, y)
	}
	return lesser(one, two, len(one.entries), len(two.entries))
}

// lesser is the part with the lesser number, the first one if both are one.
func lesser[T comparable](one, two *node[T], x, y int) *node[T] {
	if y < x {
		return two
	}
	return one
}

// orphan is an entry of a node that was taken away, which lay so many levels above the leaves.
type orphan[T comparable] struct {
	entry  entry[T]
	height int
}

// remove takes a thing away from below a node: false, if it is not there. Nodes that have too few then are
// taken away, too, and what they had is told to lost.
func (n *node[T]) remove(r rect.Rect, v T, height int, lost *[]orphan[T]) bool {
	for i, e := range n.entries {
		if height == 0 && e.box == r && same(e.what, v) {
			n.entries = slices.Delete(n.entries, i, i+1)
			return true
		}
		if height == 0 || !r.In(e.box) || !e.kid.remove(r, v, height-1, lost) {
			continue
		}
		if len(e.kid.entries) >= fewest {
			n.entries[i].box = e.kid.box()
			return true
		}
		for _, o := range e.kid.entries {
			*lost = append(*lost, orphan[T]{o, height - 1})
		}
		n.entries = slices.Delete(n.entries, i, i+1)
		return true
	}
	return false
}

// same: is it one thing? Things that can't be held against each other are never one.
func same[T comparable](a, b T) (ok bool) {
	defer func() {
		if recover() != nil {
			ok = false
		}
	}()
	return a == b
}

// copy is another one, with nodes of its own.
func (n *node[T]) copy() *node[T] {
	c := &node[T]{slices.Clone(n.entries)}
	for i, e := range c.entries {
		if e.kid != nil {
			c.entries[i].kid = e.kid.copy()
		}
	}
	return c
}

// right: is it one as the document has it, so many levels above the leaves?
func (n *node[T]) right(height int, root bool) bool {
	least := fewest
	if root && height == 0 {
		least = 0
	}
	if len(n.entries) < least || len(n.entries) > most {
		return false
	}
	for _, e := range n.entries {
		if !e.box.Right() || (e.kid == nil) != (height == 0) {
			return false
		}
		if e.kid != nil && (e.kid.box() != e.box || !e.kid.right(height-1, false)) {
			return false
		}
	}
	return true
}

// search hands on the things below a node whose rectangles meet what is asked of them; so must those of the nodes.
func (n *node[T]) search(asked func(rect.Rect) bool, yield func(rect.Rect, T) bool) bool {
	for _, e := range n.entries {
		if !asked(e.box) {
			continue
		}
		if e.kid != nil && !e.kid.search(asked, yield) {
			return false
		}
		if e.kid == nil && !yield(e.box, e.what) {
			return false
		}
	}
	return true
}
