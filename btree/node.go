package btree

import (
	"math"
	"slices"

	"deedhold/api"
)

// What a page begins with: of which kind the node is, and how many keys it has.
const (
	leafKind  = 1
	innerKind = 2
	headLen   = 2
)

// How many bytes a key, a value and a child have.
const (
	wordLen  = 8
	childLen = 2
)

// deepest is how many nodes may lie one above the other: no tree of this many pages needs so many.
const deepest = 40

// node is one, as it is read from its page.
type node struct {
	page         int
	keys, values []int
	kids         []int // of a leaf none
	changed      bool  // it must be written
}

// span is what the keys of a node may be: least to most, or none.
type span struct{ least, most int }

func allKeys() span { return span{math.MinInt, math.MaxInt} }

func (n *node) leaf() bool { return len(n.kids) == 0 }

// under is what the keys of a child may be.
func (n *node) under(i int, s span) span {
	if i > 0 {
		if n.keys[i-1] == math.MaxInt {
			return span{1, 0}
		}
		s.least = n.keys[i-1] + 1
	}
	if i < len(n.keys) {
		if n.keys[i] == math.MinInt {
			return span{1, 0}
		}
		s.most = n.keys[i] - 1
	}
	return s
}

// within: are its keys rising, and what they may be?
func (n *node) within(s span) bool {
	for i, k := range n.keys {
		if k < s.least || k > s.most || i > 0 && k <= n.keys[i-1] {
			return false
		}
	}
	return true
}

// cut takes a key with its value away, and tells them.
func (n *node) cut(i int) (k, v int) {
	k, v = n.keys[i], n.values[i]
	n.keys, n.values = slices.Delete(n.keys, i, i+1), slices.Delete(n.values, i, i+1)
	n.changed = true
	return k, v
}

// put lays a key with its value ahead of the one at i.
func (n *node) put(i, k, v int) {
	n.keys, n.values = slices.Insert(n.keys, i, k), slices.Insert(n.values, i, v)
	n.changed = true
}

// most is how many keys a node has at most.
func (t *Tree) most() int { return (t.pager.Size() - headLen - childLen) / (2*wordLen + childLen) }

// least is how many keys a node has at least that isn't the root.
func (t *Tree) least() int { return (t.most()+1)/2 - 1 }

func putWord(b []byte, n int) {
	for i := range wordLen {
		b[i] = byte(uint64(n) >> (8 * i))
	}
}

func word(b []byte) int {
	u := uint64(0)
	for i := range wordLen {
		u |= uint64(b[i]) << (8 * i)
	}
	return int(u)
}

// write lays a node into its page.
func (t *Tree) write(n *node) api.Errno {
	b := make([]byte, t.pager.Size())
	b[0], b[1] = innerKind, byte(len(n.keys))
	if n.leaf() {
		b[0] = leafKind
	}
	at := headLen
	for _, l := range [2][]int{n.keys, n.values} {
		for _, w := range l {
			putWord(b[at:], w)
			at += wordLen
		}
	}
	for _, page := range n.kids {
		b[at], b[at+1] = byte(page), byte(page>>8)
		at += childLen
	}
	n.changed = false
	return t.pager.Write(n.page, b)
}

// read tells the node of a page at a depth (the root's is 1), whose keys may be those of a span.
// So much is asked of it that whoever goes through a tree comes to an end, whatever its pages are.
func (t *Tree) read(page, depth int, s span) (*node, api.Errno) {
	if depth > deepest {
		return nil, api.ErrBad
	}
	b, e := t.pager.Read(page)
	if e != api.OK {
		return nil, e
	}
	n := t.parse(b)
	if n == nil || !n.within(s) {
		return nil, api.ErrBad
	}
	n.page = page
	return n, api.OK
}

// parse makes a node of a page's bytes; nil, if they are no node's.
func (t *Tree) parse(b []byte) *node {
	count, kids := int(b[1]), 0
	if b[0] == innerKind {
		kids = count + 1
	}
	if b[0] != leafKind && b[0] != innerKind || count > t.most() || kids == 1 {
		return nil
	}
	n := &node{}
	at := headLen
	for i := range 2 * count {
		w := word(b[at:])
		if i < count {
			n.keys = append(n.keys, w)
		} else {
			n.values = append(n.values, w)
		}
		at += wordLen
	}
	for range kids {
		n.kids = append(n.kids, int(b[at])|int(b[at+1])<<8)
		at += childLen
	}
	for _, c := range b[at:] {
		if c != 0 {
			return nil
		}
	}
	return n
}

// kid reads a child of a node.
func (t *Tree) kid(n *node, i, depth int, s span) (*node, api.Errno) {
	return t.read(n.kids[i], depth+1, n.under(i, s))
}
