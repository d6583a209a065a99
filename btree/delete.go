package btree

import (
	"slices"

	"deedhold/api"
)

// Del: a key is there no more.
func (t *Tree) Del(k int) api.Errno {
	// Asked first, because what is refused must leave the tree as it lies.
	if _, e := t.Get(k); e != api.OK {
		return e
	}
	root, e := t.read(t.root, 1, allKeys())
	if e != api.OK {
		return e
	}
	if e := t.del(root, 1, allKeys(), k); e != api.OK {
		return e
	}
	if len(root.keys) == 0 && !root.leaf() {
		return t.lower(root)
	}
	return t.settle(root)
}

// settle writes a node, if it must be written.
func (t *Tree) settle(n *node) api.Errno {
	if !n.changed {
		return api.OK
	}
	return t.write(n)
}

// lower puts the only child of the root in its stead.
func (t *Tree) lower(root *node) api.Errno {
	kid, e := t.read(root.kids[0], 2, allKeys())
	if e != api.OK {
		return e
	}
	if e := t.pager.Free(kid.page); e != api.OK {
		return e
	}
	kid.page = root.page
	return t.write(kid)
}

// del takes a key that is there away from below a node. The node is left to be written; it may have too few keys.
func (t *Tree) del(n *node, depth int, s span, k int) api.Errno {
	i, found := slices.BinarySearch(n.keys, k)
	if n.leaf() {
		if !found {
			return api.ErrBad
		}
		n.cut(i)
		return api.OK
	}
	below := n.under(i, s)
	kid, e := t.kid(n, i, depth, s)
	if e != api.OK {
		return e
	}
	if found {
		// A key that parts two children is replaced by the one ahead of it, which lies in a leaf.
		var v int
		if k, v, e = t.end(kid.page, depth+1, below, true); e != api.OK {
			return e
		}
		n.keys[i], n.values[i], n.changed = k, v, true
	}
	if e := t.del(kid, depth+1, below, k); e != api.OK {
		return e
	}
	if len(kid.keys) >= t.least() {
		return t.settle(kid)
	}
	return t.mend(n, i, kid, depth, s)
}

// mend gives a child that has too few keys one of its neighbour's, or makes one node of both.
func (t *Tree) mend(n *node, i int, kid *node, depth int, s span) api.Errno {
	beside := i - 1
	if i == 0 {
		beside = 1
	}
	other, e := t.kid(n, beside, depth, s)
	if e != api.OK {
		return e
	}
	if len(other.keys) <= t.least() {
		left, right := other, kid
		if i == 0 {
			left, right = kid, other
		}
		return t.merge(n, min(i, beside), left, right)
	}
	if i == 0 {
		n.shiftLeft(kid, other)
	} else {
		n.shiftRight(beside, other, kid)
	}
	if e := t.write(other); e != api.OK {
		return e
	}
	return t.write(kid)
}

// shiftRight moves the last key of the left one of two children up, and the one between them down to the right one.
func (n *node) shiftRight(i int, left, right *node) {
	right.put(0, n.keys[i], n.values[i])
	n.keys[i], n.values[i] = left.cut(len(left.keys) - 1)
	n.changed = true
	if last := len(left.kids) - 1; last >= 0 {
		right.kids = slices.Insert(right.kids, 0, left.kids[last])
		left.kids = left.kids[:last]
	}
}

// shiftLeft moves the first key of the second child up, and the one between both down to the first one.
func (n *node) shiftLeft(left, right *node) {
	left.put(len(left.keys), n.keys[0], n.values[0])
	n.keys[0], n.values[0] = right.cut(0)
	n.changed = true
	if len(right.kids) > 0 {
		left.kids = append(left.kids, right.kids[0])
		right.kids = right.kids[1:]
	}
}

// merge makes one node of two children, and of the key between them.
func (t *Tree) merge(n *node, i int, left, right *node) api.Errno {
	k, v := n.cut(i)
	n.kids = slices.Delete(n.kids, i+1, i+2)
	left.put(len(left.keys), k, v)
	left.keys, left.values = append(left.keys, right.keys...), append(left.values, right.values...)
	left.kids = append(left.kids, right.kids...)
	if e := t.pager.Free(right.page); e != api.OK {
		return e
	}
	return t.write(left)
}
