package past

import (
	"whilom/api"
	"whilom/partial"
)

// node is a subtree: a leaf, which has an operation, or had one that was revoked; or two subtrees side by side.
type node struct {
	left, right    *node
	op             api.Op
	holds          bool // a leaf: the operation wasn't revoked
	last           int  // the greatest time of its leaves
	leaves, height int
	queue          *partial.Queue // of its operations; nil, till it is asked for
}

// leaf tells whether a node has no subtrees.
func (n *node) leaf() bool {
	return n.left == nil
}

// add adds an operation to a subtree, which has none at its time: the subtree now.
func (n *node) add(o api.Op) *node {
	if n == nil {
		return single(o)
	}
	if n.leaf() && n.holds {
		if o.Time < n.last {
			return pair(single(o), n)
		}
		return pair(n, single(o))
	}
	if n.queue != nil {
		put(n.queue, o)
	}
	if n.leaf() {
		// Its own time or not: the leaves ahead of it are before the operation, those behind it are after it.
		n.op, n.holds, n.last = o, true, o.Time
		return n
	}
	if o.Time <= n.left.last {
		n.left = n.left.add(o)
	} else {
		n.right = n.right.add(o)
	}
	return n.level()
}

// revoke lets an operation of a subtree go; its leaf stays.
func (n *node) revoke(time int) {
	if n.queue != nil {
		n.queue.Revoke(time)
	}
	switch {
	case n.leaf():
		n.op, n.holds = api.Op{}, false
	case time <= n.left.last:
		n.left.revoke(time)
	default:
		n.right.revoke(time)
	}
}

// held are the leaves of a subtree that have operations, in order, behind those of a list.
func (n *node) held(l []*node) []*node {
	if !n.leaf() {
		return n.right.held(n.left.held(l))
	}
	if n.holds {
		l = append(l, n)
	}
	return l
}

// all is the queue of a subtree's operations.
func (n *node) all() *partial.Queue {
	// Made as late as this, since many a queue is never asked for: none to the right is, and a subtree may be built anew first.
	if n.queue == nil {
		n.queue = partial.New(api.MaxOps)
		for _, m := range n.held(nil) {
			put(n.queue, m.op)
		}
	}
	return n.queue
}

// level measures a node whose subtrees have changed, and builds it anew if it leans too far: the subtree now.
func (n *node) level() *node {
	n.measure()
	if 4*max(n.left.leaves, n.right.leaves) <= 3*n.leaves {
		return n
	}
	// The operations are the same, and so is their queue.
	top := build(n.held(nil))
	top.queue = n.queue
	return top
}

// measure notes what a node's subtrees come to.
func (n *node) measure() {
	n.last = n.right.last
	n.leaves = n.left.leaves + n.right.leaves
	n.height = 1 + max(n.left.height, n.right.height)
}

// single is the leaf of an operation.
func single(o api.Op) *node {
	return &node{op: o, holds: true, last: o.Time, leaves: 1, height: 1}
}

// pair is the node of two subtrees.
func pair(left, right *node) *node {
	n := &node{left: left, right: right}
	n.measure()
	return n
}

// build is the subtree of leaves that leans least; nil of none.
func build(leaves []*node) *node {
	switch n := len(leaves); n {
	case 0:
		return nil
	case 1:
		return leaves[0]
	default:
		return pair(build(leaves[:n/2]), build(leaves[n/2:]))
	}
}

// put adds an operation to a queue.
func put(q *partial.Queue, o api.Op) api.Errno {
	var e api.Errno
	if o.Insert {
		_, e = q.Insert(o.Time, o.Item)
	} else {
		_, e = q.Delete(o.Time)
	}
	return e
}
