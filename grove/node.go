package grove

import "whilom/api"

// part is elements side by side: how many, and their sum.
type part[A Sum[A]] struct {
	n   int
	sum A
}

// plus is the part of these elements and others behind them.
func (p part[A]) plus(o part[A]) part[A] {
	// Sums of nothing aren't put to others: A's zero value may have no method to ask (a nil one).
	if p.n == 0 {
		return o
	}
	if o.n == 0 {
		return p
	}
	return part[A]{n: p.n + o.n, sum: p.sum.Plus(o.sum)}
}

// one is the part of an element alone.
func one[E Elem[E, A], A Sum[A]](e E) part[A] {
	return part[A]{n: 1, sum: e.Sum()}
}

// node is an element's, with what its subtree comes to. Both sides' heights differ by 1 at most; the zero handle, which never lives, stands for no node.
type node[E Elem[E, A], A Sum[A]] struct {
	elem        E
	left, right api.Ref
	all         part[A]
	height      int
}

// look is a handle's node; of the zero handle one without elements.
func (t *Tree[E, A]) look(r api.Ref) node[E, A] {
	n, _ := t.pool.Get(r)
	return n
}

// set writes a node down, whose subtrees' nodes are left and right.
func (t *Tree[E, A]) set(r api.Ref, n, left, right node[E, A]) api.Ref {
	n.height = 1 + max(left.height, right.height)
	n.all = left.all.plus(one(n.elem)).plus(right.all)
	t.pool.Set(r, n)
	return r
}

// tie writes a node down whose subtrees' nodes must be looked at yet.
func (t *Tree[E, A]) tie(r api.Ref, n node[E, A]) api.Ref {
	return t.set(r, n, t.look(n.left), t.look(n.right))
}

// level writes a node down whose subtrees' heights may differ by 2: the root of what it makes of them.
func (t *Tree[E, A]) level(r api.Ref, n node[E, A]) api.Ref {
	left, right := t.look(n.left), t.look(n.right)
	if left.height > right.height+1 {
		// The inner subtree changes sides: it may not be the higher one.
		if t.look(left.right).height > t.look(left.left).height {
			n.left = t.turnLeft(n.left, left)
		}
		return t.turnRight(r, n)
	}
	if right.height > left.height+1 {
		if t.look(right.left).height > t.look(right.right).height {
			n.right = t.turnRight(n.right, right)
		}
		return t.turnLeft(r, n)
	}
	return t.set(r, n, left, right)
}

// turnLeft puts a node under the one to its right: the root now.
func (t *Tree[E, A]) turnLeft(r api.Ref, n node[E, A]) api.Ref {
	top := n.right
	up := t.look(top)
	n.right = up.left
	up.left = t.tie(r, n)
	return t.tie(top, up)
}

// turnRight puts a node under the one to its left: the root now.
func (t *Tree[E, A]) turnRight(r api.Ref, n node[E, A]) api.Ref {
	top := n.left
	up := t.look(top)
	n.left = up.right
	up.right = t.tie(r, n)
	return t.tie(top, up)
}
