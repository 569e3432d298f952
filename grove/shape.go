package grove

import "whilom/api"

// replace puts an element in the place of the one that is alike: false, and nothing, if there is none.
func (t *Tree[E, A]) replace(r api.Ref, e E) bool {
	n := t.look(r)
	if n.height == 0 {
		return false
	}
	there := true
	switch c := e.Compare(n.elem); {
	case c < 0:
		there = t.replace(n.left, e)
	case c > 0:
		there = t.replace(n.right, e)
	default:
		n.elem = e
	}
	if there {
		t.tie(r, n)
	}
	return there
}

// hang hangs a new element's node into a subtree, which has none alike.
func (t *Tree[E, A]) hang(r, fresh api.Ref, e E) api.Ref {
	n := t.look(r)
	if n.height == 0 {
		return fresh
	}
	if e.Compare(n.elem) < 0 {
		n.left = t.hang(n.left, fresh, e)
	} else {
		n.right = t.hang(n.right, fresh, e)
	}
	return t.level(r, n)
}

// pick takes the node of the element that is alike out of a subtree, if there is one: what is left of it, and that node.
func (t *Tree[E, A]) pick(r api.Ref, e E) (rest, gone api.Ref) {
	n := t.look(r)
	if n.height == 0 {
		return r, gone
	}
	switch c := e.Compare(n.elem); {
	case c < 0:
		n.left, gone = t.pick(n.left, e)
	case c > 0:
		n.right, gone = t.pick(n.right, e)
	default:
		return t.glue(n.left, n.right), r
	}
	if gone == (api.Ref{}) {
		return r, gone
	}
	return t.level(r, n), gone
}

// pickFirst takes the first node out of a subtree, which has one.
func (t *Tree[E, A]) pickFirst(r api.Ref) (rest, first api.Ref) {
	n := t.look(r)
	if n.left == (api.Ref{}) {
		return n.right, r
	}
	n.left, first = t.pickFirst(n.left)
	return t.level(r, n), first
}

// glue puts a subtree behind another one.
func (t *Tree[E, A]) glue(left, right api.Ref) api.Ref {
	if right == (api.Ref{}) {
		return left
	}
	rest, first := t.pickFirst(right)
	return t.link(left, first, rest)
}

// link puts a subtree, a node and a subtree one behind the other.
func (t *Tree[E, A]) link(left, mid, right api.Ref) api.Ref {
	l, r := t.look(left), t.look(right)
	// The lower one is hung in where the higher one comes down to its height: one step down at a time.
	if l.height > r.height+1 {
		l.right = t.link(l.right, mid, right)
		return t.level(left, l)
	}
	if r.height > l.height+1 {
		r.left = t.link(left, mid, r.left)
		return t.level(right, r)
	}
	m := t.look(mid)
	m.left, m.right = left, right
	return t.set(mid, m, l, r)
}

// cut parts a subtree: what is ahead of e, and what isn't.
func (t *Tree[E, A]) cut(r api.Ref, e E) (ahead, behind api.Ref) {
	n := t.look(r)
	if n.height == 0 {
		return ahead, behind
	}
	if n.elem.Compare(e) < 0 {
		ahead, behind = t.cut(n.right, e)
		return t.link(n.left, r, ahead), behind
	}
	ahead, behind = t.cut(n.left, e)
	return ahead, t.link(behind, r, n.right)
}
