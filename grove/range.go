package grove

import "whilom/api"

// gather is all elements of a subtree behind those of a list.
func (t *Tree[E, A]) gather(all []E, r api.Ref) []E {
	n := t.look(r)
	if n.height == 0 {
		return all
	}
	return t.gather(append(t.gather(all, n.left), n.elem), n.right)
}

// between is what the elements at a subtree's places come to, from one on but below another.
func (t *Tree[E, A]) between(n node[E, A], from, to int) part[A] {
	// Brought within the subtree's bounds first: so no difference of places passes those of an int.
	from, to = max(from, 0), min(to, n.all.n)
	if from >= to {
		return part[A]{}
	}
	if from == 0 && to == n.all.n {
		return n.all
	}
	left := t.look(n.left)
	sum := t.between(left, from, to)
	mid := left.all.n
	if from <= mid && mid < to {
		sum = sum.plus(one(n.elem))
	}
	if to <= mid+1 {
		return sum
	}
	return sum.plus(t.between(t.look(n.right), from-mid-1, to-mid-1))
}

// first is the least place of a subtree, from from on, at which may holds; ahead is what is ahead of the subtree.
func (t *Tree[E, A]) first(n node[E, A], ahead part[A], from int, may func(ahead, of A) bool) int {
	if n.height == 0 || ahead.n+n.all.n <= from {
		return -1
	}
	// May is asked only of what stands in the way: a subtree that begins ahead of from is gone through unasked.
	if ahead.n >= from && !may(ahead.sum, n.all.sum) {
		return -1
	}
	left := t.look(n.left)
	if i := t.first(left, ahead, from, may); i >= 0 {
		return i
	}
	ahead = ahead.plus(left.all)
	self := one(n.elem)
	if ahead.n >= from && may(ahead.sum, self.sum) {
		return ahead.n
	}
	return t.first(t.look(n.right), ahead.plus(self), from, may)
}

// last is the greatest place of a subtree, below to, at which may holds; ahead is what is ahead of the subtree.
func (t *Tree[E, A]) last(n node[E, A], ahead part[A], to int, may func(ahead, of A) bool) int {
	if n.height == 0 || ahead.n >= to {
		return -1
	}
	if ahead.n+n.all.n <= to && !may(ahead.sum, n.all.sum) {
		return -1
	}
	left := t.look(n.left)
	before := ahead.plus(left.all)
	self := one(n.elem)
	if i := t.last(t.look(n.right), before.plus(self), to, may); i >= 0 {
		return i
	}
	if before.n < to && may(before.sum, self.sum) {
		return before.n
	}
	return t.last(left, ahead, to, may)
}
