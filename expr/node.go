package expr

import (
	"iter"

	"anceps/api"
)

// room returns how many of so many nodes an expression leaves over; it is negative if they do not suffice, or the expression has more than so many levels. It goes no further than that, as lists of kids can contain themselves.
func room(x api.Expr, nodes, levels int) int {
	if nodes < 1 || levels < 1 {
		return -1
	}
	nodes--
	for _, kid := range x.Kids {
		nodes = room(kid, nodes, levels-1)
		if nodes < 0 {
			return -1
		}
	}
	return nodes
}

// preorder goes through the nodes of an expression, each ahead of its kids.
func preorder(x api.Expr) iter.Seq[api.Expr] {
	return func(yield func(api.Expr) bool) {
		visit(x, yield)
	}
}

func visit(x api.Expr, yield func(api.Expr) bool) bool {
	if !yield(x) {
		return false
	}
	for _, kid := range x.Kids {
		if !visit(kid, yield) {
			return false
		}
	}
	return true
}

// nodeError returns the error of a node without regard to its kids.
func nodeError(x api.Expr) api.Errno {
	if !hasItsKids(x) || x.Kind != api.ExprSet && x.Set != 0 || x.Kind != api.ExprPower && x.N != 0 {
		return api.ErrInvalid
	}
	if x.Set < 0 || x.Set >= 1<<maxLetters || x.N < 0 || x.N > maxPower {
		return api.ErrRange
	}
	return api.OK
}

// hasItsKids reports whether there is such a kind, and the number of kids is right for it.
func hasItsKids(x api.Expr) bool {
	switch x.Kind {
	case api.ExprSet:
		return len(x.Kids) == 0
	case api.ExprSeq:
		return true
	case api.ExprAlt:
		return len(x.Kids) >= 2
	case api.ExprPower, api.ExprStar, api.ExprOpt:
		return len(x.Kids) == 1
	}
	return false
}

// leaves returns the number of leaves, but no more than one above the limit: powers of powers can have more leaves than an int can count.
func leaves(x api.Expr) int {
	if x.Kind == api.ExprSet {
		return 1
	}
	sum := 0
	for _, kid := range x.Kids {
		sum += leaves(kid)
	}
	if x.Kind == api.ExprPower {
		sum *= x.N
	}
	return min(sum, maxLeaves+1)
}
