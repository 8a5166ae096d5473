package expr

import "anceps/api"

// endless stands for all lengths that are greater than the number of leaves: no word has them unless there are words of any length.
const endless = maxLeaves + 1

// span is the least and the greatest length of words.
type span struct{ least, greatest int }

// lengths returns the lengths of the words of a valid expression, and whether there is a word. Without one the greatest length is 0, so that what repeats it, or leaves it out, has only the empty word.
func lengths(x api.Expr) (span, bool) {
	switch x.Kind {
	case api.ExprSet:
		if x.Set == 0 {
			return span{}, false
		}
		return span{1, 1}, true
	case api.ExprSeq:
		return lengthsOfSeq(x.Kids)
	case api.ExprAlt:
		return lengthsOfAlt(x.Kids)
	}
	kid, some := lengths(x.Kids[0])
	switch {
	case x.Kind == api.ExprPower:
		return span{times(kid.least, x.N), times(kid.greatest, x.N)}, some || x.N == 0
	case x.Kind == api.ExprStar && kid.greatest > 0:
		return span{0, endless}, true
	}
	return span{0, kid.greatest}, true
}

func lengthsOfSeq(kids []api.Expr) (span, bool) {
	var sum span
	for _, kid := range kids {
		l, some := lengths(kid)
		if !some {
			return span{}, false
		}
		sum = span{plus(sum.least, l.least), plus(sum.greatest, l.greatest)}
	}
	return sum, true
}

func lengthsOfAlt(kids []api.Expr) (span, bool) {
	all := span{endless, 0}
	found := false
	for _, kid := range kids {
		l, some := lengths(kid)
		if some {
			all = span{min(all.least, l.least), max(all.greatest, l.greatest)}
			found = true
		}
	}
	return all, found
}

func plus(a, b int) int {
	return min(a+b, endless)
}

func times(a, n int) int {
	return min(a*n, endless)
}
