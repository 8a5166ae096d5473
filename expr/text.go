package expr

import (
	"strings"

	"anceps/api"
)

const digits = "0123456789"

// text returns the text of a valid expression.
func text(x api.Expr) string {
	switch x.Kind {
	case api.ExprSet:
		return textOfSet(x.Set)
	case api.ExprSeq:
		return textOfKids(x.Kids, "")
	case api.ExprAlt:
		return textOfKids(x.Kids, "|")
	case api.ExprPower:
		return text(x.Kids[0]) + "^" + digits[x.N:x.N+1]
	case api.ExprStar:
		return text(x.Kids[0]) + "*"
	}
	return text(x.Kids[0]) + "?"
}

func textOfSet(set int) string {
	s := "["
	for letter := range maxLetters {
		if set>>letter&1 == 1 {
			s += digits[letter : letter+1]
		}
	}
	return s + "]"
}

func textOfKids(kids []api.Expr, between string) string {
	l := make([]string, len(kids))
	for i, kid := range kids {
		l[i] = text(kid)
	}
	return "(" + strings.Join(l, between) + ")"
}

// reader reads the texts of expressions from the front of what is left.
type reader struct{ rest string }

// take takes a byte if it is the next one, and reports whether it is.
func (r *reader) take(b byte) bool {
	if r.rest == "" || r.rest[0] != b {
		return false
	}
	r.rest = r.rest[1:]
	return true
}

// digit takes a digit if one is next that is at most the given one.
func (r *reader) digit(most int) (int, bool) {
	if r.rest == "" {
		return 0, false
	}
	value := strings.IndexByte(digits[:most+1], r.rest[0])
	if value < 0 {
		return 0, false
	}
	r.rest = r.rest[1:]
	return value, true
}

// expr reads the text of an expression, and reports whether there is one.
func (r *reader) expr() (api.Expr, bool) {
	x, ok := r.simple()
	for ok {
		switch {
		case r.take('*'):
			x = api.Expr{Kind: api.ExprStar, Kids: []api.Expr{x}}
		case r.take('?'):
			x = api.Expr{Kind: api.ExprOpt, Kids: []api.Expr{x}}
		case r.take('^'):
			x = api.Expr{Kind: api.ExprPower, Kids: []api.Expr{x}}
			x.N, ok = r.digit(maxPower)
		default:
			return x, true
		}
	}
	return api.Expr{}, false
}

// simple reads what stands in brackets or in parentheses.
func (r *reader) simple() (api.Expr, bool) {
	switch {
	case r.take('['):
		return r.set()
	case r.take('('):
		return r.kids()
	}
	return api.Expr{}, false
}

func (r *reader) set() (api.Expr, bool) {
	x := api.Expr{Kind: api.ExprSet}
	for !r.take(']') {
		letter, ok := r.digit(maxLetters - 1)
		if !ok || x.Set>>letter != 0 {
			return api.Expr{}, false
		}
		x.Set |= 1 << letter
	}
	return x, true
}

// kids reads the kids of a Seq, or of an Alt, as what stands behind the first one says.
func (r *reader) kids() (api.Expr, bool) {
	x := api.Expr{Kind: api.ExprSeq}
	for !r.take(')') {
		if len(x.Kids) > 0 {
			parted := r.take('|')
			if parted && len(x.Kids) == 1 {
				x.Kind = api.ExprAlt
			}
			if parted != (x.Kind == api.ExprAlt) {
				return api.Expr{}, false
			}
		}
		kid, ok := r.expr()
		if !ok {
			return api.Expr{}, false
		}
		x.Kids = append(x.Kids, kid)
	}
	return x, true
}
