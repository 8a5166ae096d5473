package orthography

import (
	"slices"

	"anceps/api"
	"anceps/sound"
	"anceps/text"
	"anceps/token"
)

// fault returns the error of an orthography, or OK, and the index of the sign that has it; -1 if none has.
func fault(o api.Orthography) (int, api.Errno) {
	switch {
	case !token.IsName(o.Name):
		return -1, api.ErrSyntax
	case len(o.Signs) == 0:
		return -1, api.ErrEmpty
	case len(o.Signs) > maxSigns:
		return -1, api.ErrTooLarge
	}
	for i, s := range o.Signs {
		if e := signFault(s); e != api.OK {
			return i, e
		}
		if slices.ContainsFunc(o.Signs[:i], func(earlier api.Sign) bool { return alike(earlier, s) }) {
			return i, api.ErrExists
		}
	}
	return -1, api.OK
}

// signFault returns the error of a sign, or OK.
func signFault(s api.Sign) api.Errno {
	switch {
	case s.Text == "":
		return api.ErrEmpty
	case len(s.Text) > maxText:
		return api.ErrTooLarge
	case !smallLetters(s.Text):
		return api.ErrSyntax
	case len(s.Sounds) == 0:
		return api.ErrEmpty
	case len(s.Sounds) > maxSounds:
		return api.ErrTooLarge
	}
	for _, one := range s.Sounds {
		if e := sound.Valid(one); e != api.OK {
			return e
		}
	}
	if s.Cost < 0 || s.Cost > maxCost || whereWord(s.Where) == "" {
		return api.ErrRange
	}
	return api.OK
}

// smallLetters reports whether the text of a sign consists of letters of words, and none of them is a capital.
func smallLetters(s string) bool {
	_, e := text.Join([]string{s})
	return e == api.OK && text.Fold(s) == s
}

// alike reports whether two signs cannot stand in one orthography: their costs alone do not tell them apart.
func alike(a, b api.Sign) bool {
	return a.Text == b.Text && a.Where == b.Where && slices.Equal(a.Sounds, b.Sounds)
}
