// Package rounding divides integers by rules that have names: see shared/doc/02-rounding.md.
package rounding

import (
	"spile/api"
	"spile/proportion"
)

// words contains the words of the rules; 0 is no rule, and has an empty one.
var words = [...]string{
	api.RoundDown:     "down",
	api.RoundUp:       "up",
	api.RoundHalfUp:   "half-up",
	api.RoundHalfEven: "half-even",
}

// division is a division that was rounded down: 0 <= rest < divisor.
type division struct{ quotient, rest, divisor int }

// chooser decides by what is left over whether a quotient that was rounded down has to be greater by 1.
type chooser func(division) bool

// choosers returns the decision of each rule.
func choosers() [api.RoundHalfEven + 1]chooser {
	return [...]chooser{
		api.RoundDown:     func(division) bool { return false },
		api.RoundUp:       func(d division) bool { return d.rest > 0 },
		api.RoundHalfUp:   nearest(func(division) bool { return true }),
		api.RoundHalfEven: nearest(func(d division) bool { return d.quotient%2 != 0 }),
	}
}

// nearest returns the decision for the nearest quotient that leaves the choice between two nearest ones to tie.
func nearest(tie chooser) chooser {
	return func(d division) bool {
		down, up := d.rest, d.divisor-d.rest
		return up < down || up == down && tie(d)
	}
}

// round returns the quotient by a rule, and its rest.
func round(d division, rule int) (int, int) {
	if choosers()[rule](d) {
		return d.quotient + 1, d.rest - d.divisor
	}
	return d.quotient, d.rest
}

// isRule reports whether a number is a rule.
func isRule(rule int) bool {
	return rule >= api.RoundDown && rule <= api.RoundHalfEven
}

// isDivisor reports whether a number may divide another one.
func isDivisor(b int) bool {
	return b >= 1 && b <= api.MaxMass
}

// Quotient returns the quotient, rounded by a rule, and its rest.
func Quotient(a, b, rule int) (int, int, api.Errno) {
	if !isRule(rule) {
		return 0, 0, api.ErrArg
	}
	if a < -api.MaxMass || a > api.MaxMass || !isDivisor(b) {
		return 0, 0, api.ErrRange
	}
	d := division{a / b, a % b, b}
	// Go's division goes towards 0, and not down.
	if d.rest < 0 {
		d.quotient--
		d.rest += b
	}
	q, rest := round(d, rule)
	return q, rest, api.OK
}

// Product returns a b / c, rounded by a rule.
func Product(a, b, c, rule int) (int, api.Errno) {
	if !isRule(rule) {
		return 0, api.ErrArg
	}
	q, r, e := proportion.Of(a, b, c)
	if e != api.OK {
		return 0, e
	}
	q, _ = round(division{q, r, c}, rule)
	if q > api.MaxMass {
		return 0, api.ErrLimit
	}
	return q, api.OK
}

// Step returns a number, rounded to a step.
func Step(a, step, rule int) (int, api.Errno) {
	// With an error the quotient is 0, and so is the result.
	q, _, e := Quotient(a, step, rule)
	return q * step, e
}

// Word returns the word of a rule.
func Word(rule int) string {
	if !isRule(rule) {
		return ""
	}
	return words[rule]
}

// Rule returns the rule with a word.
func Rule(word string) int {
	for rule, w := range words {
		if w == word {
			return rule
		}
	}
	return 0
}

// Total returns the sum of the quotients of some numbers, and the sum of the rests.
func Total(l []int, b, rule int) (int, int, api.Errno) {
	if !isRule(rule) {
		return 0, 0, api.ErrArg
	}
	if len(l) > api.MaxItems {
		return 0, 0, api.ErrTooLarge
	}
	if !isDivisor(b) {
		return 0, 0, api.ErrRange
	}
	sum, rests := 0, 0
	for _, x := range l {
		if x < 0 {
			return 0, 0, api.ErrRange
		}
		q, rest, e := Quotient(x, b, rule)
		if e != api.OK {
			return 0, 0, e
		}
		sum += q
		rests += rest
	}
	return sum, rests, api.OK
}
