package sector_test

import (
	"math/big"
	"slices"

	"seamark/api"
)

// The oracle measures angles by fractions, and compares them in the middle between turns, too.

func rat(n int) *big.Rat { return new(big.Rat).SetInt64(int64(n)) }

// angle returns a number from 0 to less than 4, which grows with the angle of v: how many quarters v is turned, and where it leaves a square that stands on its corner.
func angle(v api.Point) *big.Rat {
	quarters := 0
	for v.X <= 0 || v.Y < 0 {
		v = at(v.Y, -v.X)
		quarters++
	}
	return new(big.Rat).Add(rat(quarters), big.NewRat(int64(v.Y), int64(v.X+v.Y)))
}

// toward returns the direction with the least integers that has an angle.
func toward(a *big.Rat) api.Point {
	quarters, rest := new(big.Int).DivMod(a.Num(), a.Denom(), new(big.Int))
	part := new(big.Rat).SetFrac(rest, a.Denom())
	up, all := int(part.Num().Int64()), int(part.Denom().Int64())
	v := at(all-up, up)
	for range quarters.Int64() {
		v = quarter(v)
	}
	return v
}

// turned returns how far it is counterclockwise from one angle to another one.
func turned(from, to *big.Rat) *big.Rat {
	by := new(big.Rat).Sub(to, from)
	if by.Sign() < 0 {
		by.Add(by, rat(4))
	}
	return by
}

// passes reports whether s has an angle.
func passes(s api.Sector, a *big.Rat) bool {
	from := angle(s.From)
	whole := turned(from, angle(s.To))
	return whole.Sign() == 0 || turned(from, a).Cmp(whole) < 0
}

// look is what a light shows in a direction.
type look struct{ color, reach int }

// lookAt returns what the sectors show at an angle, and how many of them have it.
func lookAt(list []api.Sector, a *big.Rat) (look, int) {
	var shown look
	count := 0
	for _, s := range list {
		if passes(s, a) {
			shown = look{s.Color, s.Range}
			count++
		}
	}
	return shown, count
}

// cuts returns the angles of all turns in order, each once, and for each of them one between it and the next one.
func cuts(lists ...[]api.Sector) (turns, middles []*big.Rat) {
	for _, s := range slices.Concat(lists...) {
		turns = append(turns, angle(s.From), angle(s.To))
	}
	slices.SortFunc(turns, (*big.Rat).Cmp)
	turns = slices.CompactFunc(turns, func(a, b *big.Rat) bool { return a.Cmp(b) == 0 })
	for i, a := range turns {
		by := turned(a, turns[(i+1)%len(turns)])
		if by.Sign() == 0 {
			by = rat(4)
		}
		middle := new(big.Rat).Add(a, by.Quo(by, rat(2)))
		if middle.Cmp(rat(4)) >= 0 {
			middle.Sub(middle, rat(4))
		}
		middles = append(middles, middle)
	}
	return turns, middles
}

// isDirection reports whether v is a direction.
func isDirection(v api.Point) bool {
	return (v.X != 0 || v.Y != 0) && min(v.X, v.Y) >= -most && max(v.X, v.Y) <= most
}

// isSector reports whether s is valid.
func isSector(s api.Sector) bool {
	return isDirection(s.From) && isDirection(s.To) && s.Color >= 1 && s.Color <= 3 && s.Range >= 1 && s.Range <= api.MaxDist
}

// isLight reports whether list is a light.
func isLight(list []api.Sector) bool {
	if len(list) > 12 || slices.ContainsFunc(list, func(s api.Sector) bool { return !isSector(s) }) {
		return false
	}
	turns, middles := cuts(list)
	return !slices.ContainsFunc(append(turns, middles...), func(a *big.Rat) bool {
		_, count := lookAt(list, a)
		return count > 1
	})
}

// anywhere reports whether is holds, in some direction, of what a and b show there.
func anywhere(a, b []api.Sector, is func(a, b look) bool) bool {
	turns, middles := cuts(a, b)
	return slices.ContainsFunc(append(turns, middles...), func(v *big.Rat) bool {
		first, _ := lookAt(a, v)
		second, _ := lookAt(b, v)
		return is(first, second)
	})
}

// held returns what Holds has to return.
func held(a, b []api.Sector, color int) bool {
	return !anywhere(a, b, func(a, b look) bool {
		asFar := b.color == color && b.reach >= a.reach
		return a.color == color && !asFar
	})
}

// looksSafer returns what Safer has to return.
func looksSafer(a, b []api.Sector) bool {
	return anywhere(a, b, func(a, b look) bool {
		switch {
		case b.color != api.White:
			return false
		case a.color != api.White:
			return true
		}
		return b.reach > a.reach
	})
}

// normal returns what Normal has to return.
func normal(list []api.Sector) []api.Sector {
	turns, middles := cuts(list)
	var kept []*big.Rat
	for i, a := range turns {
		now, _ := lookAt(list, a)
		before, _ := lookAt(list, middles[(i+len(turns)-1)%len(turns)])
		if now != before {
			kept = append(kept, a)
		}
	}
	if len(kept) == 0 {
		kept = append(kept, rat(0))
	}
	var out []api.Sector
	for i, a := range kept {
		if shown, count := lookAt(list, a); count > 0 {
			out = append(out, arc(shown.color, shown.reach, toward(a), toward(kept[(i+1)%len(kept)])))
		}
	}
	return out
}

// seen returns what Seen has to return, for two different places.
func seen(list []api.Sector, from, p api.Point) int {
	x, y := p.X-from.X, p.Y-from.Y
	shown, _ := lookAt(list, angle(at(x, y)))
	if x*x+y*y > shown.reach*shown.reach {
		return 0
	}
	return shown.color
}
