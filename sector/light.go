package sector

import (
	"iter"
	"slices"

	"seamark/api"
)

// light is the sectors of a light. Valid asks isSound; all other methods are those of a valid light.
type light []api.Sector

// validSector reports whether s is a valid sector.
func validSector(s api.Sector) bool {
	return direction(s.From).valid() && direction(s.To).valid() &&
		between(s.Color, api.White, api.Green) && between(s.Range, 1, api.MaxDist)
}

// has reports whether s has the direction v.
func has(s api.Sector, v direction) bool {
	from, to := direction(s.From), direction(s.To)
	begun, ended := from.compare(v) <= 0, to.compare(v) <= 0
	if from.compare(to) < 0 {
		return begun && !ended
	}
	// The sector passes (1, 0), where angles begin again; from From to one alike, it has whatever is before and after.
	return begun || !ended
}

// overlap reports whether s and t have a direction in common. If they have, one of them has the From of the other one.
func overlap(s, t api.Sector) bool {
	return has(s, direction(t.From)) || has(t, direction(s.From))
}

// isSound reports whether all sectors are valid, and no two of them have a direction in common.
func (l light) isSound() bool {
	for i, s := range l {
		overlaps := func(earlier api.Sector) bool { return overlap(s, earlier) }
		if !validSector(s) || slices.ContainsFunc(l[:i], overlaps) {
			return false
		}
	}
	return true
}

// shown returns what the light shows in the direction v: a sector without its ends, or the zero one if it is dark.
func (l light) shown(v direction) api.Sector {
	for _, s := range l {
		if has(s, v) {
			return api.Sector{Color: s.Color, Range: s.Range}
		}
	}
	return api.Sector{}
}

// turns ranges over the turns of lights. From each of them to the next one, what a light shows does not change.
func turns(lights ...light) iter.Seq[direction] {
	return func(yield func(direction) bool) {
		for _, s := range slices.Concat(lights...) {
			if !yield(direction(s.From)) || !yield(direction(s.To)) {
				return
			}
		}
	}
}

// holds reports whether other shows the color wherever l does, at least as far.
func (l light) holds(other light, color int) bool {
	for v := range turns(l, other) {
		mine, its := l.shown(v), other.shown(v)
		if mine.Color == color && (its.Color != color || its.Range < mine.Range) {
			return false
		}
	}
	return true
}

// changes returns the turns in which the light does not show what it shows just before, by their angles and with the least integers.
func (l light) changes() []direction {
	var all, out []direction
	for v := range turns(l) {
		all = append(all, v.least())
	}
	slices.SortFunc(all, direction.compare)
	for i, v := range all {
		// Of turns that are alike, only the first one follows on another direction.
		before := all[(i+len(all)-1)%len(all)]
		if l.shown(v) != l.shown(before) {
			out = append(out, v)
		}
	}
	return out
}

// normal returns the normal form.
func (l light) normal() []api.Sector {
	kept := l.changes()
	if len(kept) == 0 {
		// The light shows the same everywhere.
		kept = []direction{{X: 1}}
	}
	var out []api.Sector
	for i, from := range kept {
		s := l.shown(from)
		if s == (api.Sector{}) {
			continue
		}
		s.From, s.To = api.Point(from), api.Point(kept[(i+1)%len(kept)])
		out = append(out, s)
	}
	return out
}
