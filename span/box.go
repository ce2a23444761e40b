package span

import "seamark/api"

// ValidBox reports whether b is a valid box.
func ValidBox(b api.Box) bool {
	return endsWithin(b.X, api.MaxCoord) && endsWithin(b.Y, api.MaxCoord)
}

// MeetBox returns what both boxes have in common.
func MeetBox(a, b api.Box) (api.Box, api.Errno) {
	if !ValidBox(a) || !ValidBox(b) {
		return api.Box{}, api.ErrArg
	}
	both := meetBox(a, b)
	if !ValidBox(both) {
		return api.Box{}, api.ErrNone
	}
	return both, api.OK
}

// JoinBox returns the least box that has both.
func JoinBox(a, b api.Box) (api.Box, api.Errno) {
	if !ValidBox(a) || !ValidBox(b) {
		return api.Box{}, api.ErrArg
	}
	return api.Box{X: join(a.X, b.X), Y: join(a.Y, b.Y)}, api.OK
}

// GrowBox returns the box with n more on each side.
func GrowBox(b api.Box, n int) (api.Box, api.Errno) {
	if !ValidBox(b) || n < 0 || n > api.MaxDist {
		return api.Box{}, api.ErrArg
	}
	grow := func(s api.Span) api.Span { return api.Span{Lo: s.Lo - n, Hi: s.Hi + n} }
	grown := api.Box{X: grow(b.X), Y: grow(b.Y)}
	if !ValidBox(grown) {
		return api.Box{}, api.ErrRange
	}
	return grown, api.OK
}

// InBox reports whether p is in the box.
func InBox(p api.Point, b api.Box) (bool, api.Errno) {
	place := api.Box{X: single(p.X), Y: single(p.Y)}
	return WithinBox(place, b)
}

// WithinBox reports whether b has all of a.
func WithinBox(a, b api.Box) (bool, api.Errno) {
	if !ValidBox(a) || !ValidBox(b) {
		return false, api.ErrArg
	}
	return meetBox(a, b) == a, api.OK
}

// meetBox returns what both boxes have in common: if that is nothing, a box that is not valid.
func meetBox(a, b api.Box) api.Box {
	return api.Box{X: meet(a.X, b.X), Y: meet(a.Y, b.Y)}
}
