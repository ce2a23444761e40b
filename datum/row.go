package datum

import "seamark/api"

// million is how many parts of a factor make a whole.
const million = 1000000

// row is a row of a map: its factors of X and of Y, in millionths, and what it adds.
type row struct{ x, y, move int }

// rows is the two rows of a map, for X and for Y.
type rows struct{ first, second row }

// both returns what is asked of both rows.
func both[A, R any](m rows, ask func(row, A) R, about A) (first, second R) {
	return ask(m.first, about), ask(m.second, about)
}

// det returns the determinant of the factors.
func (m rows) det() int {
	return m.first.x*m.second.y - m.first.y*m.second.x
}

// turned returns the rows that lead back, but for the determinant, by which they are not divided.
func (m rows) turned() rows {
	return rows{first: row{x: m.second.y, y: -m.first.y}, second: row{x: -m.second.x, y: m.first.x}}
}

// spread returns how wrong the rows can make what is wrong by n, if each row is heavier by more.
func (m rows) spread(n, more int) int {
	first, second := both(m, row.weight, more)
	return ways().up(max(first, second)*n, million)
}

// weight returns the sum of the factors without their signs, and more.
func (r row) weight(more int) int {
	return max(r.x, -r.x) + max(r.y, -r.y) + more
}

// value returns what the row makes of p, in millionths.
func (r row) value(p api.Point) int {
	return r.x*p.X + r.y*p.Y + r.move*million
}

// over returns the least and the greatest value of the row for the points of b, in millionths.
func (r row) over(b api.Box) api.Span {
	x, y := multiple(b.X, r.x), multiple(b.Y, r.y)
	return api.Span{Lo: x.Lo + y.Lo + r.move*million, Hi: x.Hi + y.Hi + r.move*million}
}

// shift returns what the row may add, if it is wrong by at most n.
func (r row) shift(n int) api.Span {
	return api.Span{Lo: r.move - n, Hi: r.move + n}
}

// after returns the row that does what m does, and then what r does.
func (r row) after(m rows) row {
	return row{
		x:    ways().near(r.x*m.first.x+r.y*m.second.x, million),
		y:    ways().near(r.x*m.first.y+r.y*m.second.y, million),
		move: ways().near(r.x*m.first.move+r.y*m.second.move, million) + r.move,
	}
}

// undoing returns the row that leads back from m, for a row of m.turned().
func (r row) undoing(m rows) row {
	x := ways().near(r.x*million*million, m.det())
	y := ways().near(r.y*million*million, m.det())
	return row{x: x, y: y, move: ways().near(-(x*m.first.move + y*m.second.move), million)}
}

// multiple returns the least and the greatest one of the numbers of s, times n.
func multiple(s api.Span, n int) api.Span {
	return api.Span{Lo: min(s.Lo*n, s.Hi*n), Hi: max(s.Lo*n, s.Hi*n)}
}
