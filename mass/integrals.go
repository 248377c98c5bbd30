package mass

import "garboard/api"

// integrals are those of 1, of the coordinates, of their squares, and of X Y, Y Z and Z X.
type integrals struct {
	one                       api.Rat
	moment, squares, products api.Vector
}

func nothing() integrals { return integrals{"0", zero(), zero(), zero()} }

func read(m api.Mass) integrals {
	return integrals{m.Volume, m.Moment, api.Vector{X: m.XX, Y: m.YY, Z: m.ZZ}, api.Vector{X: m.XY, Y: m.YZ, Z: m.ZX}}
}

func (m integrals) mass() api.Mass {
	return api.Mass{Volume: m.one, Moment: m.moment, XX: m.squares.X, YY: m.squares.Y, ZZ: m.squares.Z, XY: m.products.X, YZ: m.products.Y, ZX: m.products.Z}
}

func (m integrals) areValid() bool {
	return isValid(m.one) && areValid(m.moment, m.squares, m.products)
}

// plus leaves out what is nothing: this is so for each triangle in a plane through the origin.
func (m integrals) plus(n integrals) integrals {
	if m == nothing() {
		return n
	}
	if n == nothing() {
		return m
	}
	return integrals{plus(m.one, n.one), added(m.moment, n.moment), added(m.squares, n.squares), added(m.products, n.products)}
}

// weighted multiplies the integrals of each degree with a factor of their own.
func (m integrals) weighted(one, first, second api.Rat) integrals {
	return integrals{times(m.one, one), scaled(m.moment, first), scaled(m.squares, second), scaled(m.products, second)}
}

// moved adds, with the moved moment in one of both products, what the chapter adds: this has volume v.X v.Y in it.
func (m integrals) moved(v api.Vector) integrals {
	moment := added(m.moment, scaled(v, m.one))
	from, to, by := coordinates(m.moment), coordinates(moment), coordinates(v)
	product := func(old api.Rat, i, k int) api.Rat {
		return dot(api.Vector{X: "1", Y: by[i], Z: by[k]}, api.Vector{X: old, Y: to[k], Z: from[i]})
	}
	squares := api.Vector{X: product(m.squares.X, 0, 0), Y: product(m.squares.Y, 1, 1), Z: product(m.squares.Z, 2, 2)}
	products := api.Vector{X: product(m.products.X, 0, 1), Y: product(m.products.Y, 1, 2), Z: product(m.products.Z, 2, 0)}
	return integrals{m.one, moment, squares, products}
}

// ofSolid needs valid points of a closed solid, with however many triangles.
func ofSolid(l []api.Triangle) api.Mass { return all(l).weighted("1/6", "1/24", "1/120").mass() }

// ofSection takes each edge, in the coordinates a and b and at the height 0, together with the point at the height 1 above the origin as a triangle: this has D as its determinant, and the sums of the edge.
func ofSection(l []api.Segment, a, b api.Vector) api.Area {
	place := func(r api.Vector) api.Vector { return api.Vector{X: dot(a, r), Y: dot(b, r), Z: "0"} }
	var triangles []api.Triangle
	for _, edge := range l {
		triangles = append(triangles, api.Triangle{{X: "0", Y: "0", Z: "1"}, place(edge[0]), place(edge[1])})
	}
	m := all(triangles).weighted("1/2", "1/6", "1/24")
	return api.Area{Area: m.one, A: m.moment.X, B: m.moment.Y, AA: m.squares.X, BB: m.squares.Y, AB: m.products.X}
}

// all returns the sums over some triangles, which are still to be divided by a number for each degree.
func all(l []api.Triangle) integrals {
	var terms []integrals
	for _, t := range l {
		terms = append(terms, term(t))
	}
	return sum(integrals.plus, nothing(), terms...)
}

// term returns, with D the determinant of the points and s their sum, D, D s, and D times the sums of products.
func term(t api.Triangle) integrals {
	d := determinant(t)
	if d == "0" {
		return nothing()
	}
	s := added(added(t[0], t[1]), t[2])
	x, y, z := api.Vector{X: t[0].X, Y: t[1].X, Z: t[2].X}, api.Vector{X: t[0].Y, Y: t[1].Y, Z: t[2].Y}, api.Vector{X: t[0].Z, Y: t[1].Z, Z: t[2].Z}
	// s.x s.y is the sum of a.x s.y, b.x s.y and c.x s.y: so it is enough to add s.y to each coordinate y.
	xs, ys, zs := raised(x, s.X), raised(y, s.Y), raised(z, s.Z)
	squares := api.Vector{X: dot(x, xs), Y: dot(y, ys), Z: dot(z, zs)}
	products := api.Vector{X: dot(x, ys), Y: dot(y, zs), Z: dot(z, xs)}
	return integrals{"1", s, squares, products}.weighted(d, d, d)
}
