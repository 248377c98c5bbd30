package attitude

import (
	"garboard/api"
	"garboard/rational"
)

// triple are the coordinates of a point, or of a vector.
type triple [3]api.Rat

func read(r api.Vector) triple { return triple{r.X, r.Y, r.Z} }

func (c triple) vector() api.Vector { return api.Vector{X: c[0], Y: c[1], Z: c[2]} }

// frame are the unit vectors ahead, to the side, and up.
type frame [3]triple

func frameOf(a api.Attitude) frame {
	cosHeel, sinHeel := circle(a.Heel)
	cosTrim, sinTrim := circle(a.Trim)
	return frame{
		{cosTrim, opposite(times(sinHeel, sinTrim)), times(cosHeel, sinTrim)},
		{"0", cosHeel, sinHeel},
		{opposite(sinTrim), opposite(times(sinHeel, cosTrim)), times(cosHeel, cosTrim)},
	}
}

// circle returns the cosine and the sine of an angle by its half tangent.
func circle(t api.Rat) (cosine, sine api.Rat) {
	square := times(t, t)
	whole := plus("1", square)
	return over(minus("1", square), whole), over(times("2", t), whole)
}

// products returns the scalar products of the three vectors with another one.
func (f frame) products(r triple) triple {
	along := func(n triple) api.Rat {
		return plus(plus(times(n[0], r[0]), times(n[1], r[1])), times(n[2], r[2]))
	}
	return triple{along(f[0]), along(f[1]), along(f[2])}
}

// inverse exchanges rows and columns: what this gives turns back, because the vectors have the length 1 and are perpendicular to each other.
func (f frame) inverse() frame {
	var out frame
	for i, n := range f {
		for k, x := range n {
			out[k][i] = x
		}
	}
	return out
}

// extent returns the least and the greatest coordinates of some points.
func (f frame) extent(points []api.Vector) [3]api.Interval {
	var out [3]api.Interval
	for i, r := range points {
		for k, x := range f.products(read(r)) {
			if i == 0 || order(x, out[k].Lo) < 0 {
				out[k].Lo = x
			}
			if i == 0 || order(x, out[k].Hi) > 0 {
				out[k].Hi = x
			}
		}
	}
	return out
}

// sure returns a result that comes without an error: that of valid numbers, and of a divisor other than 0.
func sure[T any](result T, _ api.Errno) T { return result }

func plus(x, y api.Rat) api.Rat  { return sure(rational.Add(x, y)) }
func minus(x, y api.Rat) api.Rat { return sure(rational.Sub(x, y)) }
func times(x, y api.Rat) api.Rat { return sure(rational.Mul(x, y)) }
func over(x, y api.Rat) api.Rat  { return sure(rational.Div(x, y)) }
func order(x, y api.Rat) int     { return sure(rational.Compare(x, y)) }
func opposite(x api.Rat) api.Rat { return minus("0", x) }
