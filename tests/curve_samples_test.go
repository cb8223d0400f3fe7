package tests

import (
	"math/rand/v2"
	"slices"

	"loop.example/g00838/impl"
)

// curve returns the curve with some numbers.
func curve(first, length, second int) impl.Curve {
	return impl.Curve{First: first, Length: length, Second: second}
}

// curvesOf returns the curves with some numbers.
func curvesOf(numbers [][3]int) []impl.Curve {
	var l []impl.Curve
	for _, n := range numbers {
		l = append(l, curve(n[0], n[1], n[2]))
	}
	return l
}

// namedCurves are valid curves with the numbers that the document names, and some that are equal for a while, touch or cross.
func namedCurves() []impl.Curve {
	return curvesOf([][3]int{
		{10, 4, 2}, {2, 4, 10}, {10, 5, 2}, {10, 4, 3},
		{0, 0, 0}, {7, 0, 0}, {0, 4, 0}, {100000, 0, 0}, {0, 10000, 0},
		{7, 0, 7}, {5, 0, 7}, {7, 9, 7}, {0, 0, 7}, {7, 10000, 7}, {100000, 0, 7},
		{0, 0, 100000}, {100000, 10000, 100000}, {100000, 10000, 0}, {0, 10000, 100000}, {100000, 1, 0}, {99999, 10000, 100000},
		{0, 1, 1}, {1, 1, 0}, {0, 0, 1}, {1, 0, 0},
		{3, 9999, 2}, {3, 10000, 2}, {3, 10000, 1}, {3, 10000, 4}, {3, 0, 3},
		// The second one is equal to a straight one at the last time alone, the first one is above another there alone.
		{0, 271, 369}, {0, 1000, 100}, {0, 0, 368}, {0, 0, 99},
	})
}

// randomCurves returns valid curves with slopes up to a limit, some of them small, so that many of them meet.
func randomCurves(seed, count, slope, piece int) []impl.Curve {
	dice := rand.New(rand.NewPCG(uint64(seed), 5))
	curves := make([]impl.Curve, count)
	for i := range curves {
		curves[i] = curve(dice.IntN(slope+1), dice.IntN(piece+1), dice.IntN(slope+1))
	}
	return curves
}

// sampleCurves are valid curves of all sizes.
func sampleCurves() []impl.Curve {
	return slices.Concat(namedCurves(), randomCurves(1, 12, 3, 4), randomCurves(2, 8, 20, 10000), randomCurves(3, 6, 100000, 10000))
}

// curveExtremes are numbers around the limits of chapter 5 and of int itself.
var curveExtremes = slices.Concat(extremes, []int{9999, 10000, 10001, 99999, 100000, 100001, 19999999999, 20000000000, 20000000001})

// withNumbers returns the copies of a curve in which one number is another one.
func withNumbers(c impl.Curve, n int) []impl.Curve {
	return curvesOf([][3]int{{n, c.Length, c.Second}, {c.First, n, c.Second}, {c.First, c.Length, n}})
}

// brokenCurves are curves that are not valid.
func brokenCurves() []impl.Curve {
	curves := curvesOf([][3]int{
		{-1, 0, 0}, {100001, 0, 0}, {0, -1, 0}, {0, 10001, 0}, {0, 0, -1}, {0, 0, 100001},
		{100001, 10001, 100001}, {-1, -1, -1}, {-5, 0, 5}, {5, 100000, 5}, {1<<63 - 1, 1<<63 - 1, 1<<63 - 1}, {-1 << 63, -1 << 63, -1 << 63},
	})
	for _, n := range []int{-1 << 63, -1<<63 + 1, -1, 100001, 1 << 32, 1<<63 - 1} {
		curves = append(curves, withNumbers(curve(10, 4, 2), n)...)
	}
	return curves
}

// valuesOf returns the values of a curve at all times, each of which is the one before it and a slope.
func valuesOf(c impl.Curve) []int {
	values := make([]int, 100001)
	for t := range values[1:] {
		slope := c.Second
		if t < c.Length {
			slope = c.First
		}
		values[t+1] = values[t] + slope
	}
	return values
}
