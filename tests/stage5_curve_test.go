package tests

import (
	"regexp"
	"slices"
	"strings"
	"testing"

	"loop.example/g00838/impl"
)

// Promise 5: least times are least, and a curve is above another one from a first time on.

func TestIsCurve(t *testing.T) {
	for _, c := range sampleCurves() {
		if !impl.IsCurve(c) {
			t.Errorf("IsCurve(%v) = false", c)
		}
	}
	for _, c := range brokenCurves() {
		if impl.IsCurve(c) {
			t.Errorf("IsCurve(%v) = true", c)
		}
	}
	for _, n := range curveExtremes {
		for i, c := range withNumbers(curve(10, 4, 2), n) {
			most := []int{100000, 10000, 100000}[i]
			if is := impl.IsCurve(c); is != isIn(n, 0, most) {
				t.Errorf("IsCurve(%v) = %v", c, is)
			}
		}
	}
}

type timeCase struct {
	c    impl.Curve
	n, m int
	ok   bool
}

func TestCurveAt(t *testing.T) {
	for _, c := range []timeCase{
		{curve(10, 4, 2), 0, 0, true},
		{curve(10, 4, 2), 1, 10, true},
		{curve(10, 4, 2), 4, 40, true},
		{curve(10, 4, 2), 5, 42, true},
		{curve(10, 4, 2), 6, 44, true},
		{curve(10, 4, 2), 100000, 200032, true},
		{curve(10, 4, 2), -1, 0, false},
		{curve(10, 4, 2), 100001, 0, false},
		{curve(10, 0, 2), 0, 0, true}, // a first piece of no length
		{curve(10, 0, 2), 1, 2, true},
		{curve(10, 0, 2), 100000, 200000, true},
		{curve(100000, 10000, 100000), 9999, 999900000, true},
		{curve(100000, 10000, 100000), 10000, 1000000000, true},
		{curve(100000, 10000, 100000), 10001, 1000100000, true},
		{curve(100000, 10000, 100000), 100000, 10000000000, true},
		{curve(100000, 10000, 0), 100000, 1000000000, true},
		{curve(0, 10000, 100000), 10000, 0, true},
		{curve(0, 10000, 100000), 10001, 100000, true},
		{curve(0, 10000, 100000), 100000, 9000000000, true},
		{curve(0, 0, 0), 100000, 0, true},
		{curve(10, 10001, 2), 0, 0, false},
		{curve(10, -1, 2), 5, 0, false},
		{curve(100001, 4, 2), 5, 0, false},
		{curve(10, 4, -2), 5, 0, false},
	} {
		if n, ok := impl.CurveAt(c.c, c.n); n != c.m || ok != c.ok {
			t.Errorf("CurveAt(%v, %d) = %d, %v", c.c, c.n, n, ok)
		}
	}
}

func TestCurveAtAllTimes(t *testing.T) {
	for _, c := range sampleCurves() {
		for at, want := range valuesOf(c) {
			if n, ok := impl.CurveAt(c, at); n != want || !ok {
				t.Fatalf("CurveAt(%v, %d) = %d, %v", c, at, n, ok)
			}
		}
	}
}

func TestLeastTime(t *testing.T) {
	for _, c := range []timeCase{
		{curve(10, 4, 2), 41, 5, true},
		{curve(10, 4, 2), 0, 0, true},
		{curve(10, 4, 2), 1, 1, true},
		{curve(10, 4, 2), 10, 1, true},
		{curve(10, 4, 2), 11, 2, true},
		{curve(10, 4, 2), 40, 4, true},
		{curve(10, 4, 2), 42, 5, true},
		{curve(10, 4, 2), 43, 6, true},
		{curve(10, 4, 2), 200031, 100000, true},
		{curve(10, 4, 2), 200032, 100000, true},
		{curve(10, 4, 2), 200033, 0, false},
		{curve(10, 4, 2), -1, 0, false},
		{curve(10, 4, 2), -1 << 63, 0, false},
		{curve(10, 0, 2), 3, 2, true},
		{curve(0, 0, 0), 0, 0, true},
		{curve(0, 0, 0), 1, 0, false},
		{curve(100000, 0, 0), 1, 0, false},
		{curve(0, 10000, 1), 1, 10001, true},
		{curve(100000, 10000, 0), 1000000000, 10000, true}, // the value stays
		{curve(100000, 10000, 0), 1000000001, 0, false},
		{curve(100000, 10000, 100000), 9999900001, 100000, true},
		{curve(100000, 10000, 100000), 10000000000, 100000, true},
		{curve(100000, 10000, 100000), 10000000001, 0, false},
		{curve(100000, 10000, 100000), 20000000000, 0, false},
		{curve(100000, 10000, 100000), 20000000001, 0, false},
		{curve(100000, 10000, 100000), 1<<63 - 1, 0, false},
		{curve(100001, 4, 2), 0, 0, false},
		{curve(10, 10001, 2), 41, 0, false},
		{curve(10, 4, -1), 10, 0, false},
	} {
		if at, ok := impl.LeastTime(c.c, c.n); at != c.m || ok != c.ok {
			t.Errorf("LeastTime(%v, %d) = %d, %v", c.c, c.n, at, ok)
		}
	}
}

// checkLeast checks that a time is the least one for a value.
func checkLeast(t *testing.T, c impl.Curve, y, want int) {
	t.Helper()
	if at, ok := impl.LeastTime(c, y); at != want || !ok {
		t.Fatalf("LeastTime(%v, %d) = %d, %v", c, y, at, ok)
	}
}

func TestPromise5LeastTimesAreLeast(t *testing.T) {
	for _, c := range sampleCurves() {
		values := valuesOf(c)
		checkLeast(t, c, 0, 0)
		for at, value := range values[1:] {
			if value < values[at+1] {
				continue
			}
			if before := values[at]; before < value {
				checkLeast(t, c, before+1, at+1)
				checkLeast(t, c, value, at+1)
			}
		}
		last := values[100000]
		for _, y := range []int{last + 1, 20000000000} {
			if at, ok := impl.LeastTime(c, y); at != 0 || ok {
				t.Errorf("LeastTime(%v, %d) = %d, %v", c, y, at, ok)
			}
		}
	}
}

func TestPromise5LeastTimesHaveTheirValues(t *testing.T) {
	for _, c := range sampleCurves() {
		for y := 0; y < 20000000000; y = y*3/2 + 1 {
			at, ok := impl.LeastTime(c, y)
			if last, _ := impl.CurveAt(c, 100000); ok != (y <= last) {
				t.Errorf("LeastTime(%v, %d) = %d, %v", c, y, at, ok)
			}
			if !ok {
				continue
			}
			if n, okAt := impl.CurveAt(c, at); n < y || !okAt {
				t.Errorf("LeastTime(%v, %d) = %d, where the value is %d", c, y, at, n)
			}
			if n, okBefore := impl.CurveAt(c, at-1); okBefore != (at > 0) || okBefore && n >= y {
				t.Errorf("LeastTime(%v, %d) = %d, before which the value is %d", c, y, at, n)
			}
		}
	}
}

func TestCurveShape(t *testing.T) {
	for _, c := range []struct {
		c     impl.Curve
		shape int
		ok    bool
	}{
		{curve(10, 4, 2), 1, true},
		{curve(2, 4, 10), -1, true},
		{curve(7, 4, 7), 0, true},
		{curve(10, 0, 2), 0, true}, // a first piece of no length
		{curve(2, 0, 10), 0, true},
		{curve(7, 0, 7), 0, true},
		{curve(0, 0, 0), 0, true},
		{curve(0, 10000, 0), 0, true},
		{curve(1, 1, 0), 1, true},
		{curve(0, 1, 1), -1, true},
		{curve(100000, 10000, 0), 1, true},
		{curve(0, 10000, 100000), -1, true},
		{curve(100000, 10000, 99999), 1, true},
		{curve(100000, 10000, 100000), 0, true},
		{curve(100001, 4, 2), 0, false},
		{curve(2, 4, 100001), 0, false},
		{curve(-1, 0, 2), 0, false},
		{curve(2, -1, 10), 0, false},
		{curve(10, 10001, 2), 0, false},
	} {
		if shape, ok := impl.CurveShape(c.c); shape != c.shape || ok != c.ok {
			t.Errorf("CurveShape(%v) = %d, %v", c.c, shape, ok)
		}
	}
}

func TestShortCurve(t *testing.T) {
	for _, c := range []struct {
		c, short impl.Curve
		ok       bool
	}{
		{curve(10, 4, 2), curve(10, 4, 2), true},
		{curve(2, 4, 10), curve(2, 4, 10), true},
		{curve(7, 4, 7), curve(0, 0, 7), true},
		{curve(10, 0, 2), curve(0, 0, 2), true},
		{curve(0, 0, 2), curve(0, 0, 2), true},
		{curve(7, 0, 0), curve(0, 0, 0), true},
		{curve(0, 10000, 0), curve(0, 0, 0), true},
		{curve(0, 1, 1), curve(0, 1, 1), true},
		{curve(100000, 10000, 100000), curve(0, 0, 100000), true},
		{curve(100000, 10000, 0), curve(100000, 10000, 0), true},
		{curve(7, 10001, 7), impl.Curve{}, false},
		{curve(100001, 0, 7), impl.Curve{}, false},
		{curve(-1, 0, -1), impl.Curve{}, false},
		{curve(10, 4, -2), impl.Curve{}, false},
	} {
		if short, ok := impl.ShortCurve(c.c); short != c.short || ok != c.ok {
			t.Errorf("ShortCurve(%v) = %v, %v", c.c, short, ok)
		}
	}
}

func TestShortCurvesHaveTheSameValues(t *testing.T) {
	for _, c := range sampleCurves() {
		short, ok := impl.ShortCurve(c)
		shape, okShape := impl.CurveShape(c)
		if !ok || !okShape || !slices.Equal(valuesOf(short), valuesOf(c)) {
			t.Errorf("ShortCurve(%v) = %v, %v", c, short, ok)
		}
		if straight := short.Length == 0 && short.First == 0; straight != (shape == 0) || !straight && short != c {
			t.Errorf("ShortCurve(%v) = %v, and its shape is %d", c, short, shape)
		}
		if again, ok := impl.ShortCurve(short); again != short || !ok {
			t.Errorf("ShortCurve(%v) = %v, %v", short, again, ok)
		}
		if same, ok := impl.SameCurve(c, short); !same || !ok {
			t.Errorf("SameCurve(%v, %v) = %v, %v", c, short, same, ok)
		}
	}
}

// relation is how a curve compares to another one: the first time at which it is above, if there is one, and whether all values are the same.
type relation struct {
	a, b    impl.Curve
	above   int
	isAbove bool
	same    bool
}

func (r relation) check(t *testing.T) {
	t.Helper()
	if at, ok := impl.FirstAbove(r.a, r.b); at != r.above || ok != r.isAbove {
		t.Errorf("FirstAbove(%v, %v) = %d, %v", r.a, r.b, at, ok)
	}
	if below, ok := impl.CurveBelow(r.a, r.b); below == r.isAbove || !ok {
		t.Errorf("CurveBelow(%v, %v) = %v, %v", r.a, r.b, below, ok)
	}
	if same, ok := impl.SameCurve(r.a, r.b); same != r.same || !ok {
		t.Errorf("SameCurve(%v, %v) = %v, %v", r.a, r.b, same, ok)
	}
	if fits, ok := impl.SumFits([]impl.Curve{r.a}, r.b); fits == r.isAbove || !ok {
		t.Errorf("SumFits([%v], %v) = %v, %v", r.a, r.b, fits, ok)
	}
}

func TestRelationsOfCurves(t *testing.T) {
	for _, r := range []relation{
		{a: curve(10, 4, 2), b: curve(10, 4, 2), same: true},
		{a: curve(0, 0, 0), b: curve(9, 0, 0), same: true},
		{a: curve(0, 4, 0), b: curve(0, 0, 0), same: true},
		{a: curve(0, 0, 7), b: curve(7, 10000, 7), same: true},
		{a: curve(100000, 0, 7), b: curve(7, 3, 7), same: true},
		{a: curve(100000, 0, 7), b: curve(0, 0, 7), same: true}, // a first piece of no length
		// They are equal up to a time and differ behind it.
		{a: curve(3, 10000, 4), b: curve(3, 10000, 2), above: 10001, isAbove: true},
		{a: curve(3, 10000, 2), b: curve(3, 10000, 4)},
		{a: curve(3, 9999, 2), b: curve(3, 10000, 2)},
		{a: curve(3, 10000, 2), b: curve(3, 9999, 2), above: 10000, isAbove: true},
		{a: curve(3, 10000, 2), b: curve(0, 0, 3)},
		{a: curve(0, 0, 3), b: curve(3, 10000, 2), above: 10001, isAbove: true},
		// They cross: one is above first, is met at 32, and is below behind that time.
		{a: curve(10, 4, 2), b: curve(0, 0, 3), above: 1, isAbove: true},
		{a: curve(0, 0, 3), b: curve(10, 4, 2), above: 33, isAbove: true},
		// The same, and they are met at 6, where the first piece ends.
		{a: curve(2, 6, 1), b: curve(0, 3, 4), above: 1, isAbove: true},
		{a: curve(0, 3, 4), b: curve(2, 6, 1), above: 7, isAbove: true},
		// They cross twice.
		{a: curve(0, 2, 9), b: curve(6, 10, 100), above: 7, isAbove: true},
		{a: curve(6, 10, 100), b: curve(0, 2, 9), above: 1, isAbove: true},
		// One touches the other from below at the time 4 alone, or is above it at the time 5 alone.
		{a: curve(3, 4, 0), b: curve(4, 2, 2)},
		{a: curve(3, 5, 0), b: curve(4, 2, 2), above: 5, isAbove: true},
		// One is below the other all the time but for 0.
		{a: curve(0, 2, 3), b: curve(1, 3, 3)},
		// They are met at the last time, and one is above there alone.
		{a: curve(0, 1000, 100), b: curve(0, 0, 99)},
		{a: curve(0, 271, 369), b: curve(0, 0, 368), above: 100000, isAbove: true},
		{a: curve(0, 0, 368), b: curve(0, 271, 369), above: 1, isAbove: true},
		{a: curve(0, 10000, 100000), b: curve(100000, 10000, 0), above: 20001, isAbove: true},
		{a: curve(100000, 10000, 100000), b: curve(0, 0, 99999), above: 1, isAbove: true},
		{a: curve(0, 0, 0), b: curve(100000, 10000, 100000)},
		// The first time is within the first piece, between the ends of both, and at such an end.
		{a: curve(1, 5, 0), b: curve(0, 9, 0), above: 1, isAbove: true},
		{a: curve(1, 3, 9), b: curve(2, 8, 9), above: 4, isAbove: true},
		{a: curve(1, 3, 2), b: curve(2, 8, 0), above: 10, isAbove: true},
		{a: curve(1, 3, 3), b: curve(2, 7, 0), above: 7, isAbove: true},
		{a: curve(5, 1, 0), b: curve(0, 0, 4), above: 1, isAbove: true},
	} {
		r.check(t)
	}
}

// relationOf compares all values.
func relationOf(a, b impl.Curve, valuesA, valuesB []int) relation {
	r := relation{a: a, b: b, same: slices.Equal(valuesA, valuesB)}
	for t := range valuesA {
		if valuesA[t] > valuesB[t] {
			r.above, r.isAbove = t, true
			return r
		}
	}
	return r
}

func TestPromise5CurvesAreAboveFromAFirstTimeOn(t *testing.T) {
	curves := sampleCurves()
	values := make([][]int, len(curves))
	for i, c := range curves {
		values[i] = valuesOf(c)
	}
	for i, a := range curves {
		for k, b := range curves {
			relationOf(a, b, values[i], values[k]).check(t)
		}
	}
}

func TestPromise5SmallCurves(t *testing.T) {
	// Curves with slopes up to 3 and first pieces up to 4 cross before the time 40, or never.
	var curves []impl.Curve
	for first := range 4 {
		for length := range 5 {
			for second := range 4 {
				curves = append(curves, curve(first, length, second))
			}
		}
	}
	values := make([][]int, len(curves))
	for i, c := range curves {
		values[i] = valuesOf(c)[:40]
	}
	for i, a := range curves {
		for k, b := range curves {
			relationOf(a, b, values[i], values[k]).check(t)
		}
	}
}

func TestComparisonsRefuseBrokenCurves(t *testing.T) {
	check := func(a, b impl.Curve) {
		if same, ok := impl.SameCurve(a, b); same || ok {
			t.Errorf("SameCurve(%v, %v) = %v, %v", a, b, same, ok)
		}
		if below, ok := impl.CurveBelow(a, b); below || ok {
			t.Errorf("CurveBelow(%v, %v) = %v, %v", a, b, below, ok)
		}
		if at, ok := impl.FirstAbove(a, b); at != 0 || ok {
			t.Errorf("FirstAbove(%v, %v) = %d, %v", a, b, at, ok)
		}
		if fits, ok := impl.SumFits([]impl.Curve{a}, b); fits || ok {
			t.Errorf("SumFits([%v], %v) = %v, %v", a, b, fits, ok)
		}
	}
	for _, broken := range brokenCurves() {
		for _, c := range slices.Concat(namedCurves(), []impl.Curve{broken}, brokenCurves()) {
			check(broken, c)
			check(c, broken)
		}
	}
}

func TestSingleCurvesAreRefusedIfBroken(t *testing.T) {
	for _, c := range brokenCurves() {
		for _, n := range []int{0, 1, 10, 100000} {
			if value, ok := impl.CurveAt(c, n); value != 0 || ok {
				t.Errorf("CurveAt(%v, %d) = %d, %v", c, n, value, ok)
			}
			if at, ok := impl.LeastTime(c, n); at != 0 || ok {
				t.Errorf("LeastTime(%v, %d) = %d, %v", c, n, at, ok)
			}
			if sum, ok := impl.SumAt([]impl.Curve{c}, n); sum != 0 || ok {
				t.Errorf("SumAt([%v], %d) = %d, %v", c, n, sum, ok)
			}
		}
		if shape, ok := impl.CurveShape(c); shape != 0 || ok {
			t.Errorf("CurveShape(%v) = %d, %v", c, shape, ok)
		}
		if short, ok := impl.ShortCurve(c); short != (impl.Curve{}) || ok {
			t.Errorf("ShortCurve(%v) = %v, %v", c, short, ok)
		}
		if text, ok := impl.CurveText(c); text != "" || ok {
			t.Errorf("CurveText(%v) = %q, %v", c, text, ok)
		}
	}
}

func TestTimesThatAreNoneAreRefused(t *testing.T) {
	for _, at := range curveExtremes {
		want := isIn(at, 0, 100000)
		for _, c := range namedCurves() {
			if n, ok := impl.CurveAt(c, at); ok != want || !ok && n != 0 {
				t.Errorf("CurveAt(%v, %d) = %d, %v", c, at, n, ok)
			}
			if n, ok := impl.SumAt([]impl.Curve{c, c}, at); ok != want || !ok && n != 0 {
				t.Errorf("SumAt([%v %v], %d) = %d, %v", c, c, at, n, ok)
			}
			if n, ok := impl.LeastTime(c, at); ok && !isIn(at, 0, 20000000000) || !ok && n != 0 {
				t.Errorf("LeastTime(%v, %d) = %d, %v", c, at, n, ok)
			}
		}
		if n, ok := impl.SumAt(nil, at); n != 0 || ok != want {
			t.Errorf("SumAt([], %d) = %d, %v", at, n, ok)
		}
	}
}

func TestSumAt(t *testing.T) {
	twelve := slices.Repeat(curvesOf([][3]int{{100000, 10000, 100000}}), 12)
	for _, c := range []struct {
		l       []impl.Curve
		at, sum int
		ok      bool
	}{
		{nil, 0, 0, true},
		{[]impl.Curve{}, 100000, 0, true},
		{nil, -1, 0, false},
		{nil, 100001, 0, false},
		{curvesOf([][3]int{{10, 4, 2}}), 6, 44, true},
		{curvesOf([][3]int{{10, 4, 2}, {2, 4, 10}}), 6, 72, true},
		{curvesOf([][3]int{{10, 4, 2}, {10, 4, 2}}), 6, 88, true}, // the same one twice
		{curvesOf([][3]int{{10, 4, 2}, {5, 0, 3}, {0, 10000, 9}}), 10000, 50032, true},
		{curvesOf([][3]int{{10, 4, 2}, {5, 0, 3}, {0, 10000, 9}}), 0, 0, true},
		{twelve, 100000, 120000000000, true},
		{twelve, 0, 0, true},
		{append(slices.Clone(twelve), impl.Curve{}), 1, 0, false},
		{make([]impl.Curve, 13), 0, 0, false},
		{make([]impl.Curve, 12), 5, 0, true},
		{make([]impl.Curve, 1000000), 0, 0, false},
		{curvesOf([][3]int{{10, 4, 2}, {10, 4, -2}}), 6, 0, false},
		{curvesOf([][3]int{{100001, 4, 2}, {10, 4, 2}}), 6, 0, false},
		{curvesOf([][3]int{{10, 4, 2}, {10, 10001, 2}, {10, 4, 2}}), 6, 0, false},
		{withSpare(curvesOf([][3]int{{10, 4, 2}}), curve(-1, 0, 0)), 6, 44, true},
	} {
		if sum, ok := impl.SumAt(c.l, c.at); sum != c.sum || ok != c.ok {
			t.Errorf("SumAt(%.200v, %d) = %d, %v", c.l, c.at, sum, ok)
		}
	}
}

func TestSumFits(t *testing.T) {
	twelve := slices.Repeat(curvesOf([][3]int{{5, 10, 2}}), 12)
	for _, c := range []struct {
		l        []impl.Curve
		c        impl.Curve
		fits, ok bool
	}{
		{nil, curve(0, 0, 0), true, true},
		{[]impl.Curve{}, curve(10, 4, 2), true, true},
		{nil, curve(10, 4, -2), false, false},
		{curvesOf([][3]int{{10, 4, 2}}), curve(10, 4, 2), true, true},
		{curvesOf([][3]int{{10, 4, 2}}), curve(10, 4, 1), false, true},
		{curvesOf([][3]int{{10, 4, 2}}), curve(9, 4, 2), false, true},
		{curvesOf([][3]int{{10, 4, 2}}), curve(10, 3, 2), false, true},
		{curvesOf([][3]int{{10, 4, 2}, {0, 0, 1}}), curve(11, 4, 3), true, true},
		{curvesOf([][3]int{{10, 4, 2}, {0, 0, 1}}), curve(11, 4, 2), false, true},
		{curvesOf([][3]int{{10, 4, 2}, {0, 0, 1}}), curve(10, 4, 3), false, true},
		{curvesOf([][3]int{{0, 0, 0}, {0, 5, 0}}), curve(0, 0, 0), true, true},
		// The sum 7t up to 10, 2t + 50 up to 20, and 90 behind it, is too great at an end of a first piece alone.
		{curvesOf([][3]int{{5, 10, 0}, {2, 20, 0}}), curve(7, 10, 2), true, true},
		{curvesOf([][3]int{{5, 10, 0}, {2, 20, 0}}), curve(6, 30, 0), false, true},
		{curvesOf([][3]int{{5, 10, 0}, {2, 20, 0}}), curve(7, 12, 0), false, true},
		{curvesOf([][3]int{{5, 10, 0}, {2, 20, 0}}), curve(7, 13, 0), true, true},
		{curvesOf([][3]int{{5, 10, 0}, {2, 20, 0}}), curve(7, 12, 1), true, true},
		{curvesOf([][3]int{{2, 20, 0}, {5, 10, 0}}), curve(7, 12, 0), false, true},
		// The curve is too small at the end of its own first piece, or at the last time, alone.
		{curvesOf([][3]int{{0, 0, 1}}), curve(0, 10, 100), false, true},
		{curvesOf([][3]int{{0, 0, 99}}), curve(0, 1000, 100), false, true},
		{curvesOf([][3]int{{0, 271, 300}, {0, 271, 69}}), curve(0, 0, 368), false, true},
		{curvesOf([][3]int{{0, 1000, 50}, {0, 1000, 50}}), curve(0, 0, 99), true, true}, // met exactly there
		{twelve, curve(60, 10, 24), true, true},
		{twelve, curve(60, 10, 23), false, true},
		{twelve, curve(59, 10, 24), false, true},
		{append(slices.Clone(twelve), impl.Curve{}), curve(60, 10, 24), false, false},
		{make([]impl.Curve, 13), curve(60, 10, 24), false, false},
		{make([]impl.Curve, 12), curve(0, 0, 0), true, true},
		{make([]impl.Curve, 1000000), curve(0, 0, 0), false, false},
		{slices.Repeat(curvesOf([][3]int{{100000, 10000, 100000}}), 12), curve(100000, 10000, 100000), false, true},
		{curvesOf([][3]int{{10, 4, 2}}), curve(10, 10001, 2), false, false},
		{curvesOf([][3]int{{10, 4, 2}, {0, -1, 0}}), curve(100, 4, 100), false, false},
		{curvesOf([][3]int{{-1, 4, 2}, {0, 1, 0}}), curve(0, 4, 1), false, false},
		{curvesOf([][3]int{{10, 4, 2}, {100001, 0, 0}}), curve(0, 0, 0), false, false}, // does not fit before that
		{withSpare(curvesOf([][3]int{{10, 4, 2}}), curve(100000, 1, 0)), curve(10, 4, 2), true, true},
	} {
		if fits, ok := impl.SumFits(c.l, c.c); fits != c.fits || ok != c.ok {
			t.Errorf("SumFits(%.200v, %v) = %v, %v", c.l, c.c, fits, ok)
		}
	}
}

func TestSumsOfAllTimes(t *testing.T) {
	counts := map[bool]int{}
	for seed := range 60 {
		l := randomCurves(seed, seed%13, 5+seed, []int{5, 100, 10000}[seed%3])
		sums := make([]int, 100001)
		for _, c := range l {
			for at, n := range valuesOf(c) {
				sums[at] += n
			}
		}
		for at, want := range sums {
			if at%97 > 1 && at != 100000 {
				continue
			}
			if sum, ok := impl.SumAt(l, at); sum != want || !ok {
				t.Fatalf("SumAt(%v, %d) = %d, %v", l, at, sum, ok)
			}
		}
		// Curves with about the sum's own pieces lie near to it.
		for _, c := range nearCurves(l) {
			values := valuesOf(c)
			r := relationOf(impl.Curve{}, c, sums, values)
			counts[r.isAbove]++
			if fits, ok := impl.SumFits(l, c); fits == r.isAbove || !ok {
				t.Fatalf("SumFits(%v, %v) = %v, %v", l, c, fits, ok)
			}
		}
	}
	if counts[true] < 100 || counts[false] < 100 {
		t.Errorf("sums that do not fit and others: %v", counts)
	}
}

// nearCurves returns curves around the sum of a list.
func nearCurves(l []impl.Curve) []impl.Curve {
	var sum impl.Curve
	for _, c := range l {
		// A first piece of no length does not count.
		if c.Length == 0 {
			c.First = c.Second
		}
		sum.First += c.First
		sum.Length = max(sum.Length, c.Length)
		sum.Second += c.Second
	}
	var curves []impl.Curve
	for _, length := range []int{0, sum.Length / 2, sum.Length} {
		for _, extra := range []int{0, 1, 20} {
			for _, first := range []int{sum.First, sum.First / 2, max(sum.First, sum.Second), max(sum.First, sum.Second) / 2} {
				curves = append(curves, curve(first, length, sum.Second+extra))
			}
		}
	}
	return curves
}

type curveText struct {
	c    impl.Curve
	text string
	ok   bool
}

func curveTexts() []curveText {
	return []curveText{
		{curve(10, 4, 2), "10/4/2", true},
		{curve(0, 0, 0), "0/0/0", true},
		{curve(5, 0, 7), "5/0/7", true}, // a first piece of no length is kept
		{curve(7, 3, 7), "7/3/7", true},
		{curve(1000, 2000, 3000), "1k/2k/3k", true},
		{curve(1001, 1500, 10), "1001/1500/10", true},
		{curve(100000, 10000, 100000), "100k/10k/100k", true},
		{curve(99999, 9999, 99999), "99999/9999/99999", true},
		{curve(99000, 9000, 1), "99k/9k/1", true},
		{curve(0, 10000, 100000), "0/10k/100k", true},
		{curve(1, 20, 300), "1/20/300", true},
	}
}

// malformedCurves are strings that are no CurveText.
func malformedCurves() []string {
	return []string{
		"", "/", "//", "///", "10", "10/4", "10/4/", "10//2", "/4/2", "10/4/2/", "/10/4/2", "10/4/2/0", "10/4/2/x", "10/4//2",
		" 10/4/2", "10/4/2 ", "10 /4/2", "10/ 4/2", "10/4/2\n", "\t10/4/2", "10 4 2", "10;4;2", "10\\4\\2", "10,4,2", "10:4:2", "10-4-2",
		"1000/4/2", "10/1000/2", "10/4/1000", "2000/2000/2000", "100000/10000/100000", "10/10000/2", // not canonical
		"0k/0/0", "0/0m/0", "0/0/0k", "01/4/2", "10/04/2", "10/4/02", "00/0/0", "10/4/00", "010/4/2",
		"0xa/4/2", "10/0x4/2", "10/4/0x2", "0x0/0x0/0x0",
		"-10/4/2", "10/-4/2", "10/4/-2", "+10/4/2", "10/+4/2", "10/4/-0", "10.0/4/2", "1e1/4/2", "1_0/4/2",
		"100001/4/2", "101k/4/2", "1m/4/2", "10/10001/2", "10/11k/2", "10/1m/2", "10/4/100001", "10/4/101k", "10/4/1m", "1000m/0/0",
		"10/4/18446744073709551618", "18446744073709551626/4/2", "10/18446744073709551620/2",
		"10K/4/2", "1kk/4/2", "k/4/2", "10/k/2", "10/4/k", "a/b/c", "10/4/2k0", "10/4/x",
		"\uff11/4/2", "10/\u0664/2", "10/4/2\x00", "\xff/4/2", "10\u20444/2", "10/4/2\xff",
		strings.Repeat("/", 1000000), strings.Repeat("1/", 1000000), strings.Repeat("9", 1000000) + "/4/2", "10/4/" + strings.Repeat("0", 1000000),
	}
}

func TestCurveText(t *testing.T) {
	for _, c := range append(curveTexts(),
		curveText{curve(100001, 4, 2), "", false},
		curveText{curve(10, 10001, 2), "", false},
		curveText{curve(10, 4, 100001), "", false},
		curveText{curve(-1, 0, 0), "", false},
		curveText{curve(1<<62, 0, 0), "", false},
		curveText{curve(1000000, 0, 0), "", false},
	) {
		if text, ok := impl.CurveText(c.c); text != c.text || ok != c.ok {
			t.Errorf("CurveText(%v) = %q, %v", c.c, text, ok)
		}
	}
}

func TestParseCurve(t *testing.T) {
	for _, c := range curveTexts() {
		if got, ok := impl.ParseCurve(c.text); got != c.c || !ok {
			t.Errorf("ParseCurve(%q) = %v, %v", c.text, got, ok)
		}
	}
	for _, s := range malformedCurves() {
		if got, ok := impl.ParseCurve(s); got != (impl.Curve{}) || ok {
			t.Errorf("ParseCurve(%.40q) = %v, %v", s, got, ok)
		}
	}
}

func TestTextsOfCurvesAreReadBack(t *testing.T) {
	curves := sampleCurves()
	for n := range 10001 {
		curves = append(curves, curve(n, n, 100000-n), curve(10*n, 10000-n, n/10))
	}
	for _, c := range curves {
		text, ok := impl.CurveText(c)
		if back, okBack := impl.ParseCurve(text); back != c || !ok || !okBack {
			t.Fatalf("CurveText(%v) = %q, %v, and ParseCurve of it = %v, %v", c, text, ok, back, okBack)
		}
	}
}

var canonicalCurve = regexp.MustCompile(`\A(0|[1-9][0-9]*k?)/(0|[1-9][0-9]*k?)/(0|[1-9][0-9]*k?)\z`)

// slowCurve reads a CurveText with an expression; the letter m would stand for more than any number of a curve.
func slowCurve(s string) (impl.Curve, bool) {
	parts := canonicalCurve.FindStringSubmatch(s)
	if parts == nil {
		return impl.Curve{}, false
	}
	var numbers []int
	for i, part := range parts[1:] {
		n, ok := slowDecimal(part)
		if !ok || n > []int{100000, 10000, 100000}[i] || strings.HasSuffix(part, "000") || strings.HasSuffix(part, "000k") {
			return impl.Curve{}, false
		}
		numbers = append(numbers, n)
	}
	return curve(numbers[0], numbers[1], numbers[2]), true
}

func checkParse(t *testing.T, s string) {
	t.Helper()
	want, okWant := slowCurve(s)
	if c, ok := impl.ParseCurve(s); c != want || ok != okWant {
		t.Fatalf("ParseCurve(%.40q) = %v, %v", s, c, ok)
	}
}

func TestEveryShortStringIsACurveTextOrRefused(t *testing.T) {
	everyString("01k/", 8, func(s string) { checkParse(t, s) })
	everyString("10m/", 7, func(s string) { checkParse(t, s) })
	everyString("019kx/ ", 5, func(s string) { checkParse(t, s) })
	for _, part := range []string{"0", "1", "10", "100", "999", "1000", "1k", "10k", "11k", "100k", "101k", "10000", "10001", "99999", "100000", "100001", "1m"} {
		for _, other := range []string{"0", "7", "1k", "10000", "100k"} {
			for _, s := range []string{part + "/" + other + "/1", "1/" + part + "/" + other, other + "/1/" + part} {
				checkParse(t, s)
			}
		}
	}
	for b := range 256 {
		letter := string([]byte{byte(b)})
		for _, s := range []string{"1/2/3", "10/0/5k", "1/2", "/"} {
			for i := range len(s) + 1 {
				checkParse(t, s[:i]+letter+s[i:])
			}
		}
	}
	for _, s := range sampleTexts() {
		checkParse(t, s)
	}
}
