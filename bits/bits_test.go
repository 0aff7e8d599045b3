package bits_test

import (
	"math"
	"slices"
	"testing"

	"rialto/bits"
)

// A float by its bits, with the Order and the Class that the chapter asks for.
type place struct {
	name  string
	bits  uint64
	order uint64
	class int
}

// places rise by their order; the edges of each class stand on both sides of nought.
func places() []place {
	return []place{
		{"the first float, a NaN with a minus", 0xFFFFFFFFFFFFFFFF, 0x0000000000000000, 1},
		{"a quiet NaN with a minus and a load", 0xFFF8000000000001, 0x0007FFFFFFFFFFFE, 1},
		{"a quiet NaN with a minus", 0xFFF8000000000000, 0x0007FFFFFFFFFFFF, 1},
		{"a signalling NaN with a minus", 0xFFF0000000000001, 0x000FFFFFFFFFFFFE, 1},
		{"minus infinity", 0xFFF0000000000000, 0x000FFFFFFFFFFFFF, 2},
		{"the greatest number with a minus", 0xFFEFFFFFFFFFFFFF, 0x0010000000000000, 5},
		{"-2", 0xC000000000000000, 0x3FFFFFFFFFFFFFFF, 5},
		{"-1", 0xBFF0000000000000, 0x400FFFFFFFFFFFFF, 5},
		{"the least normal number with a minus", 0x8010000000000000, 0x7FEFFFFFFFFFFFFF, 5},
		{"the greatest number below it with a minus", 0x800FFFFFFFFFFFFF, 0x7FF0000000000000, 4},
		{"the least number with a minus", 0x8000000000000001, 0x7FFFFFFFFFFFFFFE, 4},
		{"nought with a minus", 0x8000000000000000, 0x7FFFFFFFFFFFFFFF, 3},
		{"nought", 0x0000000000000000, 0x8000000000000000, 3},
		{"the least number", 0x0000000000000001, 0x8000000000000001, 4},
		{"the greatest number below the least normal one", 0x000FFFFFFFFFFFFF, 0x800FFFFFFFFFFFFF, 4},
		{"the least normal number", 0x0010000000000000, 0x8010000000000000, 5},
		{"1", 0x3FF0000000000000, 0xBFF0000000000000, 5},
		{"2", 0x4000000000000000, 0xC000000000000000, 5},
		{"the greatest number", 0x7FEFFFFFFFFFFFFF, 0xFFEFFFFFFFFFFFFF, 5},
		{"infinity", 0x7FF0000000000000, 0xFFF0000000000000, 2},
		{"a signalling NaN", 0x7FF0000000000001, 0xFFF0000000000001, 1},
		{"a quiet NaN", 0x7FF8000000000000, 0xFFF8000000000000, 1},
		{"a quiet NaN with a load", 0x7FF8000000000001, 0xFFF8000000000001, 1},
		{"the last float, a NaN", 0x7FFFFFFFFFFFFFFF, 0xFFFFFFFFFFFFFFFF, 1},
	}
}

func (p place) float() float64 { return math.Float64frombits(p.bits) }

// spread tells the bits of floats of both signs and of all exponents, in the order that the chapter asks for.
func spread() []uint64 {
	const minus, tail = 1 << 63, 1<<52 - 1
	var sizes []uint64
	for exponent := range uint64(2048) {
		for _, fraction := range []uint64{0, 1, 2, 0x123456789ABCD, 1 << 51, tail - 1, tail} {
			sizes = append(sizes, exponent<<52|fraction)
		}
	}
	var all []uint64
	for _, size := range slices.Backward(sizes) {
		all = append(all, size|minus)
	}
	return append(all, sizes...)
}

func sign(n int) int { return min(1, max(-1, n)) }

func TestP1_1OrderAndOfAtTheEdges(t *testing.T) {
	for _, p := range places() {
		if got := bits.Order(p.float()); got != p.order {
			t.Errorf("Order of %s: %#x, not %#x", p.name, got, p.order)
		}
		if got := math.Float64bits(bits.Of(p.order)); got != p.bits {
			t.Errorf("Of(%#x), %s: bits %#x, not %#x", p.order, p.name, got, p.bits)
		}
	}
}

func TestP1_1CompareAndSameOfAllPairs(t *testing.T) {
	all := places()
	for i, a := range all {
		for k, b := range all {
			if got, want := bits.Compare(a.float(), b.float()), sign(i-k); got != want {
				t.Errorf("Compare(%s, %s): %d, not %d", a.name, b.name, got, want)
			}
			if got := bits.Same(a.float(), b.float()); got != (i == k) {
				t.Errorf("Same(%s, %s): %v", a.name, b.name, got)
			}
		}
	}
}

func TestP1_1CompareRisesOverTheSpread(t *testing.T) {
	all := spread()
	for i := 1; i < len(all); i++ {
		a, b := math.Float64frombits(all[i-1]), math.Float64frombits(all[i])
		if bits.Compare(a, b) != -1 || bits.Compare(b, a) != 1 || bits.Compare(b, b) != 0 {
			t.Fatalf("%#x doesn't stand ahead of %#x", all[i-1], all[i])
		}
		if bits.Same(a, b) || !bits.Same(b, b) {
			t.Fatalf("Same of %#x and %#x", all[i-1], all[i])
		}
	}
}

func TestP1_2ClassAtTheEdges(t *testing.T) {
	for _, p := range places() {
		if got := bits.Class(p.float()); got != p.class {
			t.Errorf("Class of %s: %d, not %d", p.name, got, p.class)
		}
	}
}

// classByNumbers tells a class by what the number does, not by its bits.
func classByNumbers(f float64) int {
	switch {
	case f != f:
		return 1
	case f > math.MaxFloat64 || f < -math.MaxFloat64:
		return 2
	case f == 0:
		return 3
	case -0x1p-1022 < f && f < 0x1p-1022:
		return 4
	}
	return 5
}

func TestP1_2ClassOverTheSpread(t *testing.T) {
	for _, n := range spread() {
		f := math.Float64frombits(n)
		if got, want := bits.Class(f), classByNumbers(f); got != want {
			t.Fatalf("Class of %#x: %d, not %d", n, got, want)
		}
	}
}

func TestP1_3NextAtTheEdges(t *testing.T) {
	const minus = 1 << 63
	for _, c := range []struct {
		name     string
		from, to uint64
	}{
		{"the first float", math.MaxUint64, math.MaxUint64 - 1},
		{"the last NaN with a minus", 0xFFF0000000000001, 0xFFF0000000000000},
		{"minus infinity", 0xFFF0000000000000, 0xFFEFFFFFFFFFFFFF},
		{"-1", minus | 0x3FF0000000000000, minus | 0x3FEFFFFFFFFFFFFF},
		{"the least normal number with a minus", minus | 1<<52, minus | (1<<52 - 1)},
		{"the least number with a minus", minus | 1, minus},
		{"nought with a minus", minus, 0},
		{"nought", 0, 1},
		{"the greatest number below the least normal one", 1<<52 - 1, 1 << 52},
		{"1", 0x3FF0000000000000, 0x3FF0000000000001},
		{"the greatest number", 0x7FEFFFFFFFFFFFFF, 0x7FF0000000000000},
		{"infinity", 0x7FF0000000000000, 0x7FF0000000000001},
		{"the last but one", math.MaxInt64 - 1, math.MaxInt64},
	} {
		got, ok := bits.Next(math.Float64frombits(c.from))
		if math.Float64bits(got) != c.to || !ok {
			t.Errorf("Next of %s: %#x, %v, not %#x", c.name, math.Float64bits(got), ok, c.to)
		}
	}
}

func TestP1_3NextOfTheLastIsItself(t *testing.T) {
	last := math.Float64frombits(math.MaxInt64)
	if got, ok := bits.Next(last); math.Float64bits(got) != math.MaxInt64 || ok {
		t.Errorf("Next of the last float: %#x, %v", math.Float64bits(got), ok)
	}
}

func TestP1_3NextIsOneFurtherOverTheSpread(t *testing.T) {
	for _, n := range spread() {
		if n == math.MaxInt64 {
			continue
		}
		f := math.Float64frombits(n)
		got, ok := bits.Next(f)
		if bits.Order(got) != bits.Order(f)+1 || !ok {
			t.Fatalf("Next of %#x: %#x, %v", n, math.Float64bits(got), ok)
		}
		if inNumbers(f) && f != 0 && got != math.Nextafter(f, math.Inf(1)) {
			t.Fatalf("Next of %#x isn't the next number: %#x", n, math.Float64bits(got))
		}
	}
}

// inNumbers tells whether f is neither a NaN nor an infinity.
func inNumbers(f float64) bool { return f-f == 0 }

func TestP1_3Least(t *testing.T) {
	inf, nan, minus := math.Inf(1), math.NaN(), math.Copysign(0, -1)
	first := math.Float64frombits(math.MaxUint64)
	quiet := math.Float64frombits(0x7FF8000000000000)
	loaded := math.Float64frombits(0x7FF8000000000001)
	for _, c := range []struct {
		name string
		list []float64
		want float64
	}{
		{"one", []float64{7}, 7},
		{"one nought with a minus", []float64{minus}, minus},
		{"the least ahead", []float64{-3, 2, 9}, -3},
		{"the least in the middle", []float64{2, -3, 9}, -3},
		{"the least behind", []float64{9, 2, -3}, -3},
		{"the same twice", []float64{4, 1, 1, 4}, 1},
		{"noughts", []float64{3, 0, minus, 2}, minus},
		{"noughts the other way", []float64{minus, 0}, minus},
		{"a NaN ahead of an infinity", []float64{nan, inf}, inf},
		{"a NaN with a minus is ahead of all", []float64{-inf, nan, first, 0}, first},
		{"NaNs by their bits", []float64{loaded, quiet, loaded}, quiet},
		{"an infinity with a minus", []float64{-math.MaxFloat64, -inf, inf}, -inf},
		{"numbers below the least normal one", []float64{0x1p-1022, 0x1p-1074, 0x1p-1073}, 0x1p-1074},
	} {
		got, ok := bits.Least(c.list)
		if math.Float64bits(got) != math.Float64bits(c.want) || !ok {
			t.Errorf("Least of %s: %v, %v, not %v", c.name, got, ok, c.want)
		}
	}
}

func TestP1_3LeastOfNone(t *testing.T) {
	for _, list := range [][]float64{nil, {}, make([]float64, 0, 4), []float64{-1, -2}[:0]} {
		if got, ok := bits.Least(list); math.Float64bits(got) != 0 || ok {
			t.Errorf("Least of none: %v, %v", got, ok)
		}
	}
}

func TestP1_3LeastReadsTheListAlone(t *testing.T) {
	all := []float64{5, 3, 4, -9, -8}
	got, ok := bits.Least(all[:3])
	if got != 3 || !ok {
		t.Errorf("Least: %v, %v", got, ok)
	}
	if !slices.Equal(all, []float64{5, 3, 4, -9, -8}) {
		t.Errorf("Least changed what it was handed: %v", all)
	}
}

func TestP1_4OrderAndOfGoToAndFro(t *testing.T) {
	for _, n := range spread() {
		if got := math.Float64bits(bits.Of(bits.Order(math.Float64frombits(n)))); got != n {
			t.Fatalf("Of(Order) of %#x: %#x", n, got)
		}
		if got := bits.Order(bits.Of(n)); got != n {
			t.Fatalf("Order(Of(%#x)): %#x", n, got)
		}
	}
}

func TestP1_4OrderIsThatOfNumbers(t *testing.T) {
	var numbers []float64
	for i, n := range spread() {
		f := math.Float64frombits(n)
		if i%23 == 0 && f == f && f != 0 {
			numbers = append(numbers, f)
		}
	}
	numbers = append(numbers, math.Inf(1), math.Inf(-1), 1, -1, math.MaxFloat64, -math.MaxFloat64, 0x1p-1074, -0x1p-1074)
	for _, a := range numbers {
		for _, b := range numbers {
			if (bits.Order(a) < bits.Order(b)) != (a < b) || (bits.Compare(a, b) < 0) != (a < b) {
				t.Fatalf("the order of %v and %v isn't that of <", a, b)
			}
			if (bits.Compare(a, b) == 0) != (a == b) || bits.Same(a, b) != (a == b) {
				t.Fatalf("%v and %v: Compare %d, Same %v", a, b, bits.Compare(a, b), bits.Same(a, b))
			}
		}
	}
}

func TestExamples(t *testing.T) {
	if got := bits.Order(1); got != 0xBFF0000000000000 {
		t.Errorf("Order(1): %#x", got)
	}
	if got := bits.Compare(math.Copysign(0, -1), 0); got != -1 {
		t.Errorf("Compare(-0, 0): %d", got)
	}
}
