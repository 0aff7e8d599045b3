// Package sample: values by short names, and floats that only their bits tell apart, for the tests of all layers.
package sample

import (
	"math"
	"slices"
	"strings"

	"rialto/api"
)

// Int tells the Int n.
func Int(n int64) api.Value { return api.Value{Kind: api.Int, Int: n} }

// Bool tells the Bool n; beyond 0 and 1 it is no value.
func Bool(n int64) api.Value { return api.Value{Kind: api.Bool, Int: n} }

// Str tells the Str s.
func Str(s string) api.Value { return api.Value{Kind: api.Str, Str: s} }

// Bytes tells the Bytes s.
func Bytes(s string) api.Value { return api.Value{Kind: api.Bytes, Str: s} }

// Float tells the Float f.
func Float(f float64) api.Value { return api.Value{Kind: api.Float, F: f} }

// MinusNought is == 0, and other bits.
func MinusNought() float64 { return math.Copysign(0, -1) }

// FirstNaN stands ahead of all floats.
func FirstNaN() float64 { return math.Float64frombits(0xFFFFFFFFFFFFFFFF) }

// MinusNaN stands ahead of all numbers.
func MinusNaN() float64 { return math.Float64frombits(0xFFF8000000000000) }

// SignalNaN stands right behind infinity.
func SignalNaN() float64 { return math.Float64frombits(0x7FF0000000000001) }

// QuietNaN is the NaN that a calculation makes.
func QuietNaN() float64 { return math.Float64frombits(0x7FF8000000000000) }

// LoadedNaN is a quiet one with another bit set.
func LoadedNaN() float64 { return math.Float64frombits(0x7FF8000000000001) }

// LastNaN stands behind all floats.
func LastNaN() float64 { return math.Float64frombits(0x7FFFFFFFFFFFFFFF) }

// Alike holds two values against each other field by field, floats by their bits.
func Alike(a, b api.Value) bool {
	return a.Kind == b.Kind && a.Int == b.Int && a.Str == b.Str && math.Float64bits(a.F) == math.Float64bits(b.F)
}

// RowsAlike holds two rows against each other value by value.
func RowsAlike(a, b []api.Value) bool {
	return slices.EqualFunc(a, b, Alike)
}

// risingStrings stand byte by byte, a shorter one ahead of one that begins like it.
func risingStrings() []string {
	return []string{
		"", "\x00", "\x00\x00", "\x00\x00\x01", "\x00\x01", "\x00\xFF", "\x00\xFF\x00",
		"\x01\x00", strings.Repeat("\x01", 60), "\x02",
		"a", "a\x00", "a\x00\x00", "a\x00\x01", "a\x00b", "a\x00\xFF", "a\x01", "a\x01\x00", "aa", "ab", "a\xFE", "a\xFF", "a\xFF\x00", "a\xFF\xFF",
		"b", strings.Repeat("x", 59), strings.Repeat("x", 60), "\u00E9", "\xFE", "\xFF", "\xFF\x00", "\xFF\x00\xFF", "\xFF\x01", "\xFF\xFF",
	}
}

// Rising tells values of all kinds, the edges of each among them, as they stand.
func Rising() []api.Value {
	var l []api.Value
	for _, n := range []int64{math.MinInt64, math.MinInt64 + 1, -1 << 32, -257, -256, -1, 0, 1, 255, 256, 1 << 32, math.MaxInt64 - 1, math.MaxInt64} {
		l = append(l, Int(n))
	}
	l = append(l, Bool(0), Bool(1))
	for _, s := range risingStrings() {
		l = append(l, Str(s))
	}
	for _, s := range risingStrings() {
		l = append(l, Bytes(s))
	}
	for _, f := range []float64{
		FirstNaN(), MinusNaN(), math.Inf(-1), -math.MaxFloat64, -1, -math.SmallestNonzeroFloat64, MinusNought(),
		0, math.SmallestNonzeroFloat64, 1, 1.5, math.MaxFloat64, math.Inf(1), SignalNaN(), QuietNaN(), LastNaN(),
	} {
		l = append(l, Float(f))
	}
	return l
}

// NoValues are what is none, by each of the reasons.
func NoValues() []api.Value {
	return []api.Value{
		{},
		{Kind: -1},
		{Kind: api.Float + 1},
		{Kind: 256 + api.Int},
		{Kind: math.MinInt},
		{Kind: api.Int, Str: "a"},
		{Kind: api.Int, F: MinusNought()},
		Bool(-1),
		Bool(2),
		Bool(257),
		{Kind: api.Bool, Str: "a"},
		{Kind: api.Bool, Int: 1, F: 1},
		{Kind: api.Str, Int: 1},
		{Kind: api.Str, F: QuietNaN()},
		Str(strings.Repeat("x", 61)),
		Bytes(strings.Repeat("\x00", 61)),
		{Kind: api.Bytes, Int: -1},
		{Kind: api.Bytes, F: MinusNought()},
		{Kind: api.Float, Int: 1},
		{Kind: api.Float, Str: "a"},
	}
}
