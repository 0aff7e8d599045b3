// Package sample: values by short names, and floats that only their bits tell apart, for the tests of all layers.
package sample

import (
	"math"
	"slices"

	"rialto/api"
)

// Int tells the Int n.
func Int(n int64) api.Value { return api.Value{Kind: api.Int, Int: n} }

// Bool tells the Bool n; beyond 0 and 1 it is no value.
func Bool(n int64) api.Value { return api.Value{Kind: api.Bool, Int: n} }

// Str tells the Str s.
func Str(s string) api.Value { return api.Value{Kind: api.Str, Str: s} }

// Bytes tells the Bytes s.
func Bytes(s string) api.Value { return api.Value{Kind: api.Bytes, Str: s} }

// Float tells the Float f.
func Float(f float64) api.Value { return api.Value{Kind: api.Float, F: f} }

// MinusNought is == 0, and other bits.
func MinusNought() float64 { return math.Copysign(0, -1) }

// FirstNaN stands ahead of all floats.
func FirstNaN() float64 { return math.Float64frombits(0xFFFFFFFFFFFFFFFF) }

// MinusNaN stands ahead of all numbers.
func MinusNaN() float64 { return math.Float64frombits(0xFFF8000000000000) }

// SignalNaN stands right behind infinity.
func SignalNaN() float64 { return math.Float64frombits(0x7FF0000000000001) }

// QuietNaN is the NaN that a calculation makes.
func QuietNaN() float64 { return math.Float64frombits(0x7FF8000000000000) }

// LoadedNaN is a quiet one with another bit set.
func LoadedNaN() float64 { return math.Float64frombits(0x7FF8000000000001) }

// LastNaN stands behind all floats.
func LastNaN() float64 { return math.Float64frombits(0x7FFFFFFFFFFFFFFF) }

// Alike holds two values against each other field by field, floats by their bits.
func Alike(a, b api.Value) bool {
	return a.Kind == b.Kind && a.Int == b.Int && a.Str == b.Str && math.Float64bits(a.F) == math.Float64bits(b.F)
}

// RowsAlike holds two rows against each other value by value.
func RowsAlike(a, b []api.Value) bool {
	return slices.EqualFunc(a, b, Alike)
}
