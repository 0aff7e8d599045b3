package value_test

import (
	"encoding/binary"
	"hash/fnv"
	"math"
	"slices"
	"strings"
	"testing"

	"rialto/api"
	"rialto/sample"
	"rialto/value"
)

// oddFloats are those that are 0 by == or nothing by ==, and the ends.
func oddFloats() []float64 {
	return []float64{sample.MinusNought(), sample.FirstNaN(), sample.MinusNaN(), sample.SignalNaN(), sample.QuietNaN(), sample.LoadedNaN(), sample.LastNaN(),
		math.Inf(1), math.Inf(-1), math.SmallestNonzeroFloat64, -math.SmallestNonzeroFloat64, math.MaxFloat64, 1, -1}
}

// rising tells values of all kinds, and what is none, in the order that the chapter asks for.
func rising() []api.Value {
	return []api.Value{
		{Kind: math.MinInt},
		{Kind: -1},
		{Kind: -1, F: 1},
		{},
		{F: sample.QuietNaN()},
		{Str: "a"},
		{Int: 1},
		sample.Int(math.MinInt64),
		sample.Int(-3),
		sample.Int(-1),
		{Kind: api.Int, F: sample.MinusNought()},
		sample.Int(0),
		{Kind: api.Int, Str: "a", F: -1},
		{Kind: api.Int, Str: "a"},
		sample.Int(1),
		sample.Int(math.MaxInt64),
		sample.Bool(-1),
		sample.Bool(0),
		sample.Bool(1),
		sample.Bool(2),
		{Kind: api.Str, Int: -1, Str: "z"},
		sample.Str(""),
		sample.Str("\x00"),
		sample.Str("\x00\x00"),
		sample.Str("\x01"),
		sample.Str("A"),
		sample.Str("a"),
		sample.Str("a\x00"),
		sample.Str("aa"),
		sample.Str("ab"),
		sample.Str("b"),
		sample.Str(strings.Repeat("x", 60)),
		sample.Str(strings.Repeat("x", 61)),
		sample.Str("\x7F"),
		sample.Str("\x80"),
		sample.Str("\u00E9"),
		sample.Str("\u20AC"),
		sample.Str("\xFF"),
		sample.Str("\xFF\x00"),
		{Kind: api.Str, Int: 1},
		sample.Bytes(""),
		sample.Bytes("a"),
		sample.Bytes("\xFF\xFF"),
		{Kind: api.Float, Int: -1, F: sample.LastNaN()},
		sample.Float(sample.FirstNaN()),
		sample.Float(sample.MinusNaN()),
		sample.Float(math.Inf(-1)),
		sample.Float(-math.MaxFloat64),
		sample.Float(-1),
		sample.Float(-math.SmallestNonzeroFloat64),
		sample.Float(sample.MinusNought()),
		sample.Float(0),
		sample.Float(math.SmallestNonzeroFloat64),
		sample.Float(1),
		sample.Float(math.MaxFloat64),
		sample.Float(math.Inf(1)),
		sample.Float(sample.SignalNaN()),
		sample.Float(sample.QuietNaN()),
		sample.Float(sample.LoadedNaN()),
		sample.Float(sample.LastNaN()),
		{Kind: api.Float, Str: "a", F: sample.FirstNaN()},
		{Kind: api.Float + 1},
		{Kind: 256 + api.Int},
		{Kind: math.MaxInt},
	}
}

func sign(n int) int { return min(1, max(-1, n)) }

// twin tells a value like v whose string lies elsewhere.
func twin(v api.Value) api.Value {
	v.Str = strings.Clone(v.Str)
	return v
}

func twins(l []api.Value) []api.Value {
	var all []api.Value
	for _, v := range l {
		all = append(all, twin(v))
	}
	return all
}

func TestP2_1ValuesOfEachKind(t *testing.T) {
	for _, v := range []api.Value{
		sample.Int(0), sample.Int(1), sample.Int(-1), sample.Int(math.MinInt64), sample.Int(math.MaxInt64),
		sample.Bool(0), sample.Bool(1),
		sample.Str(""), sample.Str("a"), sample.Str("\x00"), sample.Str("\xFF\xFE"), sample.Str(strings.Repeat("x", 59)), sample.Str(strings.Repeat("x", 60)),
		sample.Str(strings.Repeat("\u20AC", 20)),
		sample.Bytes(""), sample.Bytes("a"), sample.Bytes("\x00"), sample.Bytes("\xFF\xFE"), sample.Bytes(strings.Repeat("\x00", 60)),
		sample.Float(0), sample.Float(2.5),
	} {
		if !value.Is(v) {
			t.Errorf("%#v is a value", v)
		}
	}
	for _, f := range oddFloats() {
		if !value.Is(sample.Float(f)) {
			t.Errorf("a Float with the bits %#x is a value", math.Float64bits(f))
		}
	}
}

func TestP2_1NoValues(t *testing.T) {
	for _, v := range []api.Value{
		{Kind: api.Int, Str: "a"}, {Kind: api.Int, Int: 1, Str: "\x00"},
		sample.Bool(2), sample.Bool(-1), sample.Bool(256), sample.Bool(math.MinInt64), sample.Bool(math.MaxInt64),
		{Kind: api.Bool, Str: "a"}, {Kind: api.Bool, Int: 1, Str: "a"},
		sample.Str(strings.Repeat("x", 61)), sample.Str(strings.Repeat("\u20AC", 20) + "x"), sample.Str(strings.Repeat("x", 1000)),
		{Kind: api.Str, Int: 1}, {Kind: api.Str, Int: -1, Str: "a"},
		sample.Bytes(strings.Repeat("x", 61)), sample.Bytes(strings.Repeat("\x00", 61)),
		{Kind: api.Bytes, Int: 1}, {Kind: api.Bytes, Int: -1, Str: "a"},
		{Kind: api.Float, Int: 1}, {Kind: api.Float, Int: -1, F: 1}, {Kind: api.Float, Str: "a"}, {Kind: api.Float, Str: "\x00", F: sample.QuietNaN()},
	} {
		if value.Is(v) {
			t.Errorf("%#v is no value", v)
		}
	}
}

func TestP2_1NoValueButAFloatHasAFloat(t *testing.T) {
	for _, v := range []api.Value{sample.Int(0), sample.Int(7), sample.Bool(0), sample.Bool(1), sample.Str(""), sample.Str("a"), sample.Bytes(""), sample.Bytes("a")} {
		for _, f := range oddFloats() {
			v.F = f
			if value.Is(v) {
				t.Errorf("%#v with the bits %#x is no value", v, math.Float64bits(f))
			}
		}
	}
}

func TestP2_1NoKinds(t *testing.T) {
	for _, kind := range []int{0, -1, 6, 7, 256 + api.Int, 1<<32 + api.Str, -api.Float, math.MinInt, math.MaxInt} {
		for _, v := range []api.Value{{}, {Int: 1}, {Str: "a"}, {F: 1}} {
			v.Kind = kind
			if value.Is(v) {
				t.Errorf("%#v is no value", v)
			}
		}
	}
}

func TestP2_2CompareAndSameOfAllPairs(t *testing.T) {
	all := rising()
	for i, a := range all {
		for k, b := range twins(all) {
			if got, want := value.Compare(a, b), sign(i-k); got != want {
				t.Errorf("Compare(%#v, %#v): %d, not %d", a, b, got, want)
			}
			if got := value.Same(a, b); got != (i == k) {
				t.Errorf("Same(%#v, %#v): %v", a, b, got)
			}
			if got, want := value.Rows([]api.Value{a}, []api.Value{b}), sign(i-k); got != want {
				t.Errorf("Rows(%#v, %#v): %d, not %d", a, b, got, want)
			}
		}
	}
}

func TestP2_2CompareGoesByFieldsInTurn(t *testing.T) {
	for _, c := range []struct {
		name string
		a, b api.Value
	}{
		{"Kind ahead of Int", api.Value{Kind: 1, Int: 9}, api.Value{Kind: 2, Int: 0}},
		{"Kind ahead of Str", api.Value{Kind: 3, Str: "b"}, api.Value{Kind: 4, Str: "a"}},
		{"Kind ahead of F", api.Value{Kind: 5, F: 2}, api.Value{Kind: 6, F: 1}},
		{"Int ahead of Str", api.Value{Kind: 3, Int: 1, Str: "b"}, api.Value{Kind: 3, Int: 2, Str: "a"}},
		{"Int ahead of F", api.Value{Kind: 5, Int: 1, F: 2}, api.Value{Kind: 5, Int: 2, F: 1}},
		{"Str ahead of F", api.Value{Kind: 5, Str: "a", F: 2}, api.Value{Kind: 5, Str: "b", F: 1}},
		{"a shorter Str ahead of F", api.Value{Kind: 5, Str: "a", F: 2}, api.Value{Kind: 5, Str: "ab", F: 1}},
	} {
		if value.Compare(c.a, c.b) != -1 || value.Compare(c.b, c.a) != 1 || value.Same(c.a, c.b) {
			t.Errorf("%s: %d, %d", c.name, value.Compare(c.a, c.b), value.Compare(c.b, c.a))
		}
	}
}

// rowsRising tells rows in the order that the chapter asks for.
func rowsRising() [][]api.Value {
	a, b, nan := sample.Int(1), sample.Int(2), sample.Float(sample.QuietNaN())
	return [][]api.Value{
		nil,
		{{}},
		{{}, {}},
		{{}, nan},
		{a},
		{a, a},
		{a, a, a},
		{a, a, b},
		{a, b},
		{a, b, a},
		{a, sample.Float(sample.MinusNought())},
		{a, sample.Float(0)},
		{a, nan},
		{a, nan, a},
		{a, sample.Float(sample.LoadedNaN())},
		{b},
		{b, a},
		{sample.Str("a")},
		{sample.Str("a"), sample.Str("b")},
		{sample.Str("ab")},
		{sample.Str("b")},
		{nan, a},
		{nan, b},
	}
}

func TestP2_2RowsOfAllPairs(t *testing.T) {
	all := rowsRising()
	for i, a := range all {
		for k, b := range all {
			if got, want := value.Rows(a, twins(b)), sign(i-k); got != want {
				t.Errorf("Rows(%#v, %#v): %d, not %d", a, b, got, want)
			}
		}
	}
}

func TestP2_2RowsOfNone(t *testing.T) {
	none := [][]api.Value{nil, {}, make([]api.Value, 0, 3), []api.Value{sample.Int(1)}[:0]}
	for _, a := range none {
		for _, b := range none {
			if got := value.Rows(a, b); got != 0 {
				t.Errorf("Rows of none: %d", got)
			}
		}
		if value.Rows(a, []api.Value{{Kind: -1}}) != -1 || value.Rows([]api.Value{{Kind: -1}}, a) != 1 {
			t.Error("a row of none stands ahead of one with something")
		}
	}
}

// hashOf tells the Hash by the library's FNV-1a over the bytes that the chapter lists.
func hashOf(l []api.Value) uint64 {
	h := fnv.New64a()
	for _, v := range l {
		b := []byte{byte(v.Kind)}
		b = binary.LittleEndian.AppendUint64(b, uint64(v.Int))
		b = binary.LittleEndian.AppendUint64(b, uint64(len(v.Str)))
		b = append(b, v.Str...)
		place := math.Float64bits(v.F)
		if place>>63 == 0 {
			place |= 1 << 63
		} else {
			place = ^place
		}
		h.Write(binary.LittleEndian.AppendUint64(b, place))
	}
	return h.Sum64()
}

func TestP2_3HashOfEachValue(t *testing.T) {
	for _, v := range rising() {
		l := []api.Value{v}
		if got, want := value.Hash(l), hashOf(l); got != want {
			t.Errorf("Hash(%#v): %d, not %d", v, got, want)
		}
	}
	for _, n := range []int64{0x0102030405060708, -0x0102030405060708, 1 << 56, 255, 256} {
		l := []api.Value{sample.Int(n), sample.Float(math.Float64frombits(uint64(n)))}
		if got, want := value.Hash(l), hashOf(l); got != want {
			t.Errorf("Hash with %#x: %d, not %d", n, got, want)
		}
	}
}

func TestP2_3HashOfRows(t *testing.T) {
	for _, l := range rowsRising() {
		if got, want := value.Hash(l), hashOf(l); got != want {
			t.Errorf("Hash(%#v): %d, not %d", l, got, want)
		}
	}
	all := rising()
	if got, want := value.Hash(all), hashOf(all); got != want {
		t.Errorf("Hash of all: %d, not %d", got, want)
	}
	slices.Reverse(all)
	if got, want := value.Hash(all), hashOf(all); got != want {
		t.Errorf("Hash of all, turned round: %d, not %d", got, want)
	}
}

func TestP2_3HashOfNone(t *testing.T) {
	for _, l := range [][]api.Value{nil, {}, make([]api.Value, 0, 3), []api.Value{sample.Int(1)}[:0]} {
		if got := value.Hash(l); got != 14695981039346656037 {
			t.Errorf("Hash of none: %d", got)
		}
	}
}

func TestP2_3HashTakesTheKindModulo256(t *testing.T) {
	for _, c := range []struct{ a, b int }{{1, 257}, {0, 256}, {-1, 255}, {math.MinInt, 0}, {math.MaxInt, 255}} {
		if value.Hash([]api.Value{{Kind: c.a}}) != value.Hash([]api.Value{{Kind: c.b}}) {
			t.Errorf("Hash of the kinds %d and %d", c.a, c.b)
		}
	}
}

func TestP2_3HashTellsRowsApart(t *testing.T) {
	seen := map[uint64]int{}
	rows := append(rowsRising(),
		[]api.Value{sample.Str("ab"), sample.Str("c")}, []api.Value{sample.Str("a"), sample.Str("bc")},
		[]api.Value{sample.Str("abc"), sample.Str("")}, []api.Value{sample.Bytes("ab"), sample.Str("c")})
	for i, l := range rows {
		h := value.Hash(l)
		if k, ok := seen[h]; ok {
			t.Errorf("Hash of %#v and of %#v: %d", rows[k], l, h)
		}
		seen[h] = i
	}
}

func TestP2_3Zero(t *testing.T) {
	for kind := api.Int; kind <= api.Float; kind++ {
		got, e := value.Zero(kind)
		if !sample.Alike(got, api.Value{Kind: kind}) || e != api.OK || !value.Is(got) {
			t.Errorf("Zero(%d): %#v, %d", kind, got, e)
		}
	}
}

func TestP2_3ZeroOfNoKind(t *testing.T) {
	for _, kind := range []int{0, -1, 6, 7, 256 + api.Int, 1<<32 + api.Str, -api.Float, math.MinInt, math.MaxInt} {
		got, e := value.Zero(kind)
		if !sample.Alike(got, api.Value{}) || e != api.ErrValue {
			t.Errorf("Zero(%d): %#v, %d", kind, got, e)
		}
	}
	if api.ErrValue != 10 {
		t.Errorf("ErrValue: %d", api.ErrValue)
	}
}

func TestP2_4CompareIsAnOrder(t *testing.T) {
	all := rising()
	for _, a := range all {
		if value.Compare(a, twin(a)) != 0 {
			t.Fatalf("%#v isn't the same as itself", a)
		}
		for _, b := range all {
			ab := value.Compare(a, b)
			if value.Compare(b, a) != -ab || (ab == 0) != sample.Alike(a, b) {
				t.Fatalf("%#v and %#v: %d, %d", a, b, ab, value.Compare(b, a))
			}
			for _, c := range all {
				if ab <= 0 && value.Compare(b, c) <= 0 && value.Compare(a, c) > 0 {
					t.Fatalf("%#v, %#v, %#v: no order", a, b, c)
				}
			}
		}
	}
}

func TestP2_4SortingTellsOneOrder(t *testing.T) {
	want := rising()
	for step := 1; step < len(want); step += 7 {
		got := slices.Clone(want)
		slices.Reverse(got[:step])
		slices.Reverse(got)
		slices.SortFunc(got, value.Compare)
		if !sample.RowsAlike(got, want) {
			t.Fatalf("sorted, begun at %d: %#v", step, got)
		}
	}
}

func TestP2_4TheSameHasOneHash(t *testing.T) {
	rows := rowsRising()
	for _, v := range rising() {
		rows = append(rows, []api.Value{v}, []api.Value{sample.Int(1), v})
	}
	for _, a := range rows {
		for _, b := range rows {
			if value.Rows(a, b) == 0 && value.Hash(a) != value.Hash(twins(b)) {
				t.Fatalf("%#v and %#v are the same, but not their Hash", a, b)
			}
		}
	}
}

func TestListsAreReadAlone(t *testing.T) {
	all := rising()
	a, b := all[10:14], all[10:15]
	if value.Rows(a, b) != -1 || value.Rows(b, a) != 1 || value.Rows(a, b[:4]) != 0 {
		t.Error("Rows reads the room behind a list")
	}
	if value.Hash(a) != hashOf(slices.Clone(a)) {
		t.Error("Hash reads the room behind a list")
	}
	if !sample.RowsAlike(all, rising()) {
		t.Error("a list that was handed in is changed")
	}
}

func TestExamples(t *testing.T) {
	if got := value.Compare(sample.Int(5), sample.Bool(0)); got != -1 {
		t.Errorf("Compare(Int 5, Bool 0): %d", got)
	}
}
