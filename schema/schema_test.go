package schema_test

import (
	"errors"
	"math"
	"slices"
	"strconv"
	"strings"
	"testing"
	"unsafe"

	"rialto/api"
	"rialto/sample"
	"rialto/schema"
	"rialto/value"
)

// shape has a field of each kind, one Str last.
func shape() []api.Field {
	return []api.Field{
		{Name: "id", Kind: api.Int}, {Name: "on", Kind: api.Bool}, {Name: "raw", Kind: api.Bytes}, {Name: "weight", Kind: api.Float}, {Name: "name", Kind: api.Str},
	}
}

// record is of the shape.
func record() []api.Value {
	return []api.Value{sample.Int(5), sample.Bool(1), sample.Bytes("\x00"), sample.Float(1.5), sample.Str("a")}
}

// kinds are what a field's Kind may be.
func kinds() []int {
	return []int{api.Int, api.Bool, api.Str, api.Bytes, api.Float}
}

// many tells n fields with names that are unlike.
func many(n int) []api.Field {
	var s []api.Field
	for i := range n {
		s = append(s, api.Field{Name: "f" + strconv.Itoa(i), Kind: kinds()[i%5]})
	}
	return s
}

// zeros tells a record of the shape s.
func zeros(s []api.Field) []api.Value {
	var l []api.Value
	for _, f := range s {
		l = append(l, api.Value{Kind: f.Kind})
	}
	return l
}

// goodNames are names, from one byte to twenty.
func goodNames() []string {
	return []string{
		"a", "z", "m", "0", "9", "5", "_", "__", "0_z", "_0", "00", "id", "a1_", "abcdefghijklmnopqrst", "uvwxyz_0123456789_ab",
		strings.Repeat("a", 19), strings.Repeat("_", 20), strings.Repeat("7", 20),
	}
}

// badNames are none, by each of the reasons, and the wrong byte at each place.
func badNames() []string {
	l := []string{
		"", strings.Repeat("a", 21), strings.Repeat("0", 21), strings.Repeat("_", 1000), strings.Repeat("A", 20), strings.Repeat("a", 256), strings.Repeat("a", 257),
		"A", "Z", "id ", " id", "i d", "Id", "iD", "\u00E9", "na\u00EFve", "\u0661", "\uFF41", "a-b", "a.b", "a\x00", "\x00", "\n", "`", "{", "/", ":", "@", "[", "^", "\xFF", "\x80", "-1",
	}
	for i := range 20 {
		name := []byte(strings.Repeat("a", 20))
		name[i] = 'A'
		l = append(l, string(name))
	}
	return l
}

// isShape asks Is, and Check and Def, which must hold s for a shape just as Is does.
func isShape(t *testing.T, s []api.Field, want bool) {
	t.Helper()
	if got := schema.Is(s); got != want {
		t.Errorf("Is(%#v) tells %v", s, got)
	}
	wanted := api.ErrSchema
	if want {
		wanted = api.OK
	}
	if e := schema.Check(s, zeros(s)); e != wanted {
		t.Errorf("Check(%#v, its zeros) tells %d", s, e)
	}
	if e := schema.Def(s, api.Def{Name: "x", Kind: api.Seq, Compare: -1}, api.Hooks{}); e != wanted {
		t.Errorf("Def(%#v, a sequence) tells %d", s, e)
	}
}

func TestP5_1Names(t *testing.T) {
	for _, name := range goodNames() {
		isShape(t, []api.Field{{Name: name, Kind: api.Int}}, true)
	}
	for _, name := range badNames() {
		isShape(t, []api.Field{{Name: name, Kind: api.Int}}, false)
		isShape(t, []api.Field{{Name: "b", Kind: api.Int}, {Name: name, Kind: api.Str}}, false)
		isShape(t, []api.Field{{Name: name, Kind: api.Float}, {Name: "b", Kind: api.Int}}, false)
	}
}

func TestP5_1EachByteOfAName(t *testing.T) {
	const signs = "abcdefghijklmnopqrstuvwxyz0123456789_"
	for c := range 256 {
		b := string([]byte{byte(c)})
		for _, name := range []string{b, b + "a", "a" + b, "a" + b + "a", strings.Repeat("a", 19) + b, b + strings.Repeat("a", 19)} {
			isShape(t, []api.Field{{Name: name, Kind: api.Bool}}, strings.Contains(signs, b))
		}
	}
}

func TestP5_1LengthsOfANameAndOfAShape(t *testing.T) {
	for n := range 40 {
		isShape(t, []api.Field{{Name: strings.Repeat("x", n), Kind: api.Int}}, n >= 1 && n <= 20)
	}
	for n := range 20 {
		isShape(t, many(n), n >= 1 && n <= 8)
	}
	isShape(t, nil, false)
	isShape(t, []api.Field{}, false)
	isShape(t, many(257), false)
	isShape(t, many(264), false)
}

func TestP5_1TwoFieldsOfOneName(t *testing.T) {
	for i := range 8 {
		for j := range i {
			s := many(8)
			s[i].Name = s[j].Name
			isShape(t, s, false)
		}
	}
	isShape(t, []api.Field{{Name: "a", Kind: api.Int}, {Name: "a", Kind: api.Int}}, false)
	isShape(t, []api.Field{{Name: "a", Kind: api.Int}, {Name: "a", Kind: api.Str}}, false)
	isShape(t, []api.Field{{Name: "a", Kind: api.Int}, {Name: "aa", Kind: api.Int}, {Name: "b", Kind: api.Int}}, true)
}

func TestP5_1Kinds(t *testing.T) {
	for _, kind := range []int{math.MinInt, -256, -5, -1, 0, 6, 7, 8, 255, 256, 257, 1<<32 + 1, math.MaxInt} {
		isShape(t, []api.Field{{Name: "a", Kind: kind}}, false)
		for i := range 8 {
			s := many(8)
			s[i].Kind = kind
			isShape(t, s, false)
		}
	}
	for _, kind := range kinds() {
		isShape(t, []api.Field{{Name: "a", Kind: kind}}, true)
		isShape(t, []api.Field{{Name: "a", Kind: kind}, {Name: "b", Kind: kind}}, true)
	}
}

func TestP5_1CheckOfEachKind(t *testing.T) {
	for _, kind := range kinds() {
		s := []api.Field{{Name: "a", Kind: kind}}
		for _, v := range sample.Rising() {
			want := api.ErrShape
			if v.Kind == kind {
				want = api.OK
			}
			if e := schema.Check(s, []api.Value{v}); e != want {
				t.Errorf("Check(a field of kind %d, %#v) tells %d", kind, v, e)
			}
		}
		for _, v := range sample.NoValues() {
			if e := schema.Check(s, []api.Value{v}); e != api.ErrShape {
				t.Errorf("Check(a field of kind %d, %#v) tells %d", kind, v, e)
			}
		}
	}
}

func TestP5_1CheckAtEachPlace(t *testing.T) {
	if e := schema.Check(shape(), record()); e != api.OK {
		t.Errorf("Check of a record tells %d", e)
	}
	for i, f := range shape() {
		for _, v := range slices.Concat(sample.Rising(), sample.NoValues()) {
			vals := record()
			vals[i] = v
			want := api.ErrShape
			if v.Kind == f.Kind && value.Is(v) {
				want = api.OK
			}
			if e := schema.Check(shape(), vals); e != want {
				t.Errorf("Check with %#v at %d tells %d", v, i, e)
			}
		}
	}
}

func TestP5_1CheckOfFewerAndMoreValues(t *testing.T) {
	for n := 1; n <= 8; n++ {
		for m := range 12 {
			want := api.ErrShape
			if n == m {
				want = api.OK
			}
			if e := schema.Check(many(n), zeros(many(m))); e != want {
				t.Errorf("Check(%d fields, %d values) tells %d", n, m, e)
			}
		}
		if e := schema.Check(many(n), nil); e != api.ErrShape {
			t.Errorf("Check(%d fields, nil) tells %d", n, e)
		}
	}
}

func TestP5_1CheckTellsAWrongShapeFirst(t *testing.T) {
	for _, s := range [][]api.Field{nil, {}, many(9), {{Name: "A", Kind: api.Int}}, {{Name: "a", Kind: 0}}, {{Name: "a", Kind: api.Int}, {Name: "a", Kind: api.Int}}} {
		for _, vals := range [][]api.Value{nil, {}, {{}}, zeros(s), record(), zeros(many(9)), sample.NoValues()} {
			if e := schema.Check(s, vals); e != api.ErrSchema {
				t.Errorf("Check(%#v, %#v) tells %d", s, vals, e)
			}
		}
	}
}

func TestP5_1Field(t *testing.T) {
	for n := 1; n <= 8; n++ {
		for i, f := range many(n) {
			if got, ok := schema.Field(many(n), f.Name); got != i || !ok {
				t.Errorf("Field(%d fields, %q) tells %d, %v", n, f.Name, got, ok)
			}
		}
		for _, name := range []string{"", "f", "F0", "f0 ", " f0", "f00", "f" + strconv.Itoa(n), "0", "g0", strings.Repeat("f0", 100), "\xFF"} {
			if got, ok := schema.Field(many(n), name); got != 0 || ok {
				t.Errorf("Field(%d fields, %q) tells %d, %v", n, name, got, ok)
			}
		}
	}
	for _, name := range append(goodNames(), badNames()...) {
		for _, s := range [][]api.Field{nil, {}} {
			if got, ok := schema.Field(s, name); got != 0 || ok {
				t.Errorf("Field(no fields, %q) tells %d, %v", name, got, ok)
			}
		}
	}
}

func TestP5_1FieldOfNoShape(t *testing.T) {
	s := append(many(12), api.Field{Name: "f3", Kind: api.Bool}, api.Field{Name: "No Name"}, api.Field{})
	for _, c := range []struct {
		name string
		want int
	}{{"f3", 3}, {"f11", 11}, {"No Name", 13}, {"", 14}} {
		if got, ok := schema.Field(s, c.name); got != c.want || !ok {
			t.Errorf("Field(%q) tells %d, %v", c.name, got, ok)
		}
	}
}

func extractor(vals []api.Value) (api.Value, error) { return sample.Str("x"), nil }

func comparator(a, b []api.Value) (int, error) { return 0, nil }

// hooks have nil at 1 of Extract, at 0 of Compare.
func hooks() api.Hooks {
	return api.Hooks{Extract: []api.Extractor{extractor, nil, extractor}, Compare: []api.Comparator{nil, comparator, comparator}}
}

// define asks Def of the shape and the hooks.
func define(t *testing.T, d api.Def, want api.Errno) {
	t.Helper()
	if e := schema.Def(shape(), d, hooks()); e != want {
		t.Errorf("Def(%#v) tells %d", d, e)
	}
}

// def tells a definition in the order of values.
func def(kind int, parts ...api.Part) api.Def {
	return api.Def{Name: "x", Kind: kind, Parts: parts, Compare: -1}
}

// keyed are the kinds with one to three parts.
func keyed() []int {
	return []int{api.Hash, api.UniqueHash, api.Ordered, api.UniqueOrdered}
}

// someParts are what the kind must have some of.
func someParts(kind int) []api.Part {
	switch kind {
	case api.Seq, api.Pos:
		return nil
	}
	return []api.Part{{Field: 4}}
}

func TestP5_2OneOfEachKind(t *testing.T) {
	for kind := api.Hash; kind <= api.Prefix; kind++ {
		define(t, def(kind, someParts(kind)...), api.OK)
	}
	for _, kind := range []int{math.MinInt, -256, -1, 0, 8, 9, 255, 256, 257, 1<<32 + 1, math.MaxInt} {
		for n := range 5 {
			define(t, def(kind, make([]api.Part, n)...), api.ErrIndex)
		}
		define(t, def(kind, api.Part{Field: 4}), api.ErrIndex)
	}
}

func TestP5_2Names(t *testing.T) {
	for kind := api.Hash; kind <= api.Prefix; kind++ {
		d := def(kind, someParts(kind)...)
		for _, name := range append(goodNames(), "id", "name") {
			d.Name = name
			define(t, d, api.OK)
		}
		for _, name := range badNames() {
			d.Name = name
			define(t, d, api.ErrIndex)
		}
	}
}

func TestP5_2NumberOfParts(t *testing.T) {
	for n := range 12 {
		parts := slices.Repeat([]api.Part{{Field: 4}}, n)
		for kind := api.Hash; kind <= api.Prefix; kind++ {
			ok := n >= 1 && n <= 3
			switch kind {
			case api.Seq, api.Pos:
				ok = n == 0
			case api.Prefix:
				ok = n == 1
			}
			want := api.ErrIndex
			if ok {
				want = api.OK
			}
			define(t, def(kind, parts...), want)
		}
	}
	for _, kind := range []int{api.Seq, api.Pos} {
		define(t, def(kind, api.Part{Field: -1}), api.ErrIndex)
		define(t, api.Def{Name: "x", Kind: kind, Parts: []api.Part{}, Compare: -1}, api.OK)
	}
}

// badParts are none of the shape and the hooks, by each of the reasons.
func badParts() []api.Part {
	return []api.Part{
		{Field: -2}, {Field: 5}, {Field: 6}, {Field: 255}, {Field: 256}, {Field: 1 << 32}, {Field: math.MaxInt}, {Field: math.MinInt}, {Field: -2, Hook: 2}, {Field: 5, Hook: 1},
		{Field: -1, Hook: -1}, {Field: -1, Hook: 1}, {Field: -1, Hook: 3}, {Field: -1, Hook: 256}, {Field: -1, Hook: math.MaxInt}, {Field: -1, Hook: math.MinInt},
		{Field: 0, Hook: 1}, {Field: 0, Hook: 2}, {Field: 0, Hook: -1}, {Field: 4, Hook: 1}, {Field: 4, Hook: 2}, {Field: 4, Hook: -1}, {Field: 4, Hook: 1 << 32}, {Field: 4, Hook: math.MinInt},
	}
}

// goodParts are the shape's fields and the extractors.
func goodParts() []api.Part {
	return []api.Part{{Field: 0}, {Field: 1}, {Field: 2}, {Field: 3}, {Field: 4}, {Field: -1}, {Field: -1, Hook: 2}}
}

func TestP5_2Parts(t *testing.T) {
	for _, kind := range keyed() {
		for _, p := range goodParts() {
			define(t, def(kind, p), api.OK)
			for _, q := range goodParts() {
				define(t, def(kind, p, q), api.OK)
				define(t, def(kind, p, q, p), api.OK)
			}
			for _, q := range badParts() {
				define(t, def(kind, q), api.ErrIndex)
				define(t, def(kind, p, q), api.ErrIndex)
				define(t, def(kind, q, p), api.ErrIndex)
				define(t, def(kind, q, p, p), api.ErrIndex)
				define(t, def(kind, p, q, p), api.ErrIndex)
				define(t, def(kind, p, p, q), api.ErrIndex)
			}
		}
	}
}

func TestP5_2PartsOfAPrefix(t *testing.T) {
	for _, p := range goodParts() {
		want := api.ErrIndex
		if p.Field == -1 || p.Field == 4 {
			want = api.OK
		}
		define(t, def(api.Prefix, p), want)
	}
	for _, p := range badParts() {
		define(t, def(api.Prefix, p), api.ErrIndex)
	}
	define(t, def(api.Prefix, api.Part{Field: 4}, api.Part{Field: 4}), api.ErrIndex)
	first := []api.Field{{Name: "a", Kind: api.Str}, {Name: "b", Kind: api.Bytes}}
	if e := schema.Def(first, def(api.Prefix, api.Part{}), api.Hooks{}); e != api.OK {
		t.Errorf("Def of a prefix of the first field tells %d", e)
	}
	if e := schema.Def(first, def(api.Prefix, api.Part{Field: 1}), api.Hooks{}); e != api.ErrIndex {
		t.Errorf("Def of a prefix of a field of bytes tells %d", e)
	}
}

func TestP5_2LastField(t *testing.T) {
	for n := 1; n <= 8; n++ {
		for field := -3; field < 12; field++ {
			want := api.ErrIndex
			if field >= 0 && field < n {
				want = api.OK
			}
			if e := schema.Def(many(n), def(api.Hash, api.Part{Field: field}), api.Hooks{}); e != want {
				t.Errorf("Def of %d fields, a part with field %d, tells %d", n, field, e)
			}
		}
	}
}

func TestP5_2Compare(t *testing.T) {
	for compare, there := range map[int]bool{
		-1: true, 0: false, 1: true, 2: true, 3: false, 4: false, -2: false, 256: false, 257: false, 1<<32 + 1: false, math.MaxInt: false, math.MinInt: false,
	} {
		for kind := api.Hash; kind <= api.Prefix; kind++ {
			d := def(kind, someParts(kind)...)
			d.Compare = compare
			want := api.ErrIndex
			if there && (compare == -1 || kind == api.Ordered || kind == api.UniqueOrdered) {
				want = api.OK
			}
			define(t, d, want)
		}
	}
}

func TestP5_2NoHooks(t *testing.T) {
	for _, h := range []api.Hooks{{}, {Extract: []api.Extractor{}, Compare: []api.Comparator{}}, {Extract: []api.Extractor{nil}, Compare: []api.Comparator{nil}}} {
		for _, kind := range keyed() {
			if e := schema.Def(shape(), def(kind, api.Part{}), h); e != api.OK {
				t.Errorf("Def without user code tells %d", e)
			}
			d := def(kind, api.Part{})
			d.Compare = 0
			if e := schema.Def(shape(), d, h); e != api.ErrIndex {
				t.Errorf("Def with a comparator that isn't there tells %d", e)
			}
		}
		for _, kind := range append(keyed(), api.Prefix) {
			if e := schema.Def(shape(), def(kind, api.Part{Field: -1}), h); e != api.ErrIndex {
				t.Errorf("Def with an extractor that isn't there tells %d", e)
			}
		}
	}
}

func TestP5_2HooksAreTakenFromTheirOwnLists(t *testing.T) {
	extractors, comparators := api.Hooks{Extract: []api.Extractor{extractor}}, api.Hooks{Compare: []api.Comparator{comparator}}
	extracts := def(api.Ordered, api.Part{Field: -1})
	compares := def(api.UniqueOrdered, api.Part{})
	compares.Compare = 0
	for i, c := range []struct {
		d    api.Def
		h    api.Hooks
		want api.Errno
	}{{extracts, extractors, api.OK}, {extracts, comparators, api.ErrIndex}, {compares, comparators, api.OK}, {compares, extractors, api.ErrIndex}} {
		if e := schema.Def(shape(), c.d, c.h); e != c.want {
			t.Errorf("row %d tells %d", i, e)
		}
	}
}

func TestP5_2AWrongShapeIsToldFirst(t *testing.T) {
	for _, s := range [][]api.Field{nil, {}, many(9), {{Name: "", Kind: api.Int}}, {{Name: "a", Kind: 6}}, {{Name: "a", Kind: api.Int}, {Name: "a", Kind: api.Int}}} {
		for _, d := range []api.Def{{}, def(api.Seq), def(api.Hash, api.Part{}), def(api.Hash), def(api.Hash, badParts()...), def(8), {Name: "A", Kind: -1, Parts: badParts(), Compare: 9}} {
			if e := schema.Def(s, d, hooks()); e != api.ErrSchema {
				t.Errorf("Def(%#v, %#v) tells %d", s, d, e)
			}
		}
	}
}

func TestP5_2SeveralFaults(t *testing.T) {
	define(t, api.Def{}, api.ErrIndex)
	define(t, api.Def{Name: "x"}, api.ErrIndex)
	define(t, api.Def{Name: "X", Kind: 9, Parts: badParts(), Compare: 9}, api.ErrIndex)
	define(t, api.Def{Name: "x", Kind: api.Seq, Parts: badParts()}, api.ErrIndex)
	define(t, api.Def{Name: "x", Kind: api.Hash, Parts: []api.Part{{Field: 9, Hook: 9}}, Compare: -2}, api.ErrIndex)
}

// TestP5_2UserCodeIsNotAsked hands in hooks that would fail.
func TestP5_2UserCodeIsNotAsked(t *testing.T) {
	h := api.Hooks{
		Extract: []api.Extractor{func([]api.Value) (api.Value, error) { panic("asked") }},
		Compare: []api.Comparator{func(a, b []api.Value) (int, error) { return 0, errors.New("asked") }},
	}
	d := def(api.UniqueOrdered, api.Part{Field: -1}, api.Part{Field: 1})
	d.Compare = 0
	if e := schema.Def(shape(), d, h); e != api.OK {
		t.Errorf("Def tells %d", e)
	}
}

// isDef tells by the chapter's words, one after the other, whether d is a definition of the shape and the hooks.
func isDef(d api.Def) bool {
	seq, prefix := d.Kind == api.Seq || d.Kind == api.Pos, d.Kind == api.Prefix
	wrong := d.Kind < api.Hash || d.Kind > api.Prefix ||
		seq && len(d.Parts) > 0 ||
		prefix && len(d.Parts) != 1 ||
		!seq && !prefix && (len(d.Parts) == 0 || len(d.Parts) > 3)
	for _, p := range d.Parts {
		wrong = wrong || p.Field < -1 || p.Field >= len(shape()) ||
			p.Field == -1 && p.Hook != 0 && p.Hook != 2 ||
			p.Field != -1 && p.Hook != 0 ||
			prefix && p.Field != -1 && shape()[p.Field].Kind != api.Str
	}
	if d.Kind == api.Ordered || d.Kind == api.UniqueOrdered {
		return !wrong && (d.Compare == -1 || d.Compare == 1 || d.Compare == 2)
	}
	return !wrong && d.Compare == -1
}

// everyDef calls f with all definitions of small numbers with up to two parts, and some with more.
func everyDef(f func(d api.Def)) {
	var parts []api.Part
	for field := -2; field <= len(shape()); field++ {
		for hook := -1; hook <= 3; hook++ {
			parts = append(parts, api.Part{Field: field, Hook: hook})
		}
	}
	lists := [][]api.Part{nil}
	for _, p := range parts {
		lists = append(lists, []api.Part{p})
		for _, q := range parts {
			lists = append(lists, []api.Part{p, q}, []api.Part{p, {Field: 4}, q}, []api.Part{p, q, p, q})
		}
	}
	for kind := api.Hash - 2; kind <= api.Prefix+2; kind++ {
		for compare := -2; compare <= 3; compare++ {
			for _, l := range lists {
				f(api.Def{Name: "x", Kind: kind, Parts: l, Compare: compare})
			}
		}
	}
}

func TestP5_2EverySmallDefinition(t *testing.T) {
	s, h := shape(), hooks()
	everyDef(func(d api.Def) {
		want := api.ErrIndex
		if isDef(d) {
			want = api.OK
		}
		if e := schema.Def(s, d, h); e != want {
			t.Errorf("Def(%#v) tells %d", d, e)
		}
	})
}

func TestP5_3Copy(t *testing.T) {
	for _, vals := range [][]api.Value{record(), sample.Rising(), sample.NoValues(), {sample.Int(1)}, zeros(many(8)), {sample.Float(sample.SignalNaN()), sample.Float(sample.MinusNought())}} {
		got := schema.Copy(vals)
		if !sample.RowsAlike(got, vals) {
			t.Errorf("Copy(%#v) tells %#v", vals, got)
		}
		for n := range vals {
			if got := schema.Copy(vals[:n]); !sample.RowsAlike(got, vals[:n]) {
				t.Errorf("Copy(%#v) tells %#v", vals[:n], got)
			}
		}
	}
	for _, vals := range [][]api.Value{nil, {}, record()[:0]} {
		if got := schema.Copy(vals); len(got) != 0 {
			t.Errorf("Copy of no values tells %#v", got)
		}
	}
}

func TestP5_3ACopyIsNewMemory(t *testing.T) {
	behind := sample.Int(77)
	for n := range len(record()) + 1 {
		vals := append(record()[:n:n], behind, behind)[:n]
		one, two := schema.Copy(vals), schema.Copy(vals)
		for _, l := range [][]api.Value{one, two} {
			l = l[:cap(l)]
			for i := range l {
				l[i] = sample.Str("written")
			}
			if !sample.RowsAlike(vals[:n+2], append(record()[:n:n], behind, behind)) {
				t.Fatalf("what is written into a copy of %d values is in them", n)
			}
		}
		one, two = schema.Copy(vals), schema.Copy(vals)
		for i := range vals {
			vals[i] = sample.Bool(0)
		}
		for i := range one[:cap(one)] {
			one[:cap(one)][i] = sample.Bool(1)
		}
		if !sample.RowsAlike(two, record()[:n]) {
			t.Errorf("a copy of %d values is changed with them, or with another copy", n)
		}
	}
}

func TestP5_3ACopyHoldsOnToNoText(t *testing.T) {
	text := strings.Repeat("long", 1000)
	for _, v := range []api.Value{sample.Str(text[:4]), sample.Bytes(text[4:64])} {
		got := schema.Copy([]api.Value{v})
		if got[0].Str != v.Str || unsafe.StringData(got[0].Str) == unsafe.StringData(v.Str) {
			t.Error("a copy has a piece of the text that the value has a piece of")
		}
	}
}

// keyOf takes the values of an index's parts, as an index takes them.
func keyOf(d api.Def, h api.Hooks, vals []api.Value) []api.Value {
	var key []api.Value
	for _, p := range d.Parts {
		v := vals[max(p.Field, 0)]
		if p.Field == -1 {
			v, _ = h.Extract[p.Hook](vals)
		}
		key = append(key, v)
	}
	return key
}

func TestP5_4ARecordHasAKeyOfEveryIndex(t *testing.T) {
	s, h, vals, defs := shape(), hooks(), record(), 0
	if schema.Check(s, vals) != api.OK {
		t.Fatal("the record isn't of the shape")
	}
	everyDef(func(d api.Def) {
		if schema.Def(s, d, h) != api.OK {
			return
		}
		defs++
		key := keyOf(d, h, vals)
		for _, v := range key {
			if !value.Is(v) || d.Kind == api.Prefix && v.Kind != api.Str {
				t.Errorf("%#v has the key %#v", d, key)
			}
		}
		if d.Compare != -1 {
			if _, err := h.Compare[d.Compare](key, key); err != nil {
				t.Error(err)
			}
		}
	})
	if defs == 0 {
		t.Error("no definition is one")
	}
}

// TestArgumentsStay: lists that are handed in, and the room behind them, are as they were.
func TestArgumentsStay(t *testing.T) {
	s := append(shape(), api.Field{Name: "behind", Kind: 9})
	vals := append(record(), sample.Int(88))
	parts := []api.Part{{Field: 4}, {Field: -1, Hook: 2}, {Field: 99}}
	h := hooks()
	d := api.Def{Name: "x", Kind: api.Hash, Parts: parts[:2], Compare: -1}
	schema.Is(s[:5])
	schema.Check(s[:5], vals[:5])
	schema.Check(s[:5], vals[:4])
	schema.Field(s[:5], "name")
	schema.Def(s[:5], d, h)
	schema.Copy(vals[:5])
	if !slices.Equal(s, append(shape(), api.Field{Name: "behind", Kind: 9})) {
		t.Errorf("the shape is %#v", s)
	}
	if !sample.RowsAlike(vals, append(record(), sample.Int(88))) {
		t.Errorf("the values are %#v", vals)
	}
	if !slices.Equal(parts, []api.Part{{Field: 4}, {Field: -1, Hook: 2}, {Field: 99}}) {
		t.Errorf("the parts are %#v", parts)
	}
	if h.Extract[1] != nil || h.Extract[0] == nil || h.Extract[2] == nil || h.Compare[0] != nil || h.Compare[1] == nil || h.Compare[2] == nil {
		t.Error("the hooks are others")
	}
}
