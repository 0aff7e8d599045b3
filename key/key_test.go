package key_test

import (
	"errors"
	"math"
	"reflect"
	"runtime"
	"slices"
	"strings"
	"testing"
	"unsafe"

	"rialto/api"
	"rialto/key"
	"rialto/sample"
	"rialto/value"
)

// failed is an error that user code tells.
type failed struct{ n int }

func (failed) Error() string { return "failed" }

// trap panics whatever it is asked, and == of two of them does.
type trap struct{ at []int }

func (trap) Error() string   { panic("Error was asked") }
func (trap) Is(error) bool   { panic("Is was asked") }
func (trap) As(any) bool     { panic("As was asked") }
func (trap) Unwrap() []error { panic("Unwrap was asked") }

// errorsTold are what user code may fail with, errors of the program's own among them.
func errorsTold() []error {
	return []error{
		failed{}, failed{5}, trap{[]int{1}}, errors.New("no"),
		api.OK, api.ErrKey, api.ErrValue, api.ErrCallback, &api.Twice{Where: "j", Id: 5}, &api.Fault{Where: "j", Err: failed{5}}, (*api.Fault)(nil),
	}
}

// thrown are what user code may panic with.
func thrown() []any {
	return []any{5, "", "x", false, []int{1}, struct{}{}, new(int), failed{5}, trap{[]int{1}}, api.ErrKey, api.OK, &api.Fault{Where: "j", Panic: 5}}
}

// names are what a definition's Name may be; the layer doesn't ask whether it is one.
func names() []string {
	return []string{"", "i", "by_name", strings.Repeat("x", 20), strings.Repeat("y", 1000), "\x00", "I \u00E9\xFF"}
}

// noNumbers are far from the number of anything.
func noNumbers() []int {
	return []int{math.MinInt, math.MinInt + 1, -1 << 32, -1<<32 - 1, -256, -3, -2, 255, 256, 1 << 31, 1 << 32, 1<<32 + 1, math.MaxInt - 1, math.MaxInt}
}

// bears looks whether err is a fault with just that.
func bears(t *testing.T, err error, where string, told error, panicked any) {
	t.Helper()
	f, is := err.(*api.Fault)
	if !is || f == nil {
		t.Fatalf("the error is a %T, wanted a fault", err)
	}
	var found *api.Fault
	if !errors.As(err, &found) || found != f || !errors.Is(err, api.ErrCallback) {
		t.Error("errors.As or errors.Is doesn't find the fault")
	}
	if f.Where != where || !reflect.DeepEqual(f.Err, told) || !reflect.DeepEqual(f.Panic, panicked) {
		t.Errorf("Where is %q, Err a %T, Panic a %T; wanted %q, a %T, a %T", f.Where, f.Err, f.Panic, where, told, panicked)
	}
}

// tells looks whether Of tells just that key.
func tells(t *testing.T, d api.Def, hooks api.Hooks, vals, want []api.Value) {
	t.Helper()
	got, err := key.Of(d, hooks, vals)
	if err != nil || !sample.RowsAlike(got, want) {
		t.Errorf("Of(%v, %v) tells %v, %v; wanted %v", d, vals, got, err, want)
	}
}

// refuses looks whether Of tells ErrKey, and nothing beside it.
func refuses(t *testing.T, d api.Def, hooks api.Hooks, vals []api.Value) {
	t.Helper()
	if got, err := key.Of(d, hooks, vals); err != api.ErrKey || len(got) != 0 {
		t.Errorf("Of(%v, %v) tells %v, %v; wanted ErrKey", d, vals, got, err)
	}
}

// def defines an index with those parts; Kind and Compare are such that Of could trip over them.
func def(parts ...api.Part) api.Def {
	return api.Def{Name: "i", Kind: api.Seq, Parts: parts, Compare: 99}
}

func field(n int) api.Part { return api.Part{Field: n} }

func extractor(n int) api.Part { return api.Part{Field: -1, Hook: n} }

// always tells the extractor of which v is told whatever the record is.
func always(v api.Value) api.Extractor {
	return func([]api.Value) (api.Value, error) { return v, nil }
}

func record() []api.Value {
	return []api.Value{sample.Int(5), sample.Str("a"), sample.Float(sample.LoadedNaN())}
}

func TestP7_1Example(t *testing.T) {
	tells(t, def(field(1)), api.Hooks{}, []api.Value{sample.Int(5), sample.Str("a")}, []api.Value{sample.Str("a")})
}

func TestP7_1Fields(t *testing.T) {
	vals := record()
	for i, v := range vals {
		tells(t, def(field(i)), api.Hooks{}, vals, []api.Value{v})
		for j, w := range vals {
			tells(t, def(field(i), field(j)), api.Hooks{}, vals, []api.Value{v, w})
			for k, x := range vals {
				tells(t, def(field(i), field(j), field(k)), api.Hooks{}, vals, []api.Value{v, w, x})
			}
		}
	}
}

// A record may have any number of values, and what is no value is told as it is: floats by all their bits.
func TestP7_1FieldsOfAnyRecord(t *testing.T) {
	for _, vals := range [][]api.Value{sample.Rising(), sample.NoValues(), {sample.Float(sample.SignalNaN())}} {
		var parts []api.Part
		var want []api.Value
		for i, v := range vals {
			tells(t, def(field(i)), api.Hooks{}, vals, []api.Value{v})
			parts, want = append(parts, field(i)), append(want, v)
			tells(t, def(parts...), api.Hooks{}, vals, want)
		}
		slices.Reverse(parts)
		slices.Reverse(want)
		tells(t, def(parts...), api.Hooks{}, vals, want)
	}
}

func TestP7_1TheHookOfAFieldIsNotAsked(t *testing.T) {
	fine := api.Hooks{Extract: []api.Extractor{func([]api.Value) (api.Value, error) {
		t.Error("the extractor is called")
		return sample.Int(0), nil
	}}}
	for _, n := range append(noNumbers(), -1, 0, 1) {
		for _, hooks := range []api.Hooks{{}, {Extract: []api.Extractor{nil}}, fine} {
			tells(t, def(api.Part{Field: 1, Hook: n}), hooks, record(), []api.Value{sample.Str("a")})
		}
	}
}

func TestP7_1NoParts(t *testing.T) {
	wrong := api.Hooks{Extract: []api.Extractor{nil, func([]api.Value) (api.Value, error) { panic(5) }}}
	for _, parts := range [][]api.Part{nil, {}, []api.Part{field(9)}[:0]} {
		for _, vals := range [][]api.Value{nil, {}, record(), sample.NoValues()} {
			for _, hooks := range []api.Hooks{{}, wrong} {
				tells(t, def(parts...), hooks, vals, nil)
				tells(t, api.Def{Parts: parts}, hooks, vals, nil)
			}
		}
	}
}

func TestP7_1Extractors(t *testing.T) {
	hooks := api.Hooks{Extract: []api.Extractor{
		always(sample.Str("first")),
		func(l []api.Value) (api.Value, error) { return sample.Int(2 * l[0].Int), nil },
		func(l []api.Value) (api.Value, error) { return l[len(l)-1], nil },
	}}
	want := []api.Value{sample.Str("first"), sample.Int(10), sample.Float(sample.LoadedNaN())}
	for i, v := range want {
		tells(t, def(extractor(i)), hooks, record(), []api.Value{v})
		for j, w := range want {
			tells(t, def(extractor(i), extractor(j)), hooks, record(), []api.Value{v, w})
			tells(t, def(extractor(i), field(1), extractor(j)), hooks, record(), []api.Value{v, sample.Str("a"), w})
			tells(t, def(field(0), extractor(i), field(1)), hooks, record(), []api.Value{sample.Int(5), v, sample.Str("a")})
		}
	}
}

func TestP7_1AnExtractorTellsAnyValue(t *testing.T) {
	for _, v := range sample.Rising() {
		tells(t, def(extractor(0)), api.Hooks{Extract: []api.Extractor{always(v)}}, nil, []api.Value{v})
	}
}

func TestP7_1WhatExtractorsAreHanded(t *testing.T) {
	for _, vals := range [][]api.Value{nil, {}, {sample.Int(1)}, record(), sample.Rising(), sample.NoValues()} {
		var handed [][]api.Value
		hooks := api.Hooks{Extract: []api.Extractor{func(l []api.Value) (api.Value, error) {
			handed = append(handed, slices.Clone(l))
			for i := range l[:cap(l)] {
				l[:cap(l)][i] = sample.Int(-99)
			}
			return sample.Int(0), nil
		}}}
		parts := []api.Part{extractor(0), extractor(0)}
		want := []api.Value{sample.Int(0), sample.Int(0)}
		if len(vals) > 0 {
			parts, want = append(parts, field(0)), append(want, vals[0])
		}
		tells(t, def(parts...), hooks, vals, want)
		if len(handed) != 2 || !sample.RowsAlike(handed[0], vals) || !sample.RowsAlike(handed[1], vals) {
			t.Errorf("of %v the extractors are handed %v", vals, handed)
		}
	}
}

func TestP7_1OneHookInTwoParts(t *testing.T) {
	for parts := range 6 {
		calls := 0
		hooks := api.Hooks{Extract: []api.Extractor{nil, func([]api.Value) (api.Value, error) {
			calls++
			return sample.Int(5), nil
		}}}
		tells(t, def(slices.Repeat([]api.Part{extractor(1)}, parts)...), hooks, record(), slices.Repeat([]api.Value{sample.Int(5)}, parts))
		if calls != parts {
			t.Errorf("%d parts: called %d times", parts, calls)
		}
	}
}

func TestP7_1AFieldThatIsNotThere(t *testing.T) {
	hooks := api.Hooks{Extract: []api.Extractor{always(sample.Int(5))}}
	for n := range 5 {
		vals := sample.Rising()[:n]
		for _, wrong := range append(noNumbers(), n, n+1) {
			for _, hook := range []int{0, 1, -1} {
				refuses(t, def(api.Part{Field: wrong, Hook: hook}), hooks, vals)
				refuses(t, def(api.Part{Field: wrong, Hook: hook}, extractor(0)), hooks, vals)
				refuses(t, def(extractor(0), api.Part{Field: wrong, Hook: hook}), hooks, vals)
			}
		}
		// What lies in the spare room isn't there.
		refuses(t, def(field(n)), hooks, sample.Rising()[:n:n+3])
	}
	refuses(t, def(field(0)), hooks, nil)
	refuses(t, def(field(0)), api.Hooks{}, []api.Value{})
}

func TestP7_1AHookThatIsNotThere(t *testing.T) {
	fine := always(sample.Int(5))
	all := []api.Extractor{fine, fine, fine, fine}
	for n := range 4 {
		hooks := api.Hooks{Extract: all[:n], Compare: []api.Comparator{nil, nil, nil, nil, nil, nil}}
		for _, wrong := range append(noNumbers(), -1, n, n+1) {
			refuses(t, def(extractor(wrong)), hooks, record())
			refuses(t, def(field(0), extractor(wrong)), hooks, record())
			refuses(t, def(extractor(wrong), field(0)), hooks, record())
			refuses(t, def(extractor(wrong)), hooks, nil)
		}
	}
	refuses(t, def(extractor(0)), api.Hooks{}, record())
}

// failing is user code that fails, by an error beside an answer or by a panic, and what its fault must bear of it.
type failing struct {
	extract api.Extractor
	compare api.Comparator
	told    error
	thrown  any
}

func failings() []failing {
	l := []failing{{told: api.ErrCallback}}
	for _, e := range errorsTold() {
		l = append(l, failing{
			func([]api.Value) (api.Value, error) { return sample.Int(7), e },
			func(_, _ []api.Value) (int, error) { return 7, e },
			e, nil,
		})
	}
	for _, p := range thrown() {
		l = append(l, failing{
			func([]api.Value) (api.Value, error) { panic(p) },
			func(_, _ []api.Value) (int, error) { panic(p) },
			nil, p,
		})
	}
	return l
}

// noted makes f note its letter each time.
func noted(calls *string, letter string, f api.Extractor) api.Extractor {
	if f == nil {
		return nil
	}
	return func(l []api.Value) (api.Value, error) {
		*calls += letter
		return f(l)
	}
}

// The first, a middle and the last part fail: those ahead were called, none behind was.
func TestP7_1AnExtractorThatFails(t *testing.T) {
	for _, bad := range failings() {
		for at := range 3 {
			calls := ""
			hooks := api.Hooks{Extract: []api.Extractor{noted(&calls, "a", always(sample.Int(1))), noted(&calls, "b", always(sample.Int(2))), noted(&calls, "c", always(sample.Int(3)))}}
			hooks.Extract[at] = noted(&calls, "-", bad.extract)
			for _, name := range names() {
				calls = ""
				d := def(extractor(0), extractor(1), extractor(2), field(0))
				d.Name = name
				got, err := key.Of(d, hooks, record())
				bears(t, err, name, bad.told, bad.thrown)
				want := "abc"[:at] + "-"
				if bad.extract == nil {
					want = "abc"[:at]
				}
				if len(got) != 0 || calls != want {
					t.Errorf("part %d fails: tells %v, calls %q", at, got, calls)
				}
			}
		}
	}
}

func TestP7_1AnExtractorThatTellsNoValue(t *testing.T) {
	for _, v := range sample.NoValues() {
		for _, parts := range [][]api.Part{{extractor(0)}, {field(0), extractor(0)}, {extractor(0), field(9)}, {extractor(0), extractor(1)}} {
			hooks := api.Hooks{Extract: []api.Extractor{always(v), func([]api.Value) (api.Value, error) {
				t.Error("an extractor behind the one that fails is called")
				return sample.Int(0), nil
			}}}
			got, err := key.Of(def(parts...), hooks, record())
			bears(t, err, "i", api.ErrValue, nil)
			if len(got) != 0 {
				t.Errorf("beside an error: %v", got)
			}
		}
	}
}

// An extractor that goes beyond the record that it is handed fails by a panic of the language itself.
func TestP7_1AnExtractorThatTheLanguageStops(t *testing.T) {
	hooks := api.Hooks{Extract: []api.Extractor{func(l []api.Value) (api.Value, error) { return l[3], nil }}}
	got, err := key.Of(def(field(0), extractor(0)), hooks, record())
	var fault *api.Fault
	var stopped runtime.Error
	if !errors.As(err, &fault) || fault.Where != "i" || !errors.As(err, &stopped) || fault.Err != nil || len(got) != 0 {
		t.Errorf("tells %v, %v", got, err)
	}
}

// piece is a part of a definition, which extractor it calls, and what it must tell: a value, ErrKey, or a fault that bears told or thrown.
type piece struct {
	part    api.Part
	calls   string
	value   api.Value
	missing bool
	told    error
	thrown  any
}

func (p piece) fails() bool { return p.missing || p.told != nil || p.thrown != nil }

// pieces are parts of each sort for record and for the hooks of lettered.
func pieces() []piece {
	return []piece{
		{part: field(0), value: sample.Int(5)},
		{part: api.Part{Field: 2, Hook: 77}, value: sample.Float(sample.LoadedNaN())},
		{part: field(3), missing: true},
		{part: field(-2), missing: true},
		{part: extractor(0), calls: "a", value: sample.Int(10)},
		{part: extractor(1), calls: "b", value: sample.Str("a!")},
		{part: extractor(2), calls: "c", told: failed{2}},
		{part: extractor(3), calls: "d", thrown: 7},
		{part: extractor(4), calls: "e", told: api.ErrValue},
		{part: extractor(5), told: api.ErrCallback},
		{part: extractor(6), missing: true},
		{part: extractor(-1), missing: true},
	}
}

func lettered(calls *string) api.Hooks {
	return api.Hooks{Extract: []api.Extractor{
		noted(calls, "a", func(l []api.Value) (api.Value, error) { return sample.Int(2 * l[0].Int), nil }),
		noted(calls, "b", func(l []api.Value) (api.Value, error) { return sample.Str(l[1].Str + "!"), nil }),
		noted(calls, "c", func([]api.Value) (api.Value, error) { return sample.Int(1), failed{2} }),
		noted(calls, "d", func([]api.Value) (api.Value, error) { panic(7) }),
		noted(calls, "e", always(sample.Bool(2))),
		nil,
	}}
}

// Every order of parts of each sort, up to four: the values ahead, or the error of the first part that fails, and the calls up to it.
func TestP7_1EveryOrderOfParts(t *testing.T) {
	calls := ""
	hooks, vals := lettered(&calls), record()
	var each func(chosen []piece)
	each = func(chosen []piece) {
		ofPieces(t, chosen, hooks, vals, &calls)
		if len(chosen) == 4 {
			return
		}
		for _, p := range pieces() {
			each(append(chosen[:len(chosen):len(chosen)], p))
		}
	}
	each(nil)
}

func ofPieces(t *testing.T, chosen []piece, hooks api.Hooks, vals []api.Value, calls *string) {
	t.Helper()
	var parts []api.Part
	for _, p := range chosen {
		parts = append(parts, p.part)
	}
	var want []api.Value
	wanted := ""
	var first *piece
	for _, p := range chosen {
		wanted += p.calls
		if p.fails() {
			first, want = &p, nil
			break
		}
		want = append(want, p.value)
	}
	*calls = ""
	got, err := key.Of(def(parts...), hooks, vals)
	switch {
	case first == nil && err != nil, first != nil && first.missing && err != api.ErrKey:
		t.Errorf("%v: the error is %v", parts, err)
	case first != nil && !first.missing:
		bears(t, err, "i", first.told, first.thrown)
	}
	if !sample.RowsAlike(got, want) || *calls != wanted {
		t.Errorf("%v: tells %v, calls %q; wanted %v, %q", parts, got, *calls, want, wanted)
	}
}

// User code may ask for keys itself.
func TestP7_1OneWithinTheOther(t *testing.T) {
	inner := api.Hooks{Extract: []api.Extractor{always(sample.Int(7)), func([]api.Value) (api.Value, error) { return sample.Int(0), failed{1} }}}
	hooks := api.Hooks{Extract: []api.Extractor{func(l []api.Value) (api.Value, error) {
		k, err := key.Of(api.Def{Name: "inner", Parts: []api.Part{extractor(int(l[0].Int))}}, inner, l)
		if err != nil {
			return sample.Int(0), err
		}
		return k[0], nil
	}}}
	tells(t, def(extractor(0), field(0)), hooks, []api.Value{sample.Int(0)}, []api.Value{sample.Int(7), sample.Int(0)})
	_, err := key.Of(def(extractor(0)), hooks, []api.Value{sample.Int(1)})
	bears(t, err, "i", &api.Fault{Where: "inner", Err: failed{1}}, nil)
	_, err = key.Of(def(extractor(0)), hooks, []api.Value{sample.Int(2)})
	bears(t, err, "i", api.ErrKey, nil)
}

// The same arguments tell the same, whatever failed in between.
func TestP7_1ACallBehindAFault(t *testing.T) {
	calls := ""
	hooks := lettered(&calls)
	for _, p := range pieces() {
		key.Of(def(p.part), hooks, record())
		tells(t, def(field(1), extractor(0)), hooks, record(), []api.Value{sample.Str("a"), sample.Int(10)})
	}
}

// spared tells l with spare room behind it, full of v.
func spared(l []api.Value, v api.Value) []api.Value {
	return append(slices.Clone(l), v, v, v)[:len(l)]
}

func TestP7_1AKeyIsNewMemory(t *testing.T) {
	behind := sample.Str("behind")
	kept := spared(record(), behind)
	hooks := api.Hooks{Extract: []api.Extractor{func([]api.Value) (api.Value, error) { return kept[1], nil }}}
	for _, parts := range [][]api.Part{{field(0)}, {field(0), field(1), field(2)}, {extractor(0)}, {field(2), extractor(0), field(2)}} {
		vals := spared(record(), behind)
		one, err := key.Of(def(parts...), hooks, vals)
		two, _ := key.Of(def(parts...), hooks, vals)
		want := slices.Clone(two)
		if err != nil || len(one) != len(parts) {
			t.Fatalf("tells %v, %v", one, err)
		}
		for i := range one[:cap(one)] {
			one[:cap(one)][i] = sample.Int(-99)
		}
		if !sample.RowsAlike(two, want) || !sample.RowsAlike(vals[:6], append(record(), behind, behind, behind)) || !sample.RowsAlike(kept, record()) {
			t.Fatalf("writing into a key of %v changes another, or what was handed in", parts)
		}
		for i := range vals[:cap(vals)] {
			vals[:cap(vals)][i] = sample.Int(-99)
		}
		if !sample.RowsAlike(two, want) {
			t.Errorf("writing into the record changes a key of %v", parts)
		}
	}
}

// A string may be a piece of a much longer one, of which a key holds on to nothing.
func TestP7_1AKeyHoldsOnToNoText(t *testing.T) {
	long := strings.Repeat("abc", 1000)
	vals := []api.Value{sample.Str(long[3:6]), sample.Bytes(long[3:63])}
	hooks := api.Hooks{Extract: []api.Extractor{always(vals[0]), nil}}
	got, err := key.Of(def(field(0), field(1), extractor(0), field(0)), hooks, vals)
	if err != nil || !sample.RowsAlike(got, []api.Value{vals[0], vals[1], vals[0], vals[0]}) {
		t.Fatalf("tells %v, %v", got, err)
	}
	seen := []*byte{unsafe.StringData(vals[0].Str)}
	for _, v := range got {
		if slices.Contains(seen, unsafe.StringData(v.Str)) {
			t.Errorf("%q is a piece of a text that another has", v.Str)
		}
		seen = append(seen, unsafe.StringData(v.Str))
	}
	_, err = key.Of(api.Def{Name: long[3:6], Parts: []api.Part{extractor(1)}}, hooks, vals)
	var fault *api.Fault
	if !errors.As(err, &fault) || fault.Where != "abc" || unsafe.StringData(fault.Where) == unsafe.StringData(long[3:6]) {
		t.Errorf("the fault's Where is a piece of a longer text: %v", err)
	}
}

// rising are keys as they stand in the order of values: of different lengths, kinds and floats.
func rising() [][]api.Value {
	all := sample.Rising()
	first, last := all[0], all[len(all)-1]
	l := [][]api.Value{nil}
	for _, v := range all {
		l = append(l, []api.Value{v}, []api.Value{v, first}, []api.Value{v, first, last}, []api.Value{v, last})
	}
	return l
}

func sign(n int) int { return max(-1, min(1, n)) }

// untouched are hooks that mustn't be called.
func untouched(t *testing.T) api.Hooks {
	wrong := func() { t.Error("user code is called") }
	return api.Hooks{
		Extract: []api.Extractor{func([]api.Value) (api.Value, error) { wrong(); return sample.Int(0), nil }},
		Compare: []api.Comparator{func(_, _ []api.Value) (int, error) { wrong(); return 0, nil }},
	}
}

func TestP7_2TheOrderOfValues(t *testing.T) {
	hooks, keys := untouched(t), rising()
	for i, a := range keys {
		for j, b := range keys {
			got, err := key.Compare(api.Def{Compare: -1}, hooks, a, slices.Clone(b))
			if err != nil || got != sign(i-j) {
				t.Fatalf("Compare(%v, %v) tells %d, %v", a, b, got, err)
			}
		}
	}
}

func TestP7_2TheOrderOfWhatIsNoValue(t *testing.T) {
	all := append(sample.NoValues(), sample.Int(0), sample.Str("a"), sample.Float(0), sample.Float(sample.MinusNought()))
	for _, a := range all {
		for _, b := range all {
			for _, pair := range [][2][]api.Value{{{a}, {b}}, {{a, b}, {a}}, {{a, b}, {b, a}}, {nil, {a}}, {{a}, {}}} {
				got, err := key.Compare(api.Def{Compare: -1}, api.Hooks{}, pair[0], pair[1])
				if err != nil || got != value.Rows(pair[0], pair[1]) {
					t.Errorf("Compare(%v, %v) tells %d, %v", pair[0], pair[1], got, err)
				}
			}
		}
	}
	if got, err := key.Compare(api.Def{Compare: -1}, api.Hooks{}, nil, []api.Value{}); got != 0 || err != nil {
		t.Errorf("a nil key and an empty one: %d, %v", got, err)
	}
}

// pairs are keys for comparators: the same, unlike, of different lengths.
func pairs() [][2][]api.Value {
	a, b := []api.Value{sample.Int(1)}, []api.Value{sample.Str("b"), sample.Float(sample.QuietNaN())}
	return [][2][]api.Value{{a, b}, {b, a}, {a, a}, {b, b}, {nil, nil}, {nil, a}, {a, {}}, {sample.NoValues(), sample.Rising()}}
}

func TestP7_2AComparator(t *testing.T) {
	for _, n := range []int{math.MinInt, -256, -7, -1, 0, 1, 2, 1 << 32, math.MaxInt} {
		for number := range 3 {
			for _, pair := range pairs() {
				calls := 0
				hooks := untouched(t)
				hooks.Compare = slices.Repeat(hooks.Compare, 3)
				hooks.Compare[number] = func(a, b []api.Value) (int, error) {
					calls++
					if !sample.RowsAlike(a, pair[0]) || !sample.RowsAlike(b, pair[1]) {
						t.Errorf("the comparator is handed %v, %v of %v", a, b, pair)
					}
					return n, nil
				}
				got, err := key.Compare(api.Def{Name: "i", Kind: api.Hash, Parts: []api.Part{field(9)}, Compare: number}, hooks, pair[0], pair[1])
				if err != nil || got != sign(n) || calls != 1 {
					t.Errorf("comparator %d, that tells %d: %d, %v, called %d times", number, n, got, err, calls)
				}
			}
		}
	}
}

func TestP7_2AnOrderOfItsOwn(t *testing.T) {
	hooks := api.Hooks{Compare: []api.Comparator{
		func(a, b []api.Value) (int, error) { return 5 * value.Rows(b, a), nil },
		func(a, b []api.Value) (int, error) { return len(a) - len(b), nil },
	}}
	keys := rising()[:60]
	for i, a := range keys {
		for j, b := range keys {
			back, e := key.Compare(api.Def{Compare: 0}, hooks, a, b)
			length, f := key.Compare(api.Def{Compare: 1}, hooks, a, b)
			if e != nil || f != nil || back != sign(j-i) || length != sign(len(a)-len(b)) {
				t.Fatalf("%v, %v: backwards %d, %v; by length %d, %v", a, b, back, e, length, f)
			}
		}
	}
}

func TestP7_2AComparatorThatIsNotThere(t *testing.T) {
	for n := range 4 {
		hooks := untouched(t)
		hooks.Extract = slices.Repeat(hooks.Extract, 9)
		hooks.Compare = slices.Repeat(hooks.Compare, 6)[:n]
		for _, wrong := range append(noNumbers(), n, n+1) {
			for _, pair := range pairs() {
				got, err := key.Compare(api.Def{Name: "i", Kind: api.Ordered, Compare: wrong}, hooks, pair[0], pair[1])
				if err != api.ErrKey || got != 0 {
					t.Errorf("comparator %d of %d: %d, %v", wrong, n, got, err)
				}
			}
		}
	}
	if got, err := key.Compare(api.Def{}, api.Hooks{}, nil, record()); err != api.ErrKey || got != 0 {
		t.Errorf("no comparators: %d, %v", got, err)
	}
}

func TestP7_2AComparatorThatFails(t *testing.T) {
	for _, bad := range failings() {
		for at := range 3 {
			hooks := untouched(t)
			hooks.Compare = slices.Repeat(hooks.Compare, 3)
			hooks.Compare[at] = bad.compare
			for _, name := range names() {
				for _, pair := range pairs() {
					got, err := key.Compare(api.Def{Name: name, Compare: at}, hooks, pair[0], pair[1])
					bears(t, err, name, bad.told, bad.thrown)
					if got != 0 {
						t.Errorf("beside an error: %d", got)
					}
				}
			}
		}
	}
}

func TestP7_2AComparatorWritesIntoCopies(t *testing.T) {
	behind := sample.Str("behind")
	a := spared(record(), behind)
	both := []api.Value{behind, behind, behind}
	hooks := api.Hooks{Compare: []api.Comparator{func(l, m []api.Value) (int, error) {
		for _, k := range [][]api.Value{l[:cap(l)], m[:cap(m)]} {
			for i := range k {
				k[i] = sample.Int(-99)
			}
		}
		return 1, nil
	}}}
	for range 2 {
		if got, err := key.Compare(api.Def{Compare: 0}, hooks, a, a); got != 1 || err != nil {
			t.Errorf("tells %d, %v", got, err)
		}
		if !sample.RowsAlike(a[:6], append(record(), both...)) {
			t.Fatalf("what was handed in is changed: %v", a[:6])
		}
	}
}

// ids rise, from one end to the other.
func ids() []int64 {
	return []int64{math.MinInt64, math.MinInt64 + 1, -1 << 32, -1, 0, 1, 2, 1 << 32, math.MaxInt64 - 1, math.MaxInt64}
}

func TestP7_3ByKeysFirst(t *testing.T) {
	keys := rising()
	for i, a := range keys {
		for j, b := range keys {
			for _, pair := range [][2]int64{{0, 0}, {9, 1}, {1, 9}, {math.MinInt64, math.MaxInt64}, {math.MaxInt64, math.MinInt64}} {
				want := sign(i - j)
				if i == j && pair[0] != pair[1] {
					want = -1
					if pair[0] > pair[1] {
						want = 1
					}
				}
				if got := key.Order(api.Entry{Key: a, Id: pair[0]}, api.Entry{Key: slices.Clone(b), Id: pair[1]}); got != want {
					t.Fatalf("Order(%v %d, %v %d) tells %d", a, pair[0], b, pair[1], got)
				}
			}
		}
	}
}

func TestP7_3OfOneKeyById(t *testing.T) {
	for _, k := range [][]api.Value{nil, record(), {sample.Float(sample.QuietNaN())}, {sample.Float(sample.MinusNought())}, sample.NoValues()} {
		for i, m := range ids() {
			for j, n := range ids() {
				if got := key.Order(api.Entry{Key: k, Id: m}, api.Entry{Key: slices.Clone(k), Id: n}); got != sign(i-j) {
					t.Errorf("%v: %d against %d tells %d", k, m, n, got)
				}
			}
		}
	}
	if key.Order(api.Entry{}, api.Entry{Key: []api.Value{}}) != 0 {
		t.Error("a nil key and an empty one aren't the same")
	}
}

func TestP7_3EntriesSorted(t *testing.T) {
	var want []api.Entry
	for _, k := range rising() {
		for _, id := range ids() {
			want = append(want, api.Entry{Key: k, Id: id})
		}
	}
	got := slices.Clone(want)
	slices.Reverse(got)
	for i := range got {
		j := i * 7919 % len(got)
		got[i], got[j] = got[j], got[i]
	}
	slices.SortFunc(got, key.Order)
	same := func(a, b api.Entry) bool { return a.Id == b.Id && sample.RowsAlike(a.Key, b.Key) }
	if !slices.EqualFunc(got, want, same) {
		t.Error("entries sorted by Order don't stand as they should")
	}
}

// What is told of fields and by the order of values, and what is refused for want of a number, asks no user code.
func TestP7_4WithoutUserCode(t *testing.T) {
	hooks, vals := untouched(t), record()
	tells(t, def(), hooks, vals, nil)
	tells(t, def(field(2), field(0)), hooks, vals, []api.Value{vals[2], vals[0]})
	refuses(t, def(field(3), extractor(0)), hooks, vals)
	refuses(t, def(extractor(1), extractor(0)), hooks, vals)
	if n, err := key.Compare(api.Def{Kind: api.UniqueOrdered, Parts: []api.Part{extractor(0)}, Compare: -1}, hooks, vals, vals[:1]); n != 1 || err != nil {
		t.Errorf("Compare tells %d, %v", n, err)
	}
	if n, err := key.Compare(api.Def{Compare: 1}, hooks, vals, vals); n != 0 || err != api.ErrKey {
		t.Errorf("Compare tells %d, %v", n, err)
	}
	if n := key.Order(api.Entry{Key: vals}, api.Entry{Key: vals[:1]}); n != 1 {
		t.Errorf("Order tells %d", n)
	}
}

// What a field or the order of values tells hangs on no hook: it is the same with hooks that all fail.
func TestP7_4HooksThatFailChangeNothing(t *testing.T) {
	for _, bad := range failings() {
		hooks := api.Hooks{Extract: []api.Extractor{bad.extract}, Compare: []api.Comparator{bad.compare}}
		tells(t, def(field(1), field(0)), hooks, record(), []api.Value{sample.Str("a"), sample.Int(5)})
		if n, err := key.Compare(api.Def{Compare: -1}, hooks, record(), record()[:2]); n != 1 || err != nil {
			t.Errorf("Compare tells %d, %v", n, err)
		}
	}
}

// TestArgumentsStay: lists that are handed in, and the room behind them, are as they were.
func TestArgumentsStay(t *testing.T) {
	calls := ""
	hooks := lettered(&calls)
	behind := sample.Str("behind")
	a, b := spared(record(), behind), spared(record()[:2], behind)
	for _, p := range pieces() {
		parts := []api.Part{field(0), extractor(0), p.part, field(1), {Field: 77, Hook: 78}}
		was := slices.Clone(parts)
		key.Of(def(parts[:4]...), hooks, a)
		if !slices.Equal(parts, was) {
			t.Errorf("the parts are %v", parts)
		}
	}
	for n := -2; n < 2; n++ {
		key.Compare(api.Def{Compare: n}, hooks, a, b)
	}
	key.Order(api.Entry{Key: a, Id: 1}, api.Entry{Key: b, Id: 2})
	if !sample.RowsAlike(a[:6], append(record(), behind, behind, behind)) || !sample.RowsAlike(b[:5], append(record()[:2], behind, behind, behind)) {
		t.Errorf("the keys are %v, %v", a[:6], b[:5])
	}
	if len(hooks.Extract) != 6 || hooks.Extract[5] != nil || slices.ContainsFunc(hooks.Extract[:5], func(f api.Extractor) bool { return f == nil }) {
		t.Error("the hooks are others")
	}
}
