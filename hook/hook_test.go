package hook_test

import (
	"errors"
	"math"
	"reflect"
	"runtime"
	"slices"
	"strconv"
	"strings"
	"testing"
	"unsafe"

	"rialto/api"
	"rialto/hook"
	"rialto/sample"
)

// failed is an error that can be held against another.
type failed struct{ n int }

func (failed) Error() string { return "failed" }

// list is an error that can't be: == of two of them panics.
type list []string

func (list) Error() string { return "a list" }

// trap panics whatever it is asked.
type trap struct{ at []int }

func (trap) Error() string   { panic("Error was asked") }
func (trap) Is(error) bool   { panic("Is was asked") }
func (trap) As(any) bool     { panic("As was asked") }
func (trap) Unwrap() []error { panic("Unwrap was asked") }

// liar tells that it is any error and holds any, and sets none.
type liar struct{}

func (liar) Error() string { return "" }
func (liar) Is(error) bool { return true }
func (liar) As(any) bool   { return true }

// silent is a pointer that may be nil within an error that isn't.
type silent struct{}

func (*silent) Error() string { return "silent" }

// told are errors of user code, some of them such as can't be asked anything.
func told() []error {
	return []error{
		errors.New("no"), failed{}, failed{5}, &failed{5}, list{"a"}, list(nil), trap{}, &trap{}, liar{}, (*silent)(nil), errors.Join(failed{1}, list{}),
		api.OK, api.ErrValue, api.ErrCallback, api.ErrDuplicate, api.Errno(-1), &api.Twice{Where: "j", Id: 5},
		&api.Fault{}, &api.Fault{Where: "j", Err: failed{5}}, &api.Fault{Where: "j", Panic: 5}, (*api.Fault)(nil),
	}
}

// thrown are what user code panics with, besides errors.
func thrown() []any {
	return []any{5, 0, "", "x", 1.5, true, false, math.NaN(), []int{1}, map[string]int{"a": 1}, [2]int{1, 2}, struct{}{}, struct{ l []int }{[]int{1}}, func() {}, new(int), (*int)(nil), make(chan int), func() error { return nil }}
}

// one tells whether a and b are one thing: where == can't be asked, or a pointer's target may be like another's, by the words that an interface is made of.
func one(a, b any) bool {
	if *(*[2]uintptr)(unsafe.Pointer(&a)) == *(*[2]uintptr)(unsafe.Pointer(&b)) {
		return true
	}
	return reflect.ValueOf(a).Kind() != reflect.Pointer && reflect.DeepEqual(a, b)
}

// faultOf tells the fault that err is, and looks whether errors.Is and errors.As find it.
func faultOf(t *testing.T, err error) *api.Fault {
	t.Helper()
	if err == nil {
		t.Fatal("no error was told")
	}
	f, is := err.(*api.Fault)
	if !is || f == nil {
		t.Fatalf("the error is a %T", err)
	}
	var found *api.Fault
	if !errors.As(err, &found) || found != f {
		t.Fatal("errors.As doesn't find the fault")
	}
	if !errors.Is(err, api.ErrCallback) {
		t.Fatal("errors.Is doesn't hold of ErrCallback")
	}
	return f
}

// bears looks whether err is a fault with just that.
func bears(t *testing.T, err error, where string, told error, panicked any) {
	t.Helper()
	f := faultOf(t, err)
	if f.Where != where {
		t.Errorf("Where is %q, wanted %q", f.Where, where)
	}
	if !one(f.Err, told) {
		t.Errorf("Err is a %T, wanted a %T", f.Err, told)
	}
	if !one(f.Panic, panicked) {
		t.Errorf("Panic is a %T, wanted a %T", f.Panic, panicked)
	}
}

// outcome is what a call told: whether the other result is zero, and the error.
type outcome struct {
	zero bool
	err  error
}

// call is one of the layer's calls, with user code that ends as it is told.
type call struct {
	name   string
	placed bool
	run    func(where string, end func() error) outcome
	none   func(where string) outcome
}

// calls are all five; the functions tell something beside their error.
func calls() []call {
	vals := []api.Value{sample.Int(5), sample.Str("a")}
	ofExtract := func(v api.Value, err error) outcome { return outcome{sample.Alike(v, api.Value{}), err} }
	ofMutate := func(l []api.Value, err error) outcome { return outcome{len(l) == 0, err} }
	ofCompare := func(n int, err error) outcome { return outcome{n == 0, err} }
	ofNothing := func(err error) outcome { return outcome{err != nil, err} }
	return []call{
		{"Run", true, func(where string, end func() error) outcome {
			return ofNothing(hook.Run(where, end))
		}, func(where string) outcome { return ofNothing(hook.Run(where, nil)) }},
		{"Extract", true, func(where string, end func() error) outcome {
			return ofExtract(hook.Extract(where, func(l []api.Value) (api.Value, error) { return l[0], end() }, vals))
		}, func(where string) outcome { return ofExtract(hook.Extract(where, nil, vals)) }},
		{"Mutate", false, func(where string, end func() error) outcome {
			return ofMutate(hook.Mutate(func(l []api.Value) ([]api.Value, error) { return l, end() }, vals))
		}, func(where string) outcome { return ofMutate(hook.Mutate(nil, vals)) }},
		{"Compare", true, func(where string, end func() error) outcome {
			return ofCompare(hook.Compare(where, func(a, b []api.Value) (int, error) { return -7, end() }, vals, vals))
		}, func(where string) outcome { return ofCompare(hook.Compare(where, nil, vals, vals)) }},
		{"Observe", false, func(where string, end func() error) outcome {
			return ofNothing(hook.Observe(func(api.Change) error { return end() }, api.Change{Table: "t", Id: 5, After: vals}))
		}, func(where string) outcome { return ofNothing(hook.Observe(nil, api.Change{Table: "t"})) }},
	}
}

// places are what Where may be: a name, nothing, what is no name.
func places() []string {
	return []string{"", "i", "by_name", strings.Repeat("x", 20), "\x00", "I \u00E9\xFF", strings.Repeat("y", 1000)}
}

// each goes through all calls at all places, with the Where that their faults must have.
func each(t *testing.T, f func(t *testing.T, c call, where, wanted string)) {
	for _, c := range calls() {
		t.Run(c.name, func(t *testing.T) {
			for _, where := range places() {
				wanted := where
				if !c.placed {
					wanted = ""
				}
				f(t, c, where, wanted)
			}
		})
	}
}

func TestP6_1Run(t *testing.T) {
	for _, where := range places() {
		n := 0
		if err := hook.Run(where, func() error { n++; return nil }); err != nil || n != 1 {
			t.Errorf("Run(%q) tells %v, called %d times", where, err, n)
		}
	}
}

func TestP6_1Example(t *testing.T) {
	bears(t, hook.Run("i", func() error { panic(5) }), "i", nil, 5)
}

func TestP6_1NoErrorAndCalledOnce(t *testing.T) {
	each(t, func(t *testing.T, c call, where, _ string) {
		n := 0
		got := c.run(where, func() error { n++; return nil })
		if got.err != nil || got.zero || n != 1 {
			t.Errorf("at %q: %v, nothing told: %v, called %d times", where, got.err, got.zero, n)
		}
	})
}

func TestP6_1AnErrorIsBorne(t *testing.T) {
	each(t, func(t *testing.T, c call, where, wanted string) {
		for _, e := range told() {
			n := 0
			got := c.run(where, func() error { n++; return e })
			bears(t, got.err, wanted, e, nil)
			if !got.zero || n != 1 {
				t.Errorf("%T at %q: something told beside an error, or called %d times", e, where, n)
			}
		}
	})
}

func TestP6_1APanicIsBorne(t *testing.T) {
	all := thrown()
	for _, e := range told() {
		all = append(all, e)
	}
	each(t, func(t *testing.T, c call, where, wanted string) {
		for _, p := range all {
			n := 0
			got := c.run(where, func() error { n++; panic(p) })
			bears(t, got.err, wanted, nil, p)
			if !got.zero || n != 1 {
				t.Errorf("%T at %q: something told beside a panic, or called %d times", p, where, n)
			}
		}
	})
}

func TestP6_1APanicOfNil(t *testing.T) {
	each(t, func(t *testing.T, c call, where, wanted string) {
		got := c.run(where, func() error { panic(nil) })
		f := faultOf(t, got.err)
		if _, made := f.Panic.(*runtime.PanicNilError); !made || f.Err != nil || f.Where != wanted || !got.zero {
			t.Errorf("at %q: %#v, nothing told: %v", where, f, got.zero)
		}
	})
}

func TestP6_1APanicOfNilThatStaysNil(t *testing.T) {
	t.Setenv("GODEBUG", "panicnil=1")
	each(t, func(t *testing.T, c call, where, wanted string) {
		got := c.run(where, func() error { panic(nil) })
		bears(t, got.err, wanted, nil, nil)
		if !got.zero {
			t.Errorf("at %q: something told beside a panic", where)
		}
	})
}

func TestP6_1NoFunction(t *testing.T) {
	each(t, func(t *testing.T, c call, where, wanted string) {
		got := c.none(where)
		bears(t, got.err, wanted, api.ErrCallback, nil)
		if !got.zero {
			t.Errorf("at %q: something told beside an error", where)
		}
	})
}

// broken are functions that Go itself makes panic.
func broken() map[string]func() error {
	var m map[string]int
	var l []int
	var p *api.Row
	var f func() error
	var e error
	nought := 0
	return map[string]func() error{
		"a nil map":      func() error { m["a"] = 1; return nil },
		"no such place":  func() error { l[5]++; return nil },
		"a nil pointer":  func() error { p.Id++; return nil },
		"a nil function": func() error { return f() },
		"a nil error":    func() error { return errors.New(e.Error()) },
		"by nought":      func() error { nought = 5 / nought; return nil },
		"too long":       func() error { l = make([]int, nought-1); return nil },
		"a wrong type":   func() error { return failed{any("x").(int)} },
		"two lists":      func() error { return map[bool]error{true: failed{1}}[error(list{}) == error(list{})] },
	}
}

func TestP6_1APanicOfTheLanguage(t *testing.T) {
	for name, end := range broken() {
		each(t, func(t *testing.T, c call, where, wanted string) {
			got := c.run(where, end)
			f := faultOf(t, got.err)
			if _, is := f.Panic.(runtime.Error); !is || f.Err != nil || f.Where != wanted || !got.zero {
				t.Errorf("%s at %q: %#v", name, where, f)
			}
		})
	}
}

func TestP6_1APanicBehindAnErrorInTheResult(t *testing.T) {
	each(t, func(t *testing.T, c call, where, wanted string) {
		got := c.run(where, func() (err error) { err = failed{1}; panic(5) })
		bears(t, got.err, wanted, nil, 5)
		got = c.run(where, func() (err error) {
			defer func() { err = failed{recover().(int)} }()
			panic(6)
		})
		bears(t, got.err, wanted, failed{6}, nil)
		got = c.run(where, func() (err error) {
			defer func() { panic("second") }()
			panic("first")
		})
		if f := faultOf(t, got.err); f.Panic != "second" || f.Err != nil || f.Where != wanted {
			t.Errorf("at %q: %#v", where, f)
		}
		got = c.run(where, func() error {
			defer func() { recover() }()
			panic(6)
		})
		if got.err != nil {
			t.Errorf("at %q: a panic that the function caught itself is told: %v", where, got.err)
		}
	})
}

func TestP6_1OneWithinTheOther(t *testing.T) {
	each(t, func(t *testing.T, c call, where, wanted string) {
		for _, inner := range calls() {
			at := ""
			if inner.placed {
				at = "inner"
			}
			var within error
			got := c.run(where, func() error {
				within = inner.run("inner", func() error { return failed{1} }).err
				return within
			})
			bears(t, within, at, failed{1}, nil)
			bears(t, got.err, wanted, within, nil)

			got = c.run(where, func() error {
				within = inner.run("inner", func() error { panic(5) }).err
				panic(within)
			})
			bears(t, within, at, nil, 5)
			bears(t, got.err, wanted, nil, within)

			got = c.run(where, func() error {
				within = inner.run("inner", func() error { panic(5) }).err
				return nil
			})
			bears(t, within, at, nil, 5)
			if got.err != nil || got.zero {
				t.Errorf("%s within at %q: %v", inner.name, where, got.err)
			}
		}
	})
}

// A call that is made while another panic is under way must neither end that one nor take it for its own.
func TestP6_1WithinADeferredFunction(t *testing.T) {
	each(t, func(t *testing.T, c call, where, wanted string) {
		var fine, wrong outcome
		got := c.run(where, func() error {
			defer func() {
				fine = c.run("fine", func() error { recover(); return nil })
				wrong = c.run("wrong", func() error { return failed{1} })
			}()
			panic(5)
		})
		bears(t, got.err, wanted, nil, 5)
		if fine.err != nil || fine.zero {
			t.Errorf("at %q: %v of a call that went well", where, fine.err)
		}
		if f := faultOf(t, wrong.err); f.Err != (failed{1}) || f.Panic != nil {
			t.Errorf("at %q: %#v", where, f)
		}
	})
}

func TestP6_1ManyWithinOneAnother(t *testing.T) {
	const depth = 1000
	var down func(n int) error
	down = func(n int) error {
		if n == depth {
			panic("the last")
		}
		return hook.Run(strconv.Itoa(n), func() error { return down(n + 1) })
	}
	err := down(0)
	for n := range depth - 1 {
		f := faultOf(t, err)
		if f.Where != strconv.Itoa(n) || f.Panic != nil {
			t.Fatalf("the fault %d: %q, %v", n, f.Where, f.Panic)
		}
		err = f.Err
	}
	if f := faultOf(t, err); f.Panic != "the last" || f.Err != nil {
		t.Errorf("the last fault: %v, %v", f.Panic, f.Err)
	}
}

func TestP6_1EachFaultIsNew(t *testing.T) {
	each(t, func(t *testing.T, c call, where, wanted string) {
		kept := &api.Fault{Where: "kept", Err: failed{1}}
		first := faultOf(t, c.run(where, func() error { return kept }).err)
		second := faultOf(t, c.run("other", func() error { return kept }).err)
		if first == second || first == kept || second == kept || first.Where != wanted || *kept != (api.Fault{Where: "kept", Err: failed{1}}) {
			t.Errorf("at %q: %v, %v, %v", where, first, second, kept)
		}
	})
}

// noted makes user code note what it was handed, by copies.
func noted(into *[][]api.Value, lists ...[]api.Value) {
	for _, l := range lists {
		*into = append(*into, slices.Clone(l))
	}
}

// records are what calls are handed: all values, what is none, and nothing.
func records() [][]api.Value {
	l := [][]api.Value{nil, {}, {sample.Int(5)}, {sample.Str("a"), sample.Float(sample.LoadedNaN())}, sample.Rising(), sample.NoValues()}
	for _, v := range append(sample.Rising(), sample.NoValues()...) {
		l = append(l, []api.Value{v})
	}
	return l
}

func TestP6_2WhatIsHandedOver(t *testing.T) {
	for _, a := range records() {
		for _, b := range [][]api.Value{nil, {sample.Bool(1), sample.Bytes("\x00")}, a} {
			var got [][]api.Value
			hook.Extract("i", func(l []api.Value) (api.Value, error) { noted(&got, l); return sample.Int(0), nil }, a)
			hook.Mutate(func(l []api.Value) ([]api.Value, error) { noted(&got, l); return nil, nil }, a)
			hook.Compare("i", func(l, m []api.Value) (int, error) { noted(&got, l, m); return 0, nil }, a, b)
			hook.Observe(func(c api.Change) error {
				if c.Table != "t" || c.Id != -5 {
					t.Errorf("the observer is told of %q, %d", c.Table, c.Id)
				}
				noted(&got, c.Before, c.After)
				return nil
			}, api.Change{Table: "t", Id: -5, Before: a, After: b})
			want := [][]api.Value{a, a, a, b, a, b}
			if !slices.EqualFunc(got, want, sample.RowsAlike) {
				t.Errorf("handed over: %v, wanted %v", got, want)
			}
		}
	}
}

func TestP6_2AnObserverKnowsARowThatWasNotThere(t *testing.T) {
	vals := []api.Value{sample.Int(5)}
	for _, none := range [][]api.Value{nil, {}} {
		for _, c := range []api.Change{{Before: none, After: vals}, {Before: vals, After: none}, {Before: none, After: none}} {
			hook.Observe(func(got api.Change) error {
				if (got.Before == nil) != (len(c.Before) == 0) || (got.After == nil) != (len(c.After) == 0) {
					t.Errorf("of %v the observer is told %v", c, got)
				}
				return nil
			}, c)
		}
	}
}

// roomy tells vals with spare room that isn't empty.
func roomy(vals []api.Value) []api.Value {
	l := slices.Clone(vals)
	for range 4 {
		l = append(l, sample.Str("spare"))
	}
	return l[:len(vals)]
}

// whole tells l with the room behind it.
func whole(l []api.Value) []api.Value { return l[:cap(l)] }

// scribble writes into all of l, and into the room behind it; not by append, which would leave a full list for a new one.
func scribble(l []api.Value) {
	for i := range whole(l) {
		whole(l)[i] = sample.Int(-99)
	}
}

func TestP6_2WritingIntoCopiesChangesNothing(t *testing.T) {
	for _, vals := range records() {
		a, b := roomy(vals), roomy([]api.Value{sample.Str("b"), sample.Float(1)})
		wasA, wasB := slices.Clone(whole(a)), slices.Clone(whole(b))
		stay := func(call string) {
			t.Helper()
			if !sample.RowsAlike(whole(a), wasA) || !sample.RowsAlike(whole(b), wasB) {
				t.Fatalf("%s changes what it was handed", call)
			}
		}
		for _, e := range []error{nil, failed{}} {
			hook.Extract("i", func(l []api.Value) (api.Value, error) { scribble(l); return sample.Int(0), e }, a)
			stay("Extract")
			hook.Mutate(func(l []api.Value) ([]api.Value, error) { scribble(l); return l, e }, a)
			stay("Mutate")
			hook.Compare("i", func(l, m []api.Value) (int, error) { scribble(l); scribble(m); return 0, e }, a, b)
			stay("Compare")
			hook.Observe(func(c api.Change) error { scribble(c.Before); scribble(c.After); return e }, api.Change{Before: a, After: b})
			stay("Observe")
		}
		hook.Extract("i", func(l []api.Value) (api.Value, error) { scribble(l); panic(1) }, a)
		hook.Mutate(func(l []api.Value) ([]api.Value, error) { scribble(l); panic(1) }, a)
		hook.Compare("i", func(l, m []api.Value) (int, error) { scribble(l); scribble(m); panic(1) }, a, b)
		hook.Observe(func(c api.Change) error { scribble(c.Before); scribble(c.After); panic(1) }, api.Change{Before: a, After: b})
		stay("a panic")
	}
}

// Two lists that are handed over are two copies, also where one list was handed in for both.
func TestP6_2TwoCopiesShareNothing(t *testing.T) {
	both := roomy([]api.Value{sample.Int(1), sample.Str("b")})
	joined := []api.Value{sample.Int(1), sample.Str("b"), sample.Int(3), sample.Str("d")}
	for _, pair := range [][2][]api.Value{{both, both}, {joined[:2], joined[2:]}, {joined[2:], joined[:2]}, {joined[:3], joined[1:]}, {nil, joined}, {joined, nil}} {
		a, b := pair[0], pair[1]
		wasA, wasB := slices.Clone(a), slices.Clone(b)
		look := func(l, m []api.Value) {
			scribble(l)
			if !sample.RowsAlike(m, wasB) {
				t.Errorf("writing into the first changes the second: %v", m)
			}
			scribble(m)
		}
		hook.Compare("i", func(l, m []api.Value) (int, error) { look(l, m); return 0, nil }, a, b)
		hook.Observe(func(c api.Change) error { look(c.Before, c.After); return nil }, api.Change{Before: a, After: b})
		if !sample.RowsAlike(a, wasA) || !sample.RowsAlike(b, wasB) {
			t.Errorf("what was handed in is changed: %v, %v", a, b)
		}
	}
}

func TestP6_2WhatWasHandedOverMayBeKept(t *testing.T) {
	vals := []api.Value{sample.Int(5), sample.Str("a")}
	var kept [][]api.Value
	keep := func(lists ...[]api.Value) {
		for _, l := range lists {
			if !sample.RowsAlike(l, vals) {
				t.Errorf("handed over: %v", l)
			}
			for _, k := range kept {
				scribble(k)
			}
			if !sample.RowsAlike(l, vals) {
				t.Errorf("writing into what was handed over earlier changes %v", l)
			}
		}
		kept = append(kept, lists...)
	}
	var answers [][]api.Value
	for range 3 {
		v, _ := hook.Extract("i", func(l []api.Value) (api.Value, error) { keep(l); return l[1], nil }, vals)
		m, _ := hook.Mutate(func(l []api.Value) ([]api.Value, error) { keep(l); return l, nil }, vals)
		hook.Compare("i", func(a, b []api.Value) (int, error) { keep(a, b); return 0, nil }, vals, vals)
		hook.Observe(func(c api.Change) error { keep(c.Before, c.After); return nil }, api.Change{Before: vals, After: vals})
		answers = append(answers, []api.Value{v}, m)
	}
	for _, k := range kept {
		scribble(k)
	}
	for i, l := range answers {
		if want := [][]api.Value{{sample.Str("a")}, vals}[i%2]; !sample.RowsAlike(l, want) {
			t.Errorf("writing into what was handed over changes the answer %d: %v", i, l)
		}
	}
	if !sample.RowsAlike(vals, []api.Value{sample.Int(5), sample.Str("a")}) {
		t.Errorf("what was handed in is changed: %v", vals)
	}
}

func TestP6_2ExtractTellsValues(t *testing.T) {
	for _, v := range sample.Rising() {
		for _, vals := range [][]api.Value{nil, {v}} {
			n := 0
			got, err := hook.Extract("i", func([]api.Value) (api.Value, error) { n++; return v, nil }, vals)
			if err != nil || !sample.Alike(got, v) || n != 1 {
				t.Errorf("of %#v: %#v, %v, called %d times", v, got, err, n)
			}
			got, err = hook.Extract("i", func([]api.Value) (api.Value, error) { return v, failed{5} }, vals)
			bears(t, err, "i", failed{5}, nil)
			if !sample.Alike(got, api.Value{}) {
				t.Errorf("beside an error: %#v", got)
			}
		}
	}
	f := func(l []api.Value) (api.Value, error) { return sample.Int(l[0].Int + 1), nil }
	if v, err := hook.Extract("i", f, []api.Value{sample.Int(5)}); err != nil || !sample.Alike(v, sample.Int(6)) {
		t.Errorf("one more than 5: %v, %v", v, err)
	}
}

func TestP6_2ExtractTellsWhatIsNoValue(t *testing.T) {
	for _, where := range places() {
		for _, v := range sample.NoValues() {
			n := 0
			got, err := hook.Extract(where, func([]api.Value) (api.Value, error) { n++; return v, nil }, nil)
			bears(t, err, where, api.ErrValue, nil)
			if !sample.Alike(got, api.Value{}) || n != 1 {
				t.Errorf("of %#v: %#v, called %d times", v, got, n)
			}
			got, err = hook.Extract(where, func([]api.Value) (api.Value, error) { return v, failed{5} }, nil)
			bears(t, err, where, failed{5}, nil)
			if !sample.Alike(got, api.Value{}) {
				t.Errorf("of %#v beside an error: %#v", v, got)
			}
		}
	}
}

func TestP6_2MutateTellsTheRecord(t *testing.T) {
	for _, handed := range [][]api.Value{nil, {}, {sample.Int(5)}} {
		for _, l := range records() {
			n := 0
			got, err := hook.Mutate(func([]api.Value) ([]api.Value, error) { n++; return l, nil }, handed)
			if err != nil || !sample.RowsAlike(got, l) || n != 1 {
				t.Errorf("of %v: %v, %v, called %d times", l, got, err, n)
			}
			got, err = hook.Mutate(func([]api.Value) ([]api.Value, error) { return l, failed{5} }, handed)
			bears(t, err, "", failed{5}, nil)
			if len(got) != 0 {
				t.Errorf("beside an error: %v", got)
			}
		}
	}
	f := func(l []api.Value) ([]api.Value, error) { l[0].Int++; return append(l, sample.Bool(1)), nil }
	if l, err := hook.Mutate(f, []api.Value{sample.Int(5)}); err != nil || !sample.RowsAlike(l, []api.Value{sample.Int(6), sample.Bool(1)}) {
		t.Errorf("one more than 5, and one more value: %v, %v", l, err)
	}
}

func TestP6_2MutateTellsACopy(t *testing.T) {
	for _, l := range records() {
		kept := roomy(l)
		first, _ := hook.Mutate(func([]api.Value) ([]api.Value, error) { return kept, nil }, nil)
		second, _ := hook.Mutate(func([]api.Value) ([]api.Value, error) { return kept, nil }, kept)
		scribble(kept)
		if !sample.RowsAlike(first, l) || !sample.RowsAlike(second, l) {
			t.Fatalf("writing into what was told changes the answer: %v, %v", first, second)
		}
		kept = roomy(l)
		was := slices.Clone(whole(kept))
		first, _ = hook.Mutate(func([]api.Value) ([]api.Value, error) { return kept, nil }, kept)
		second, _ = hook.Mutate(func(l []api.Value) ([]api.Value, error) { return l, nil }, kept)
		scribble(first)
		if !sample.RowsAlike(whole(kept), was) || !sample.RowsAlike(second, l) {
			t.Fatalf("writing into the answer changes what user code has, or another answer: %v, %v", kept, second)
		}
	}
}

func TestP6_2CompareTellsASign(t *testing.T) {
	a, b := []api.Value{sample.Int(1)}, []api.Value{sample.Str("b")}
	for _, n := range []int{math.MinInt, math.MinInt + 1, -1 << 32, -256, -7, -2, -1, 0, 1, 2, 9, 256, 1 << 32, math.MaxInt - 1, math.MaxInt} {
		want := max(min(n, 1), -1)
		for _, pair := range [][2][]api.Value{{a, b}, {b, a}, {a, a}, {nil, nil}, {nil, a}, {a, {}}} {
			asked := 0
			got, err := hook.Compare("i", func([]api.Value, []api.Value) (int, error) { asked++; return n, nil }, pair[0], pair[1])
			if got != want || err != nil || asked != 1 {
				t.Errorf("of %d: %d, %v, called %d times", n, got, err, asked)
			}
			got, err = hook.Compare("i", func([]api.Value, []api.Value) (int, error) { return n, failed{5} }, pair[0], pair[1])
			bears(t, err, "i", failed{5}, nil)
			if got != 0 {
				t.Errorf("of %d beside an error: %d", n, got)
			}
		}
	}
	f := func(a, b []api.Value) (int, error) { return int(a[0].Int - b[0].Int), nil }
	for _, p := range [][3]int64{{1, 5, -1}, {5, 5, 0}, {9, 5, 1}} {
		if n, err := hook.Compare("i", f, []api.Value{sample.Int(p[0])}, []api.Value{sample.Int(p[1])}); err != nil || n != int(p[2]) {
			t.Errorf("%d against %d: %d, %v", p[0], p[1], n, err)
		}
	}
}

// A string may be a piece of a much longer one, which is neither handed over nor answered.
func TestP6_2NobodyHoldsOnToAText(t *testing.T) {
	long := strings.Repeat("abc", 1000)
	var handed []string
	hook.Observe(func(c api.Change) error {
		handed = append(handed, c.Table, c.Before[0].Str, c.After[0].Str)
		return nil
	}, api.Change{Table: long[3:6], Before: []api.Value{sample.Str(long[3:6])}, After: []api.Value{sample.Str(long[3:6])}})
	v, _ := hook.Extract("i", func([]api.Value) (api.Value, error) { return sample.Str(long[3:6]), nil }, nil)
	l, _ := hook.Mutate(func([]api.Value) ([]api.Value, error) { return []api.Value{sample.Str(long[3:6])}, nil }, nil)
	f := faultOf(t, hook.Run(long[3:6], nil))
	for _, s := range append(handed, v.Str, l[0].Str, f.Where) {
		if s != "abc" || unsafe.StringData(s) == unsafe.StringData(long[3:6]) {
			t.Errorf("%q is a piece of a longer text", s)
		}
	}
}

// What an error bears is found through the fault, but ErrCallback ahead of it, so that no error of user code is asked first.
func TestP6_3IsAndAs(t *testing.T) {
	each(t, func(t *testing.T, c call, where, wanted string) {
		for _, end := range []func() error{func() error { return failed{5} }, func() error { panic(failed{5}) }} {
			err := c.run(where, end).err
			var f failed
			if !errors.Is(err, failed{5}) || !errors.As(err, &f) || f.n != 5 {
				t.Errorf("at %q: what user code told isn't found", where)
			}
			var number api.Errno
			if !errors.As(err, &number) || number != api.ErrCallback {
				t.Errorf("at %q: the number is %d", where, number)
			}
			if errors.Is(err, failed{6}) || errors.Is(err, api.ErrValue) {
				t.Errorf("at %q: what user code didn't tell is found", where)
			}
			if found := faultOf(t, err); found.Where != wanted {
				t.Errorf("at %q: the fault's Where is %q", where, found.Where)
			}
		}
	})
}

func TestP6_3TheOuterFaultIsFoundFirst(t *testing.T) {
	each(t, func(t *testing.T, c call, where, wanted string) {
		inner := &api.Fault{Where: "inner", Err: failed{5}}
		for _, end := range []func() error{func() error { return inner }, func() error { panic(inner) }} {
			err := c.run(where, end).err
			if f := faultOf(t, err); f == inner || f.Where != wanted {
				t.Errorf("at %q: %v", where, f)
			}
			if !errors.Is(err, failed{5}) {
				t.Errorf("at %q: what the inner fault bears isn't found", where)
			}
		}
	})
}

// Calls know nothing of one another: what one met, the next one doesn't tell.
func TestP6_3ACallBehindAFault(t *testing.T) {
	each(t, func(t *testing.T, c call, where, wanted string) {
		for _, first := range []func() error{func() error { return failed{1} }, func() error { panic(5) }, func() error { return nil }} {
			c.run(where, first)
			if got := c.run(where, func() error { return nil }); got.err != nil || got.zero {
				t.Errorf("at %q: %v", where, got.err)
			}
			bears(t, c.run(where, func() error { return failed{2} }).err, wanted, failed{2}, nil)
			bears(t, c.run(where, func() error { panic("x") }).err, wanted, nil, "x")
		}
	})
}
