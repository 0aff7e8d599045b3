package undo_test

import (
	"errors"
	"fmt"
	"math"
	"math/rand"
	"reflect"
	"runtime"
	"slices"
	"strings"
	"testing"
	"unsafe"
	"weak"

	"rialto/undo"
)

// ending is one of the ways in which a function ends that is handed to Do.
type ending int

const (
	well ending = iota
	fails
	panics
)

// endings are all of them.
func endings() []ending { return []ending{well, fails, panics} }

func (e ending) String() string { return []string{"well", "fails", "panics"}[e] }

// failed is an error that can be held against another.
type failed struct{ n int }

func (failed) Error() string { return "failed" }

// thrown is what panics.
type thrown struct{ n int }

// caught calls f, and tells what it told, whether it panicked, and with what.
func caught(f func() error) (err error, panicked bool, with any) {
	panicked = true
	defer func() {
		if panicked {
			with = recover()
		}
	}()
	err = f()
	return err, false, nil
}

// outside are numbers that are no marks of a log with n in it.
func outside(n int) []int {
	return []int{math.MinInt, math.MinInt + 1, math.MinInt32, -1 << 32, -n - 1, -2, -1, n + 1, n + 2, 2*n + 3, 1<<32 + n/2, math.MaxInt32, math.MaxInt - 1, math.MaxInt}
}

// both does each step with a log and with a plain list beside it, and looks behind it at which backs were called,
// and at how many are in the log.
type both struct {
	t      *testing.T
	log    *undo.Log
	list   []int // the numbers of those in the log
	made   int
	called []int
	wanted []int
	ends   int
	steps  []string
}

func begin(t *testing.T) *both {
	t.Helper()
	b := &both{t: t, log: undo.New()}
	b.look("New")
	return b
}

// filled has n in it already.
func filled(t *testing.T, n int) *both {
	t.Helper()
	b := begin(t)
	for range n {
		b.add()
	}
	return b
}

func (b *both) fail(form string, args ...any) {
	b.t.Helper()
	b.t.Fatalf("%s, %d in the log: %s", strings.Join(b.steps[max(0, len(b.steps)-30):], ", "), len(b.list), fmt.Sprintf(form, args...))
}

func (b *both) look(step string) {
	b.t.Helper()
	b.steps = append(b.steps, step)
	if !slices.Equal(b.called, b.wanted) {
		b.fail("called %v, wanted %v", b.called, b.wanted)
	}
	for range 2 {
		if length, mark := b.log.Len(), b.log.Mark(); length != len(b.list) || mark != len(b.list) {
			b.fail("Len tells %d, Mark %d", length, mark)
		}
	}
}

func (b *both) add() {
	b.t.Helper()
	n := b.made
	b.made++
	b.list = append(b.list, n)
	b.log.Add(func() { b.called = append(b.called, n) })
	b.look("Add")
}

// has tells whether mark is one.
func (b *both) has(mark int) bool { return mark >= 0 && mark <= len(b.list) }

// undone does with the list what Back does.
func (b *both) undone(mark int) {
	if !b.has(mark) {
		return
	}
	for i := len(b.list) - 1; i >= mark; i-- {
		b.wanted = append(b.wanted, b.list[i])
	}
	b.list = b.list[:mark]
}

func (b *both) back(mark int) {
	b.t.Helper()
	want := b.has(mark)
	b.undone(mark)
	got := b.log.Back(mark)
	b.look(fmt.Sprintf("Back(%d)", mark))
	if got != want {
		b.fail("tells %t", got)
	}
}

func (b *both) keep(mark int) {
	b.t.Helper()
	want := b.has(mark)
	if want {
		b.list = b.list[:mark]
	}
	got := b.log.Keep(mark)
	b.look(fmt.Sprintf("Keep(%d)", mark))
	if got != want {
		b.fail("tells %t", got)
	}
}

// wrong makes the calls with marks that are none.
func (b *both) wrong() {
	b.t.Helper()
	for _, mark := range outside(len(b.list)) {
		b.back(mark)
		b.keep(mark)
	}
}

// do has Do run body, and end in one of the ways.
func (b *both) do(end ending, body func()) {
	b.t.Helper()
	b.ends++
	told, with := failed{b.ends}, &thrown{b.ends}
	b.doing(func() error {
		body()
		switch end {
		case fails:
			return told
		case panics:
			panic(with)
		}
		return nil
	}, end, told, with)
}

// doing looks whether Do of f, which ends in that way with that error, or by a panic with that, tells so, and
// leaves log and list alike.
func (b *both) doing(f func() error, end ending, told error, with any) {
	b.t.Helper()
	mark, times := len(b.list), 0
	err, panicked, p := caught(func() error {
		return b.log.Do(func() error {
			times++
			b.look("Do(")
			return f()
		})
	})
	if end != well {
		b.undone(mark)
	}
	b.look(end.String() + ")")
	switch {
	case times != 1:
		b.fail("Do called its function %d times", times)
	case end == well && (err != nil || panicked):
		b.fail("Do tells %v, panicked %t with %v", err, panicked, p)
	case end == fails && (err != told || panicked):
		b.fail("Do tells %v, panicked %t with %v", err, panicked, p)
	case end == panics && (err != nil || !panicked || p != with):
		b.fail("Do tells %v, panicked %t with %v", err, panicked, p)
	}
}

// step is one of a row of calls.
type step struct {
	name string
	mark func(n int) int // of a log with n in it
	end  ending
}

// steps are those of which rows are made. What stands behind a Do( up to its ) is done within it.
func steps() []step {
	nought := func(int) int { return 0 }
	one := func(int) int { return 1 }
	under := func(n int) int { return n - 1 }
	all := func(n int) int { return n }
	above := func(n int) int { return n + 1 }
	l := []step{{name: "Add"}, {name: "Do("}}
	for _, end := range endings() {
		l = append(l, step{name: ")", end: end})
	}
	for _, mark := range []func(int) int{nought, one, under, all, above} {
		l = append(l, step{name: "Back", mark: mark}, step{name: "Keep", mark: mark})
	}
	return l
}

// run does the row of calls up to the end of what it is in, and tells what is left of the row, and how it ends.
func (b *both) run(row []step) ([]step, ending) {
	b.t.Helper()
	for len(row) > 0 {
		s := row[0]
		row = row[1:]
		switch s.name {
		case "Add":
			b.add()
		case "Back":
			b.back(s.mark(len(b.list)))
		case "Keep":
			b.keep(s.mark(len(b.list)))
		case "Do(":
			row = b.within(row)
		default:
			return row, s.end
		}
	}
	return nil, well
}

// within has Do do the row up to its end, and tells what is left of it.
func (b *both) within(row []step) []step {
	b.t.Helper()
	end := ended(row)
	b.do(end, func() { row, _ = b.run(row) })
	return row
}

// ended tells how what the row stands in ends.
func ended(row []step) ending {
	depth := 0
	for _, s := range row {
		switch {
		case s.name == "Do(":
			depth++
		case s.name == ")" && depth == 0:
			return s.end
		case s.name == ")":
			depth--
		}
	}
	return well
}

// whole does all of the row; of one that has more ends than beginnings too.
func (b *both) whole(row []step) {
	b.t.Helper()
	for len(row) > 0 {
		row, _ = b.run(row)
	}
}

// rows goes through all rows of n steps.
func rows(n int, use func(row []step)) {
	row := make([]step, 0, n)
	var more func()
	more = func() {
		if len(row) == n {
			use(row)
			return
		}
		for _, s := range steps() {
			row = append(row, s)
			more()
			row = row[:len(row)-1]
		}
	}
	more()
}

func TestP16AllShortRows(t *testing.T) {
	for n := range 5 {
		for had := range 3 {
			rows(n, func(row []step) {
				b := filled(t, had)
				b.whole(row)
				b.back(0)
			})
		}
	}
}

func TestP16LongRows(t *testing.T) {
	for seed := range 300 {
		r := rand.New(rand.NewSource(int64(seed)))
		l := steps()
		many := []int{0, 3, 20}[seed%3]
		for range many { // so that more is added than taken out
			l = append(l, step{name: "Add"})
		}
		l = append(l, step{name: "Back", mark: func(n int) int { return r.Intn(n+3) - 1 }})
		l = append(l, step{name: "Keep", mark: func(n int) int { return r.Intn(n+3) - 1 }})
		row := make([]step, 300)
		for i := range row {
			row[i] = l[r.Intn(len(l))]
		}
		b := begin(t)
		b.whole(row)
		b.wrong()
		b.back(0)
	}
}

func TestP16_1AnEmptyLog(t *testing.T) {
	b := begin(t)
	b.wrong()
	b.back(0)
	b.keep(0)
	b.wrong()
	b.add()
	b.back(0)
	b.wrong()
	b.back(0)
	b.add()
	b.keep(0)
	b.wrong()
	b.keep(0)
}

func TestP16_1MarksThatAreNone(t *testing.T) {
	for _, n := range []int{0, 1, 2, 3, 8, 100} {
		b := filled(t, n)
		b.wrong()
		b.back(n)
		b.keep(n)
		b.wrong()
		b.back(0)
	}
}

func TestP16_1BackToEachMark(t *testing.T) {
	for n := range 12 {
		for mark := range n + 1 {
			b := filled(t, n)
			b.back(mark)
			b.back(mark) // it is Len now
			b.wrong()
			b.add()
			b.back(mark)
			b.back(0)
		}
	}
}

func TestP16_1KeepToEachMark(t *testing.T) {
	for n := range 12 {
		for mark := range n + 1 {
			b := filled(t, n)
			b.keep(mark)
			b.keep(mark)
			b.wrong()
			b.add()
			b.keep(mark)
			b.back(0)
		}
	}
}

func TestP16_1AMarkAheadOfOthers(t *testing.T) {
	for first := range 4 {
		for second := range 4 {
			b := filled(t, first)
			outer := b.log.Mark()
			for range second {
				b.add()
			}
			inner := b.log.Mark()
			b.add()
			b.back(inner)
			b.add()
			b.add()
			b.back(outer)
			if inner > outer {
				b.back(inner) // it is above Len now
				b.keep(inner)
			}
			b.add()
			b.add()
			b.keep(outer)
			b.back(0)
		}
	}
}

// Marks may be taken down one by one: each goes on from where the one ahead of it left off.
func TestP16_1MarkByMark(t *testing.T) {
	for _, down := range []int{1, 2, 3} {
		b := filled(t, 30)
		for mark := 30; mark >= 0; mark -= down {
			b.back(mark)
		}
		b.back(0)
		b = filled(t, 30)
		for mark := 30; mark >= 0; mark -= 2 * down {
			b.back(mark)
			b.keep(max(mark-down, 0))
			b.add()
			b.keep(max(mark-down, 0))
		}
		b.back(0)
	}
}

func TestP16_1AddBehindBackAndKeep(t *testing.T) {
	b := filled(t, 4)
	b.back(2)
	b.add()
	b.add()
	b.add()
	b.keep(3)
	b.add()
	b.back(1)
	b.add()
	b.keep(0)
	b.add()
	b.back(0)
}

func TestP16_1TheSameBackTwice(t *testing.T) {
	l := undo.New()
	n := 0
	back := func() { n++ }
	for range 3 {
		l.Add(back)
	}
	if !l.Back(2) || n != 1 || !l.Back(0) || n != 3 || l.Len() != 0 {
		t.Errorf("a back that was added three times was called %d times", n)
	}
}

func TestP16_1LogsDontTouchOneAnother(t *testing.T) {
	a, b := filled(t, 3), filled(t, 2)
	a.back(1)
	b.add()
	a.keep(0)
	b.back(1)
	a.do(fails, func() {
		a.add()
		b.do(panics, func() { a.add(); b.add() })
		b.add()
	})
	a.back(0)
	b.look("")
	b.back(0)
	a.look("")
}

func TestP16_3OfMany(t *testing.T) {
	b := begin(t)
	const n = 100000
	add := func() { // b.add looks at all that were called
		k := b.made
		b.made++
		b.list = append(b.list, k)
		b.log.Add(func() { b.called = append(b.called, k) })
	}
	for range n {
		add()
	}
	b.back(n - 1000)
	b.keep(n - 2000)
	for range 3000 {
		add()
	}
	b.do(fails, func() {
		for range n {
			add()
		}
	})
	b.back(0)
}

func TestP16_2DoOfWhatAddsNothing(t *testing.T) {
	for _, end := range endings() {
		for n := range 4 {
			b := filled(t, n)
			b.do(end, func() {})
			b.do(end, func() { b.wrong() })
			b.back(0)
		}
	}
}

func TestP16_2DoOfWhatAdds(t *testing.T) {
	for _, end := range endings() {
		for ahead := range 4 {
			for within := range 4 {
				b := filled(t, ahead)
				b.do(end, func() {
					for range within {
						b.add()
					}
				})
				b.add()
				b.back(ahead)
				b.back(0)
			}
		}
	}
}

// What Do finds when it is to go back is what f left, whatever came between.
func TestP16_2DoOfWhatGoesBackItself(t *testing.T) {
	for _, end := range endings() {
		for mark := range 6 {
			for _, behind := range []int{0, 1, 4} {
				for _, out := range []func(b *both){func(b *both) { b.back(mark) }, func(b *both) { b.keep(mark) }} {
					b := filled(t, 3)
					b.do(end, func() {
						b.add()
						b.add()
						out(b)
						for range behind {
							b.add()
						}
					})
					b.wrong()
					b.back(0)
				}
			}
		}
	}
}

func TestP16_2DoWithinDo(t *testing.T) {
	for _, outer := range endings() {
		for _, middle := range endings() {
			for _, inner := range endings() {
				b := filled(t, 2)
				b.do(outer, func() {
					b.add()
					b.do(middle, func() {
						b.add()
						b.do(inner, func() { b.add(); b.add() })
						b.add()
						b.do(inner, func() {})
					})
					b.add()
					b.do(inner, func() { b.add() })
				})
				b.back(0)
			}
		}
	}
}

// An error that is told on, and a panic that nobody catches, go through each Do that is around them.
func TestP16_2OutOfOneDoThroughTheOthers(t *testing.T) {
	told, with := errors.New("no"), &thrown{}
	for _, depth := range []int{1, 2, 3, 50} {
		for _, end := range endings() {
			b := filled(t, 2)
			var into func(left int) error
			into = func(left int) error {
				b.add()
				b.add()
				if left == 0 {
					switch end {
					case fails:
						return told
					case panics:
						panic(with)
					}
					return nil
				}
				return b.log.Do(func() error { return into(left - 1) })
			}
			b.doing(func() error { return into(depth) }, end, told, with)
			b.add()
			b.back(0)
		}
	}
}

func TestP16_2TwoToTheSixteenWithinOneAnother(t *testing.T) {
	for _, end := range []ending{fails, panics} {
		l := undo.New()
		n, told, with := 0, errors.New("no"), &thrown{}
		const depth = 1 << 16
		var into func(left int) error
		into = func(left int) error {
			if left == 0 && end == fails {
				return told
			}
			if left == 0 {
				panic(with)
			}
			return l.Do(func() error {
				l.Add(func() {
					n++
					if n != left {
						t.Fatalf("%s: one at depth %d was called as number %d", end, left, n)
					}
				})
				return into(left - 1)
			})
		}
		err, panicked, p := caught(func() error { return into(depth) })
		if n != depth || l.Len() != 0 || (end == fails) != (err == told) || (end == panics) != (panicked && p == with) {
			t.Errorf("%s: %d called, %d left, %v, %v", end, n, l.Len(), err, p)
		}
	}
}

// list is an error that can't be held against another: == of two of them panics.
type list []string

func (list) Error() string { return "a list" }

// trap panics whatever it is asked.
type trap struct{ at []int }

func (trap) Error() string   { panic("Error was asked") }
func (trap) Is(error) bool   { panic("Is was asked") }
func (trap) As(any) bool     { panic("As was asked") }
func (trap) Unwrap() []error { panic("Unwrap was asked") }

// silent is a pointer that may be nil within an error that isn't.
type silent struct{}

func (*silent) Error() string { return "silent" }

// told are errors, some of them such as can't be asked anything.
func told() []error {
	return []error{
		errors.New("no"), errors.New(""), failed{}, failed{5}, &failed{5}, list{"a"}, list(nil), trap{}, &trap{}, (*silent)(nil), &silent{},
		errors.Join(failed{1}, list{}), fmt.Errorf("around: %w", failed{2}), &runtime.PanicNilError{}, runtime.Error(&runtime.TypeAssertionError{}),
	}
}

// one tells whether a and b are one thing, by the words that an interface is made of: == can't be asked of each, and
// isn't true of a NaN.
func one(a, b any) bool {
	return *(*[2]uintptr)(unsafe.Pointer(&a)) == *(*[2]uintptr)(unsafe.Pointer(&b))
}

func TestP16_2TheVeryErrorIsTold(t *testing.T) {
	for _, e := range told() {
		for depth := range 4 {
			l := undo.New()
			n := 0
			f := func() error { l.Add(func() { n++ }); return e }
			for range depth {
				within := f
				f = func() error { return l.Do(within) }
			}
			err, panicked, _ := caught(func() error { return l.Do(f) })
			if panicked || !one(err, e) || n != 1 || l.Len() != 0 {
				t.Errorf("%T: a %T told, %d called, %d left", e, err, n, l.Len())
			}
		}
	}
}

func TestP16_2TheVeryPanicGoesOn(t *testing.T) {
	all := []any{5, 0, "", "x", 1.5, math.NaN(), true, false, []int{1}, []int(nil), map[string]int{"a": 1}, [2]int{1, 2}, struct{}{}, struct{ l []int }{[]int{1}}, func() {}, new(int), (*int)(nil), make(chan int), undo.New(), failed{}, thrown{}}
	for _, e := range told() {
		all = append(all, e)
	}
	for _, with := range all {
		for depth := range 4 {
			l := undo.New()
			n := 0
			f := func() error { l.Add(func() { n++ }); panic(with) }
			for range depth {
				within := f
				f = func() error { return l.Do(within) }
			}
			err, panicked, p := caught(func() error { return l.Do(f) })
			if !panicked || err != nil || !one(p, with) || n != 1 || l.Len() != 0 {
				t.Errorf("%T: panicked %t with a %T, a %T told, %d called, %d left", with, panicked, p, err, n, l.Len())
			}
		}
	}
}

func TestP16_2APanicOfNil(t *testing.T) {
	b := filled(t, 1)
	err, panicked, p := caught(func() error {
		return b.log.Do(func() error { b.add(); b.add(); panic(nil) })
	})
	b.undone(1)
	b.look("Do")
	if _, made := p.(*runtime.PanicNilError); !made || !panicked || err != nil {
		t.Errorf("panicked %t with a %T, a %T told", panicked, p, err)
	}
}

func TestP16_2APanicOfNilThatStaysNil(t *testing.T) {
	t.Setenv("GODEBUG", "panicnil=1")
	for depth := range 3 {
		l := undo.New()
		n := 0
		f := func() error { l.Add(func() { n++ }); panic(nil) }
		for range depth {
			within := f
			f = func() error { return l.Do(within) }
		}
		err, panicked, p := caught(func() error { return l.Do(f) })
		if !panicked || p != nil || err != nil || n != 1 || l.Len() != 0 {
			t.Errorf("panicked %t with a %T, a %T told, %d called, %d left", panicked, p, err, n, l.Len())
		}
	}
}

// broken are functions that Go itself makes panic.
func broken() map[string]func() error {
	var m map[string]int
	var l []int
	var p *thrown
	var f func() error
	nought := 0
	return map[string]func() error{
		"a nil map":      func() error { m["a"] = 1; return nil },
		"no such place":  func() error { l[5]++; return nil },
		"a nil pointer":  func() error { p.n++; return nil },
		"a nil function": func() error { return f() },
		"by nought":      func() error { nought = 5 / nought; return nil },
		"too long":       func() error { l = make([]int, nought-1); return nil },
		"a wrong type":   func() error { return failed{any("x").(int)} },
		"two lists":      func() error { return map[bool]error{true: failed{1}}[error(list{}) == error(list{})] },
	}
}

func TestP16_2APanicOfTheLanguage(t *testing.T) {
	for name, end := range broken() {
		_, _, want := caught(end)
		b := filled(t, 1)
		err, panicked, p := caught(func() error {
			return b.log.Do(func() error { b.add(); b.add(); return end() })
		})
		b.undone(1)
		b.look("Do of " + name)
		if _, is := p.(runtime.Error); !is || !panicked || err != nil || !reflect.DeepEqual(p, want) {
			t.Errorf("%s: panicked %t with %v, wanted %v, a %T told", name, panicked, p, want, err)
		}
	}
}

// What f defers is done ahead of the backs, and what it adds there is called too.
func TestP16_2WhatIsDeferredWithin(t *testing.T) {
	for _, end := range []ending{fails, panics} {
		l := undo.New()
		out := ""
		add := func(s string) { l.Add(func() { out += s }) }
		add("x")
		err, panicked, p := caught(func() error {
			return l.Do(func() error {
				add("a")
				defer func() { out += "-"; add("b") }()
				if end == fails {
					return failed{1}
				}
				panic(5)
			})
		})
		if out != "-ba" || l.Len() != 1 || (end == fails) != (err == failed{1}) || (end == panics) != (panicked && p == 5) {
			t.Errorf("%s: %s, %d left, %v, %v", end, out, l.Len(), err, p)
		}
	}
}

func TestP16_2APanicThatTheFunctionCatchesItself(t *testing.T) {
	for _, end := range endings() {
		b := filled(t, 1)
		told, with := failed{1}, &thrown{1}
		b.doing(func() (err error) {
			b.add()
			defer func() {
				recover()
				switch end {
				case fails:
					err = told
				case panics:
					panic(with)
				}
			}()
			b.add()
			panic("another")
		}, end, told, with)
		b.back(0)
	}
}

func TestP16_2APanicBehindAnErrorInTheResult(t *testing.T) {
	b := filled(t, 1)
	b.doing(func() (err error) {
		b.add()
		err = failed{1}
		panic(5)
	}, panics, nil, 5)
	b.back(0)
}

// A Do that runs while a panic goes on leaves that one alone.
func TestP16_2DoWhileAPanicGoesOn(t *testing.T) {
	for _, outer := range []*both{nil, filled(t, 2)} {
		for _, end := range endings() {
			b := outer
			if b == nil { // two logs
				b = filled(t, 2)
			}
			around := func(f func() error) error { return f() }
			if outer != nil { // within a Do of the same log
				around = outer.log.Do
			}
			mark := len(b.list)
			_, panicked, p := caught(func() error {
				return around(func() error {
					defer func() {
						b.add()
						b.do(end, func() { b.add(); b.add() })
					}()
					b.add()
					panic("outer")
				})
			})
			if outer != nil {
				b.undone(mark)
			}
			b.look("around")
			if !panicked || p != "outer" {
				t.Errorf("%s: panicked %t with %v", end, panicked, p)
			}
			b.back(1)
			b.add()
		}
	}
}

// heavy is what a back holds on to.
type heavy struct{ room [1 << 10]int }

// watched adds n backs that hold on to something each, and tells these.
func watched(l *undo.Log, n int) []weak.Pointer[heavy] {
	var all []weak.Pointer[heavy]
	for range n {
		h := &heavy{}
		all = append(all, weak.Make(h))
		l.Add(func() { h.room[0]++ })
	}
	return all
}

// held looks whether of what backs hold on to just those that are in the log yet are kept.
func held(t *testing.T, what string, l *undo.Log, all []weak.Pointer[heavy]) {
	t.Helper()
	runtime.GC()
	for i, p := range all {
		if kept := p.Value() != nil; kept != (i < l.Len()) {
			t.Fatalf("%s: of %d backs, %d of them in the log, that of place %d is kept: %t", what, len(all), l.Len(), i, kept)
		}
	}
	runtime.KeepAlive(l)
}

func TestWhatIsOutIsNotKept(t *testing.T) {
	for _, n := range []int{1, 2, 3, 40} {
		l := undo.New()
		all := watched(l, n)
		held(t, "Add", l, all)
		l.Back(n - n/3)
		held(t, "Back", l, all)
		l.Keep(n / 2)
		held(t, "Keep", l, all)
		for _, end := range []ending{fails, panics} {
			var within []weak.Pointer[heavy]
			caught(func() error {
				return l.Do(func() error {
					within = watched(l, n)
					if end == fails {
						return failed{}
					}
					panic(5)
				})
			})
			held(t, "Do that "+end.String(), l, slices.Concat(all[:l.Len()], within))
		}
		l.Back(0)
		held(t, "Back to 0", l, all)
	}
}
