package table_test

import (
	"cmp"
	"errors"
	"fmt"
	"math"
	"math/rand"
	"reflect"
	"runtime"
	"slices"
	"strings"
	"testing"
	"unsafe"
	"weak"

	"rialto/api"
	"rialto/index"
	"rialto/sample"
	"rialto/table"
	"rialto/undo"
	"rialto/value"
)

// shape is that of all tables here, but where another is told.
func shape() []api.Field {
	return []api.Field{{Name: "n", Kind: api.Int}, {Name: "s", Kind: api.Str}}
}

// record tells one of that shape.
func record(n int64, s string) []api.Value { return []api.Value{sample.Int(n), sample.Str(s)} }

// def defines an index by the fields told.
func def(name string, kind int, fields ...int) api.Def {
	d := api.Def{Name: name, Kind: kind, Compare: -1}
	for _, f := range fields {
		d.Parts = append(d.Parts, api.Part{Field: f})
	}
	return d
}

// extracted defines an index by what the extractor with that number tells.
func extracted(name string, kind, hook int) api.Def {
	return api.Def{Name: name, Kind: kind, Parts: []api.Part{{Field: -1, Hook: hook}}, Compare: -1}
}

// compared defines an ordered index by the first field, in the order of the comparator with that number.
func compared(name string, kind, hook int) api.Def {
	d := def(name, kind, 0)
	d.Compare = hook
	return d
}

// defs are of all kinds, by fields and by user code.
func defs() []api.Def {
	return []api.Def{
		def("h", api.Hash, 1),
		def("uh", api.UniqueHash, 0),
		def("hh", api.Hash, 1, 0, 1),
		def("o", api.Ordered, 1, 0),
		def("uo", api.UniqueOrdered, 1),
		def("q", api.Seq),
		def("p", api.Pos),
		def("x", api.Prefix, 1),
		extracted("eh", api.UniqueHash, 0),
		extracted("eo", api.Ordered, 0),
		extracted("ex", api.Prefix, 1),
		extracted("en", api.Prefix, 0),
		compared("co", api.Ordered, 0),
		compared("cu", api.UniqueOrdered, 0),
		compared("cd", api.UniqueOrdered, 1),
	}
}

// lastDigit holds keys against each other by the last digits of their first Ints.
func lastDigit(a, b []api.Value) int { return cmp.Compare(a[0].Int%10, b[0].Int%10) }

// turned is the order of values turned round.
func turned(a, b []api.Value) int { return value.Rows(b, a) }

// orders are the comparators' own.
func orders() []func(a, b []api.Value) int {
	return []func(a, b []api.Value) int{lastDigit, turned}
}

// extracts tell what the extractors tell of a record.
func extracts() []func(vals []api.Value) api.Value {
	return []func(vals []api.Value) api.Value{
		func(vals []api.Value) api.Value { return sample.Int(vals[0].Int / 10) },
		func(vals []api.Value) api.Value { return sample.Str(vals[1].Str + vals[1].Str) },
	}
}

// asked counts how often user code is, and has it fail at the call with that number (from 0 on) and behind it.
type asked struct {
	calls int
	from  int // -1: it never fails
	end   ending
}

func (a *asked) call() error {
	a.calls++
	if a.from >= 0 && a.calls > a.from {
		return a.end.do()
	}
	return nil
}

// hooks are the user code of all tables here.
func (a *asked) hooks() api.Hooks {
	var h api.Hooks
	for _, f := range extracts() {
		h.Extract = append(h.Extract, func(vals []api.Value) (api.Value, error) { return f(vals), a.call() })
	}
	for _, f := range orders() {
		h.Compare = append(h.Compare, func(x, y []api.Value) (int, error) { return f(x, y), a.call() })
	}
	return h
}

// standing is an index as the model has it: its entries as they stand.
type standing struct {
	def     api.Def
	index   *index.Index
	entries []api.Entry
	moved   bool
}

func keyless(d api.Def) bool { return d.Kind == api.Seq || d.Kind == api.Pos }

func unique(d api.Def) bool { return d.Kind == api.UniqueHash || d.Kind == api.UniqueOrdered }

// keyOf tells a record's key.
func keyOf(d api.Def, vals []api.Value) []api.Value {
	var k []api.Value
	for _, p := range d.Parts {
		if p.Field < 0 {
			k = append(k, extracts()[p.Hook](vals))
			continue
		}
		k = append(k, vals[p.Field])
	}
	return k
}

// order tells how d's entries stand.
func order(d api.Def) func(a, b api.Entry) int {
	keys := value.Rows
	if d.Compare >= 0 {
		keys = orders()[d.Compare]
	}
	return func(a, b api.Entry) int { return cmp.Or(keys(a.Key, b.Key), cmp.Compare(a.Id, b.Id)) }
}

// enter puts an entry of that record where it stands, or tells why there can't be one.
func (s *standing) enter(id int64, vals []api.Value) error {
	e := api.Entry{Key: keyOf(s.def, vals), Id: id}
	if keyless(s.def) {
		s.entries = append(s.entries, e)
		return nil
	}
	if s.def.Kind == api.Prefix && e.Key[0].Kind != api.Str {
		return &api.Fault{Where: s.def.Name, Err: api.ErrValue}
	}
	for _, o := range s.entries {
		if unique(s.def) && order(s.def)(api.Entry{Key: o.Key}, api.Entry{Key: e.Key}) == 0 {
			return &api.Twice{Where: s.def.Name, Id: o.Id}
		}
	}
	s.entries = append(slices.Clone(s.entries), e)
	slices.SortFunc(s.entries, order(s.def))
	return nil
}

func (s *standing) contents() api.Contents {
	if !keyless(s.def) {
		return api.Contents{Entries: s.entries}
	}
	var c api.Contents
	for _, e := range s.entries {
		c.Ids = append(c.Ids, e.Id)
	}
	return c
}

// state is all that a table has.
type state struct {
	mark    int
	rows    []api.Row
	next    int64
	indexes []standing
}

// filled tells what an index that d defines means of the rows.
func (s *state) filled(d api.Def) (standing, error) {
	x := standing{def: d}
	for _, r := range s.rows {
		if err := x.enter(r.Id, r.Vals); err != nil {
			return standing{}, err
		}
	}
	return x, nil
}

func (s *state) place(name string) int {
	return slices.IndexFunc(s.indexes, func(x standing) bool { return x.def.Name == name })
}

// create is for definitions that are some.
func (s *state) create(d api.Def) error {
	if s.place(d.Name) >= 0 || len(s.indexes) == 8 {
		return api.ErrIndex
	}
	x, err := s.filled(d)
	if err == nil {
		s.indexes = append(s.indexes, x)
	}
	return err
}

func (s *state) drop(name string) error {
	at := s.place(name)
	if at < 0 {
		return api.ErrNoIndex
	}
	s.indexes = slices.Delete(s.indexes, at, at+1)
	return nil
}

// copied tells a state that isn't touched by what is done with this one.
func (s state) copied() state {
	s.rows, s.indexes = slices.Clone(s.rows), slices.Clone(s.indexes)
	for i := range s.indexes {
		s.indexes[i].entries = slices.Clone(s.indexes[i].entries)
	}
	return s
}

// both does each step with a table and with the model beside it, and looks at all that can be told behind it.
type both struct {
	t     *testing.T
	table *table.Table
	log   *undo.Log
	now   state
	was   []state // ahead of each step that is in the log
	ever  []*index.Index
	asked asked
	steps []string
}

func begin(t *testing.T) *both {
	t.Helper()
	b := &both{t: t, log: undo.New(), now: state{next: 1}, asked: asked{from: -1}}
	x, e := table.New(shape(), b.asked.hooks(), 200)
	if e != api.OK {
		t.Fatalf("New tells %v", e)
	}
	b.table = x
	b.look()
	return b
}

func (b *both) fail(form string, args ...any) {
	b.t.Helper()
	b.t.Fatalf("%v: %s", b.steps[max(0, len(b.steps)-30):], fmt.Sprintf(form, args...))
}

// sameError holds what was told against what was wanted, whatever they point at.
func sameError(got, want error) bool { return reflect.DeepEqual(got, want) }

// orNil tells no error of OK.
func orNil(e api.Errno) error {
	if e == api.OK {
		return nil
	}
	return e
}

// step does a step with the table and the model, and looks whether both tell the same.
func (b *both) step(do, model func() error, form string, args ...any) {
	b.t.Helper()
	b.steps = append(b.steps, fmt.Sprintf(form, args...))
	was := b.now.copied()
	was.mark = b.log.Len()
	want, cost := model(), b.table.Cost()
	if got := do(); !sameError(got, want) {
		b.fail("tells %v, wanted %v", got, want)
	}
	if want != nil {
		if b.log.Len() != was.mark || b.table.Cost() != cost {
			b.fail("errs, but adds %d to the log, and costs %v, not %v", b.log.Len()-was.mark, b.table.Cost(), cost)
		}
		b.now = was
		b.look()
		return
	}
	b.was = append(b.was, was)
	b.look()
}

func (b *both) create(d api.Def) {
	b.t.Helper()
	do := func() error {
		err := b.table.Create(b.log, d)
		if x, there := b.table.Index(d.Name); err == nil && there {
			b.ever = append(b.ever, x)
			b.now.indexes[len(b.now.indexes)-1].index = x
		}
		return err
	}
	b.step(do, func() error { return b.now.create(d) }, "Create(%v)", d)
}

func (b *both) drop(name string) {
	b.t.Helper()
	do := func() error {
		asked := b.asked.calls
		defer func() {
			if b.asked.calls != asked {
				b.fail("user code is asked")
			}
		}()
		return orNil(b.table.Drop(b.log, name))
	}
	b.step(do, func() error { return b.now.drop(name) }, "Drop(%q)", name)
}

// insert does what an insert means, if no index is in its way: for that is the business of another layer.
func (b *both) insert(vals []api.Value) {
	b.t.Helper()
	model := func() error {
		for i := range b.now.indexes {
			if err := b.now.indexes[i].enter(b.now.next, vals); err != nil {
				return err
			}
		}
		b.now.rows = append(b.now.rows, api.Row{Id: b.now.next, Version: 1, Vals: vals})
		b.now.next++
		return nil
	}
	do := func() error {
		id := b.table.Rows().Next()
		var keys [][]api.Value
		for _, x := range b.table.Indexes() {
			k, err := x.Check(vals, id)
			if err != nil {
				return err
			}
			keys = append(keys, k)
		}
		b.table.Rows().Insert(vals)
		b.log.Add(func() {
			b.table.Rows().Erase(id)
			b.table.Rows().SetNext(id)
		})
		for i, x := range b.table.Indexes() {
			x.Insert(b.log, keys[i], id)
		}
		return nil
	}
	b.step(do, model, "insert %v", vals)
}

// erase does what an erase means.
func (b *both) erase(id int64) {
	b.t.Helper()
	model := func() error {
		at := slices.IndexFunc(b.now.rows, func(r api.Row) bool { return r.Id == id })
		if at < 0 {
			return api.ErrNoRow
		}
		b.now.rows = slices.Delete(b.now.rows, at, at+1)
		for i := range b.now.indexes {
			x := &b.now.indexes[i]
			x.entries = slices.DeleteFunc(x.entries, func(e api.Entry) bool { return e.Id == id })
		}
		return nil
	}
	do := func() error {
		r, there := b.table.Rows().Get(id)
		if !there {
			return api.ErrNoRow
		}
		b.table.Rows().Erase(id)
		b.log.Add(func() { b.table.Rows().Put(r) })
		for _, x := range b.table.Indexes() {
			x.Erase(b.log, id)
		}
		return nil
	}
	b.step(do, model, "erase %d", id)
}

// move has a row stand last in a sequence.
func (b *both) move(name string, id int64) {
	b.t.Helper()
	model := func() error {
		i := b.now.place(name)
		if i < 0 {
			return api.ErrNoIndex
		}
		x := &b.now.indexes[i]
		if x.def.Kind != api.Seq {
			return api.ErrNoIndex
		}
		at := slices.IndexFunc(x.entries, func(e api.Entry) bool { return e.Id == id })
		if at < 0 {
			return api.ErrNoRow
		}
		e := x.entries[at]
		x.entries, x.moved = append(slices.Delete(x.entries, at, at+1), e), true
		return nil
	}
	do := func() error {
		x, there := b.table.Index(name)
		if !there {
			return api.ErrNoIndex
		}
		return orNil(x.Move(b.log, id, 0))
	}
	b.step(do, model, "move %d in %s", id, name)
}

// back takes the last n steps back at once.
func (b *both) back(n int) {
	b.t.Helper()
	if n == 0 {
		return
	}
	b.steps = append(b.steps, fmt.Sprintf("back over %d steps", n))
	asked, was := b.asked.calls, b.was[len(b.was)-n]
	b.log.Back(was.mark)
	if b.asked.calls != asked {
		b.fail("user code is asked")
	}
	b.now, b.was = was, b.was[:len(b.was)-n]
	b.look()
}

func sameContents(a, b api.Contents) bool {
	return slices.EqualFunc(a.Entries, b.Entries, func(a, b api.Entry) bool { return a.Id == b.Id && sample.RowsAlike(a.Key, b.Key) }) && slices.Equal(a.Ids, b.Ids)
}

func (b *both) look() {
	b.t.Helper()
	if got := b.table.Shape(); !slices.Equal(got, shape()) {
		b.fail("Shape tells %v", got)
	}
	if got := b.table.Rows().All(); !reflect.DeepEqual(got, b.now.rows) && len(got)+len(b.now.rows) > 0 {
		b.fail("the rows are %v, wanted %v", got, b.now.rows)
	}
	b.lookAtCost()
	b.lookAtIndexes()
}

func (b *both) lookAtCost() {
	b.t.Helper()
	want := api.Cost{Slots: b.table.Rows().Writes()}
	for _, x := range b.ever {
		want.Nodes += x.Nodes()
	}
	if got := b.table.Cost(); got != want {
		b.fail("Cost tells %v, wanted %v", got, want)
	}
}

func (b *both) lookAtIndexes() {
	b.t.Helper()
	var indexes []*index.Index
	var defs []api.Def
	for _, x := range b.now.indexes {
		indexes, defs = append(indexes, x.index), append(defs, x.def)
		got, there := b.table.Index(x.def.Name)
		if !there || got != x.index || !reflect.DeepEqual(got.Def(), x.def) {
			b.fail("Index(%q) tells %v, %t, wanted %v", x.def.Name, got, there, x.index)
		}
		if got, want := got.Contents(), x.contents(); !sameContents(got, want) {
			b.fail("%s has %v, wanted %v", x.def.Name, got, want)
		}
		if means, err := b.table.Means(x.def); err != nil || !x.moved && !sameContents(means, got.Contents()) {
			b.fail("%s has %v, but means %v, %v", x.def.Name, got.Contents(), means, err)
		}
	}
	if got := b.table.Indexes(); !slices.Equal(got, indexes) {
		b.fail("Indexes tells %v, wanted %v", got, indexes)
	}
	if got := b.table.Defs(); !reflect.DeepEqual(got, defs) && len(got)+len(defs) > 0 {
		b.fail("Defs tells %v, wanted %v", got, defs)
	}
}

// lookAtMeans looks at what any index would mean, and whether asking for it changes nothing.
func (b *both) lookAtMeans() {
	b.t.Helper()
	for _, d := range defs() {
		want, err := b.now.filled(d)
		got, told := b.table.Means(d)
		if !sameError(told, err) || !sameContents(got, want.contents()) {
			b.fail("Means(%v) tells %v, %v, wanted %v, %v", d, got, told, want.contents(), err)
		}
	}
	b.look()
}

func TestErrors(t *testing.T) {
	if api.ErrSchema != 40 || api.ErrIndex != 82 || api.ErrNoIndex != 81 || api.ErrDuplicate != 80 || api.ErrCallback != 50 || api.MaxIndexes != 8 {
		t.Error("an error or a limit has another number")
	}
}

func TestP18_1NoShape(t *testing.T) {
	long := strings.Repeat("n", 21)
	for _, l := range [][]api.Field{
		nil,
		{},
		{{Name: "", Kind: api.Int}},
		{{Name: long, Kind: api.Int}},
		{{Name: "N", Kind: api.Int}},
		{{Name: "n", Kind: 0}},
		{{Name: "n", Kind: api.Float + 1}},
		{{Name: "n", Kind: api.Int}, {Name: "n", Kind: api.Str}},
		fields(9),
	} {
		if x, e := table.New(l, api.Hooks{}, 5); x != nil || e != api.ErrSchema {
			t.Errorf("New(%v) tells %v, %v", l, x, e)
		}
	}
}

// fields tells a shape of so many.
func fields(n int) []api.Field {
	var l []api.Field
	for i := range n {
		l = append(l, api.Field{Name: fmt.Sprint("f", i), Kind: 1 + i%api.Float})
	}
	return l
}

func TestP18_1New(t *testing.T) {
	for n := 1; n <= 8; n++ {
		l := fields(n)
		l[0].Name = strings.Repeat("n", 20)
		x, e := table.New(l, api.Hooks{}, 5)
		if e != api.OK || !slices.Equal(x.Shape(), l) {
			t.Fatalf("New(%v) tells %v", l, e)
		}
		if len(x.Indexes()) != 0 || len(x.Defs()) != 0 || x.Cost() != (api.Cost{}) || x.Rows().Len() != 0 || x.Rows().Next() != 1 {
			t.Errorf("a new table has indexes or rows: %v, %v, %v", x.Defs(), x.Cost(), x.Rows().All())
		}
		if x.Rows() != x.Rows() {
			t.Error("Rows tells other rows each time")
		}
	}
}

func TestP18_1RoomForRows(t *testing.T) {
	for max, want := range map[int]int{math.MinInt: 0, -1: 0, 0: 0, 1: 1, 7: 7, 199: 199, 200: 200, 201: 200, math.MaxInt: 200} {
		x, _ := table.New(shape(), api.Hooks{}, max)
		for range 210 {
			x.Rows().Insert(record(1, "a"))
		}
		if got := x.Rows().Len(); got != want {
			t.Errorf("a table for %d rows has room for %d, wanted %d", max, got, want)
		}
	}
}

// with tells a table with a row of each record.
func with(t *testing.T, records ...[]api.Value) *both {
	t.Helper()
	b := begin(t)
	for _, r := range records {
		b.insert(r)
	}
	return b
}

// Create of a UniqueHash over rows with an equal value, of the chapter.
func TestP18_1Example(t *testing.T) {
	b := with(t, record(5, "a"), record(6, "b"), record(5, "c"))
	err := b.table.Create(b.log, def("u", api.UniqueHash, 0))
	var twice *api.Twice
	if !errors.As(err, &twice) || *twice != (api.Twice{Where: "u", Id: 1}) || !errors.Is(err, api.ErrDuplicate) {
		t.Errorf("Create tells %v", err)
	}
	if x, there := b.table.Index("u"); x != nil || there || len(b.table.Defs()) != 0 {
		t.Errorf("Index tells %v, %t", x, there)
	}
	b.look()
}

// records are some of which no two are equal in any part of them, but for their lengths' sake.
func records(n int) [][]api.Value {
	var l [][]api.Value
	for i := range n {
		l = append(l, record(int64(i*11%1000), strings.Repeat(string(rune('a'+i%26)), 1+i/26)))
	}
	return l
}

// An index of any kind has all rows when it is created, and all that come behind that.
func TestP18_1CreateOfAllKinds(t *testing.T) {
	for _, d := range defs() {
		for _, n := range []int{0, 1, 2, 9, 40} {
			b := with(t, records(n)...)
			b.create(d)
			b.insert(record(2000, "zz"))
			b.insert(record(5, "ab"))
			b.erase(1)
			b.erase(int64(n))
			b.drop(d.Name)
			b.create(d)
			for len(b.was) > 0 {
				b.back(min(3, len(b.was)))
			}
		}
	}
}

// Rows are put by Id, wherever they lie.
func TestP18_1RowsById(t *testing.T) {
	b := with(t, records(30)...)
	for _, id := range []int64{3, 1, 20, 30, 12} {
		b.erase(id)
		b.insert(record(id*1000, fmt.Sprint(id)))
	}
	for _, d := range defs()[:8] {
		b.create(d)
	}
	for b.log.Len() > 0 {
		b.back(1)
	}
}

// noDefs are no definitions of the shape.
func noDefs() []api.Def {
	long := def(strings.Repeat("n", 21), api.Hash, 0)
	hooked := def("j", api.Hash, 0)
	hooked.Parts[0].Hook = 1
	return []api.Def{
		{}, def("", api.Hash, 0), def("J", api.Hash, 0), long, def("j", 0, 0), def("j", api.Prefix+1, 0), def("j", api.Seq, 0),
		def("j", api.Pos, 1), def("j", api.Prefix), def("j", api.Prefix, 1, 1), def("j", api.Prefix, 0), def("j", api.Hash),
		def("j", api.Ordered, 0, 1, 0, 1), def("j", api.Hash, 2), def("j", api.Hash, -2), hooked, extracted("j", api.Hash, 2),
		extracted("j", api.Hash, -1), compared("j", api.Hash, 0), compared("j", api.Ordered, 2), compared("j", api.UniqueOrdered, -2),
	}
}

// What isn't a definition creates nothing, and asks no user code.
func TestP18_1NoDefinition(t *testing.T) {
	b := with(t, records(3)...)
	b.create(def("h", api.Hash, 1))
	b.asked.from = b.asked.calls
	b.asked.end = ending{err: errors.New("own")}
	for _, d := range noDefs() {
		for _, name := range []string{d.Name, "h"} {
			if d.Name == "j" {
				d.Name = name
			}
			calls := b.asked.calls
			b.step(func() error { return b.table.Create(b.log, d) }, func() error { return api.ErrIndex }, "Create(%v)", d)
			if _, err := b.table.Means(d); err != api.ErrIndex {
				t.Errorf("Means(%v) tells %v", d, err)
			}
			if b.asked.calls != calls {
				t.Errorf("Create(%v) asks user code", d)
			}
		}
	}
}

// An extractor or a comparator that isn't there is none to define an index by.
func TestP18_1NoHooks(t *testing.T) {
	h := api.Hooks{Extract: make([]api.Extractor, 2), Compare: make([]api.Comparator, 2)}
	for _, h := range []api.Hooks{{}, h} {
		x, _ := table.New(shape(), h, 5)
		for _, d := range []api.Def{extracted("j", api.Hash, 0), compared("j", api.Ordered, 1)} {
			if err := x.Create(undo.New(), d); err != api.ErrIndex {
				t.Errorf("Create(%v) tells %v", d, err)
			}
			if _, err := x.Means(d); err != api.ErrIndex {
				t.Errorf("Means(%v) tells %v", d, err)
			}
		}
	}
}

// A name that is there goes ahead of what the rows are, and of user code.
func TestP18_1NameIsThere(t *testing.T) {
	b := with(t, record(5, "a"), record(5, "a"))
	b.create(def("h", api.Hash, 0))
	b.asked.from, b.asked.end = b.asked.calls, ending{thrown: "asked"}
	for _, d := range defs() {
		d.Name = "h"
		calls := b.asked.calls
		b.create(d)
		if b.asked.calls != calls {
			t.Errorf("Create(%v) asks user code", d)
		}
	}
	b.drop("h")
	b.create(def("h", api.Pos))
}

// Eight may be there; a ninth may not, whatever it is, until one goes.
func TestP18_1EightIndexes(t *testing.T) {
	b := with(t, records(4)...)
	for i := range 8 {
		d := defs()[i]
		d.Name = fmt.Sprint("i", i)
		b.create(d)
	}
	b.asked.from, b.asked.end = b.asked.calls, ending{thrown: "asked"}
	for _, d := range defs() {
		calls := b.asked.calls
		b.create(d)
		if b.asked.calls != calls || len(b.table.Indexes()) != 8 {
			t.Errorf("Create(%v) asks user code, or is there", d)
		}
	}
	for i := range 8 {
		b.drop(fmt.Sprint("i", i))
		b.create(def("n", api.Seq))
		b.create(def("m", api.Seq))
		b.back(2)
	}
	b.back(1)
	b.create(def("n", api.Seq))
	b.back(len(b.was))
}

// The first row that can't be put tells the error, whatever is the matter with those behind it.
func TestP18_1FirstThatErrs(t *testing.T) {
	fails := errors.New("own")
	h := api.Hooks{Extract: []api.Extractor{func(vals []api.Value) (api.Value, error) {
		if vals[1].Str == "bad" {
			return api.Value{}, fails
		}
		return vals[0], nil
	}}}
	run := func(records ...[]api.Value) error {
		x, _ := table.New(shape(), h, 9)
		for _, r := range records {
			x.Rows().Insert(r)
		}
		l := undo.New()
		err := x.Create(l, extracted("u", api.UniqueOrdered, 0))
		if l.Len() != 0 || len(x.Indexes()) != 0 || x.Cost().Nodes != 0 {
			t.Error("a Create that errs leaves something")
		}
		return err
	}
	fault, twice := &api.Fault{Where: "u", Err: fails}, &api.Twice{Where: "u", Id: 2}
	if got := run(record(4, "a"), record(5, "a"), record(6, "bad"), record(5, "a")); !sameError(got, fault) {
		t.Errorf("Create tells %v, wanted %v", got, fault)
	}
	if got := run(record(4, "a"), record(5, "a"), record(5, "a"), record(6, "bad"), record(4, "a")); !sameError(got, twice) {
		t.Errorf("Create tells %v, wanted %v", got, twice)
	}
}

func TestP18_1Drop(t *testing.T) {
	b := with(t, records(5)...)
	b.drop("h")
	b.drop("")
	for _, d := range defs()[:5] {
		b.create(d)
	}
	for _, name := range []string{"", "H", "h ", "hhh", strings.Repeat("h", 100), "\x00"} {
		b.drop(name)
	}
	for _, name := range []string{"hh", "h", "uo"} {
		b.drop(name)
		b.drop(name)
	}
	b.insert(record(77, "s"))
	b.back(1)
	for range 3 {
		b.back(1)
	}
	for _, d := range defs()[:5] {
		b.drop(d.Name)
	}
	b.back(5)
	b.back(len(b.was))
}

// A dropped index comes back as it was, a sequence as it was moved in.
func TestP18_1ComesBackAsMoved(t *testing.T) {
	b := with(t, records(6)...)
	b.create(def("a", api.Pos))
	b.create(def("q", api.Seq))
	b.create(def("z", api.Pos))
	b.move("q", 2)
	b.move("q", 4)
	b.drop("q")
	b.insert(record(70, "s"))
	b.erase(4)
	b.create(def("q", api.Seq))
	b.move("q", 1)
	b.drop("q")
	b.drop("a")
	b.back(2)
	b.back(4)
	b.move("q", 6)
	b.back(len(b.was))
}

// move is one step of a way.
type move struct {
	name string
	do   func(b *both)
}

// moves are steps that get in each other's way.
func moves() []move {
	var l []move
	for _, d := range []api.Def{def("a", api.UniqueHash, 0), def("a", api.Seq), def("b", api.Pos), compared("c", api.UniqueOrdered, 0)} {
		l = append(l, move{"create", func(b *both) { b.create(d) }})
	}
	for _, name := range []string{"a", "b"} {
		l = append(l, move{"drop", func(b *both) { b.drop(name) }})
	}
	return append(l,
		move{"insert", func(b *both) { b.insert(record(5*b.now.next, "s")) }},
		move{"erase", func(b *both) { b.erase(1) }},
		move{"move", func(b *both) { b.move("a", 1) }},
		move{"back", func(b *both) { b.back(min(2, len(b.was))) }},
	)
}

// All rows of steps up to that length, each from a table with two rows.
func TestP18_1AllShortWays(t *testing.T) {
	const length = 4
	var way func(l []move)
	way = func(l []move) {
		if len(l) == length {
			b := with(t, record(10, "a"), record(20, "b"))
			for _, m := range l {
				m.do(b)
			}
			b.back(len(b.was))
			return
		}
		for _, m := range moves() {
			way(append(l[:len(l):len(l)], m))
		}
	}
	way(nil)
}

// randomly does one step of any.
func (b *both) randomly(r *rand.Rand) {
	b.t.Helper()
	d := defs()[r.Intn(len(defs()))]
	switch n := r.Intn(20); {
	case n < 5:
		b.create(d)
	case n < 8:
		b.drop(d.Name)
	case n < 14:
		b.insert(record(r.Int63n(100), strings.Repeat(string(rune('a'+r.Intn(6))), r.Intn(4))))
	case n < 17:
		b.erase(1 + r.Int63n(b.now.next))
	case n < 18:
		b.move("q", 1+r.Int63n(b.now.next))
	case n < 19:
		b.back(min(1+r.Intn(4), len(b.was)))
	default:
		b.lookAtMeans()
	}
}

// P18.4 too: behind each step each index that wasn't moved in is what it means.
func TestP18_1LongWays(t *testing.T) {
	for seed := range int64(40) {
		r := rand.New(rand.NewSource(seed))
		b := begin(t)
		for range 150 {
			b.randomly(r)
		}
		for len(b.was) > 0 {
			b.back(min(1+r.Intn(5), len(b.was)))
		}
	}
}

// Where what came between was kept, what goes back finds no place that is wrong, and no two indexes of one name.
func TestP18_1BackBehindKept(t *testing.T) {
	for first := range 8 {
		for last := range 8 {
			for kept := range 6 {
				backBehindKept(t, first, last, kept, 0)
				backBehindKept(t, first, last, kept, 9)
			}
		}
	}
}

// backBehindKept has so many dropped and so many created, which are kept, and then goes back.
func backBehindKept(t *testing.T, first, last, kept, created int) {
	t.Helper()
	x, _ := table.New(shape(), api.Hooks{}, 9)
	l := undo.New()
	for i := range 8 {
		x.Create(l, def(fmt.Sprint("i", i), api.Pos))
	}
	x.Drop(l, fmt.Sprint("i", first))
	mark := l.Mark()
	for i := range kept {
		x.Drop(l, fmt.Sprint("i", (last+i)%8))
	}
	for i := range created {
		x.Create(l, def(fmt.Sprint("i", i), api.Seq))
	}
	l.Keep(mark)
	for l.Len() > 0 {
		l.Back(l.Len() - 1)
		names := map[string]int{}
		for _, d := range x.Defs() {
			names[d.Name]++
		}
		if len(names) != len(x.Indexes()) || len(names) > 8 {
			t.Fatalf("there are %v", x.Defs())
		}
		if x.Cost().Nodes < 0 {
			t.Fatalf("Cost tells %v", x.Cost())
		}
	}
}

// trap panics whatever it is asked, and == of two of them does.
type trap struct{ at []int }

func (trap) Error() string   { panic("Error was asked") }
func (trap) Is(error) bool   { panic("Is was asked") }
func (trap) As(any) bool     { panic("As was asked") }
func (trap) Unwrap() []error { panic("Unwrap was asked") }

// ending is one in which user code tells nothing.
type ending struct {
	err    error
	thrown any // if err is nil
}

func (e ending) do() error {
	if e.err == nil {
		panic(e.thrown)
	}
	return e.err
}

// endings have errors among them that look like the program's own, and such as can't be asked anything.
func endings() []ending {
	l := []ending{{thrown: 5}, {thrown: "text"}, {thrown: trap{[]int{1}}}, {thrown: errors.New("own")}, {thrown: api.ErrIndex}, {thrown: &api.Twice{Where: "j", Id: 5}}, {thrown: &api.Fault{Where: "j"}}}
	for _, err := range []error{
		errors.New("own"), trap{[]int{1}}, api.OK, api.ErrDuplicate, api.ErrIndex, api.ErrSchema, api.ErrNoRow, api.ErrCallback,
		&api.Twice{Where: "j", Id: 5}, (*api.Twice)(nil), &api.Fault{Where: "j", Err: errors.New("own")}, (*api.Fault)(nil),
	} {
		l = append(l, ending{err: err})
	}
	return l
}

// bears looks whether err is a fault of the index of that name with what user code told or panicked with.
func bears(t *testing.T, err error, name string, e ending) {
	t.Helper()
	fault, is := err.(*api.Fault)
	if !is || fault == nil {
		t.Fatalf("the error is a %T, wanted a fault", err)
	}
	if fault.Where != name || !reflect.DeepEqual(fault.Err, e.err) || !reflect.DeepEqual(fault.Panic, e.thrown) || !errors.Is(err, api.ErrCallback) {
		t.Errorf("Where is %q, Err a %T, Panic a %T, wanted a %T, a %T", fault.Where, fault.Err, fault.Panic, e.err, e.thrown)
	}
}

// own are the definitions that have user code asked.
func own() []api.Def {
	return slices.DeleteFunc(defs(), func(d api.Def) bool {
		return d.Compare < 0 && !slices.ContainsFunc(d.Parts, func(p api.Part) bool { return p.Field < 0 })
	})
}

// few are records that every index of own but en may have all of.
func few() [][]api.Value {
	return [][]api.Value{record(13, "m"), record(25, "a"), record(1, "z"), record(37, ""), record(58, "b"), record(79, "q")}
}

// Whichever call of user code fails: its error is told, and nothing is left of the index.
func TestP18_1CreateFails(t *testing.T) {
	for _, d := range own() {
		if d.Name == "en" {
			continue
		}
		for n := range len(few()) + 1 {
			for at := 0; ; at++ {
				e := endings()[(at+n)%len(endings())]
				if !createFails(t, d, n, at, e) {
					break
				}
			}
		}
	}
}

// createFails tells whether user code was asked so often.
func createFails(t *testing.T, d api.Def, n, at int, e ending) bool {
	t.Helper()
	b := with(t, few()[:n]...)
	b.create(def("a", api.Ordered, 0))
	b.create(def("p", api.Pos))
	cost, mark := b.table.Cost(), b.log.Mark()
	b.asked = asked{from: at, end: e}
	err := b.table.Create(b.log, d)
	failed := b.asked.calls > at
	b.asked.from = -1
	if !failed {
		if err != nil {
			t.Errorf("Create(%v) tells %v", d, err)
		}
		return false
	}
	bears(t, err, d.Name, e)
	if b.table.Cost() != cost || b.log.Len() != mark {
		t.Errorf("Create(%v) errs, but costs or adds to the log", d)
	}
	b.look()
	b.create(d)
	b.back(len(b.was))
	return true
}

// Every kind of ending is told as it is.
func TestP18_1Endings(t *testing.T) {
	for _, d := range []api.Def{extracted("j", api.Prefix, 1), extracted("j", api.UniqueHash, 0), compared("j", api.Ordered, 1)} {
		for _, e := range endings() {
			b := with(t, few()...)
			b.asked = asked{from: 1, end: e}
			bears(t, b.table.Create(b.log, d), "j", e)
			b.asked = asked{from: 1, end: e}
			c, err := b.table.Means(d)
			if bears(t, err, "j", e); len(c.Entries)+len(c.Ids) != 0 {
				t.Errorf("Means tells %v beside an error", c)
			}
			b.asked.from = -1
			b.look()
		}
	}
}

// Neither dropping nor going back asks user code, which fails by then.
func TestP18_1NoUserCodeIsAskedToGoBack(t *testing.T) {
	b := with(t, few()...)
	l := own()[:3]
	l = append(l, own()[4:]...)
	for _, d := range l {
		b.create(d)
	}
	was := make([]api.Contents, len(l))
	for i, x := range b.table.Indexes() {
		was[i] = x.Contents()
	}
	mark := b.log.Mark()
	b.asked = asked{end: ending{thrown: "asked"}}
	for _, d := range l {
		if e := b.table.Drop(b.log, d.Name); e != api.OK {
			t.Errorf("Drop(%s) tells %v", d.Name, e)
		}
	}
	b.log.Back(mark)
	for i, x := range b.table.Indexes() {
		if !sameContents(x.Contents(), was[i]) {
			t.Errorf("%s has %v, it had %v", l[i].Name, x.Contents(), was[i])
		}
	}
	b.log.Back(0)
	if b.asked.calls != 0 || b.table.Rows().Len() != 0 || len(b.table.Defs()) != 0 {
		t.Errorf("user code is asked %d times, there are %v", b.asked.calls, b.table.Defs())
	}
}

// Until an index is whole nobody sees it.
func TestP18_1NotThereWhileItIsCreated(t *testing.T) {
	var x *table.Table
	looks := 0
	h := api.Hooks{Extract: []api.Extractor{func(vals []api.Value) (api.Value, error) {
		looks++
		if _, there := x.Index("j"); there || len(x.Indexes())+len(x.Defs()) != 0 || x.Cost().Nodes != 0 {
			t.Error("an index is there that isn't whole")
		}
		return vals[0], nil
	}}}
	x, _ = table.New(shape(), h, 9)
	for _, r := range few() {
		x.Rows().Insert(r)
	}
	if err := x.Create(undo.New(), extracted("j", api.UniqueOrdered, 0)); err != nil || looks != len(few()) {
		t.Errorf("Create tells %v, the extractor is called %d times", err, looks)
	}
}

// A table that has no room for rows has indexes as others have.
func TestP18_1NoRoomForRowsButForIndexes(t *testing.T) {
	x, _ := table.New(shape(), (&asked{from: -1}).hooks(), 0)
	l := undo.New()
	for i, d := range defs()[:8] {
		if err := x.Create(l, d); err != nil || len(x.Indexes()) != i+1 {
			t.Errorf("Create(%v) tells %v", d, err)
		}
	}
}

// What an index wrote counts for good, whether it was dropped, or taken back; that of one that never was doesn't.
func TestP18_2Cost(t *testing.T) {
	b := with(t, record(1, "a"), record(2, "b"), record(2, "c"))
	if got := b.table.Cost(); got != (api.Cost{Slots: 3}) {
		t.Errorf("Cost tells %v of three rows", got)
	}
	for _, d := range []api.Def{def("u", api.UniqueOrdered, 0), def("uh", api.UniqueHash, 0)} {
		b.create(d)
		b.table.Means(d)
		b.table.Means(def("j", api.Pos))
		if got := b.table.Cost(); got != (api.Cost{Slots: 3}) {
			t.Errorf("Cost tells %v of what errs and what is only asked for", got)
		}
	}
	b.create(def("h", api.Hash, 0))
	if got := b.table.Cost().Nodes; got != 0 {
		t.Errorf("Cost tells %d nodes of a Hash", got)
	}
	b.create(def("o", api.Ordered, 0))
	one := b.table.Cost().Nodes
	if one < 3 {
		t.Errorf("Cost tells %d nodes of three entries that were put", one)
	}
	b.drop("o")
	b.create(def("o", api.Ordered, 0))
	if got := b.table.Cost().Nodes; got != 2*one {
		t.Errorf("Cost tells %d nodes of two alike, wanted %d", got, 2*one)
	}
	b.back(2)
	if got := b.table.Cost().Nodes; got != 2*one {
		t.Errorf("Cost tells %d nodes of one that was taken back and one that came back, wanted %d", got, 2*one)
	}
	b.insert(record(9, "z"))
	b.erase(1)
	if got := b.table.Cost(); got.Slots < 5 || got.Nodes <= 2*one {
		t.Errorf("Cost tells %v behind two changes more", got)
	}
	b.back(len(b.was))
}

// The nodes of each tree are few: so are those of a new index.
func TestP18_2CostOfCreate(t *testing.T) {
	b := with(t, records(200)...)
	for _, d := range []api.Def{def("o", api.Ordered, 1), def("u", api.UniqueOrdered, 0), def("q", api.Seq), def("p", api.Pos)} {
		cost := b.table.Cost()
		b.create(d)
		if got := b.table.Cost(); got.Slots != cost.Slots || got.Nodes-cost.Nodes > 200*2*api.StepC*8 || got.Nodes-cost.Nodes < 200/api.Branch {
			t.Errorf("Create(%v) of 200 rows: Cost tells %v, it told %v", d, got, cost)
		}
	}
	cost := b.table.Cost()
	b.drop("o")
	b.back(5)
	if b.table.Cost() != cost {
		t.Errorf("dropping and bringing back costs: %v, it was %v", b.table.Cost(), cost)
	}
}

// What an index means is told of any definition: of one whose name is there, and where eight are.
func TestP18_3Means(t *testing.T) {
	for n := range len(few()) + 1 {
		b := with(t, few()[:n]...)
		b.lookAtMeans()
		for i, d := range defs()[:8] {
			b.create(d)
			b.lookAtMeans()
			if i == 2 {
				b.insert(record(9999, "zzz"))
			}
		}
		b.back(len(b.was))
	}
	b := with(t, record(5, "a"), record(5, "a"), record(15, "b"))
	b.lookAtMeans()
}

// What stands in sequences was put by Id, whatever was moved in others.
func TestP18_3MeansKnowsNoMoves(t *testing.T) {
	b := with(t, few()...)
	b.create(def("q", api.Seq))
	b.move("q", 1)
	for _, kind := range []int{api.Seq, api.Pos} {
		if c, err := b.table.Means(def("q", kind)); err != nil || !slices.Equal(c.Ids, []int64{1, 2, 3, 4, 5, 6}) {
			t.Errorf("Means tells %v, %v", c, err)
		}
	}
}

// Whichever call of user code fails, Means tells it, and nothing else.
func TestP18_3MeansFails(t *testing.T) {
	for _, d := range own() {
		if d.Name == "en" {
			continue
		}
		for at := 0; ; at++ {
			e := endings()[at%len(endings())]
			b := with(t, few()...)
			b.asked = asked{from: at, end: e}
			c, err := b.table.Means(d)
			failed := b.asked.calls > at
			b.asked.from = -1
			if b.look(); !failed {
				break
			}
			if bears(t, err, d.Name, e); len(c.Entries)+len(c.Ids) != 0 {
				t.Errorf("Means(%v) tells %v beside an error", d, c)
			}
		}
	}
}

// An index is what it means, whenever it was created: ahead of the rows, behind them, or between.
func TestP18_4WheneverItWasCreated(t *testing.T) {
	for _, d := range defs() {
		if d.Name == "en" {
			continue
		}
		var all []api.Contents
		for when := range len(few()) + 1 {
			b := begin(t)
			for i, r := range few() {
				if i == when {
					b.create(d)
				}
				b.insert(r)
				if i == 2 {
					b.erase(2)
				}
			}
			if when == len(few()) {
				b.create(d)
			}
			x, there := b.table.Index(d.Name)
			if !there {
				t.Fatalf("%v isn't there", d)
			}
			all = append(all, x.Contents())
		}
		for _, c := range all {
			if !sameContents(c, all[0]) {
				t.Errorf("%v: %v when created later, %v when created first", d, c, all[0])
			}
		}
	}
}

func scribble[T any](l []T, v T) {
	l = l[:cap(l)]
	for i := range l {
		l[i] = v
	}
}

// room has l and behind it, in the same memory, room.
func room[T any](l []T) []T { return append(make([]T, 0, len(l)+3), l...) }

// What is handed in isn't kept, nor changed, nor is the room behind it.
func TestWhatIsHandedInStays(t *testing.T) {
	l := room(shape())
	spare := l[:cap(l)]
	spare[len(spare)-1] = api.Field{Name: "spare"}
	was := slices.Clone(spare)
	a := &asked{from: -1}
	h := a.hooks()
	h.Extract, h.Compare = room(h.Extract), room(h.Compare)
	x, _ := table.New(l, h, 20)
	if !slices.Equal(spare, was) {
		t.Errorf("the shape is %v now", spare)
	}
	scribble(l, api.Field{Name: "written", Kind: api.Bool})
	scribble(h.Extract, func([]api.Value) (api.Value, error) { panic("the wrong one") })
	scribble(h.Compare, func(a, b []api.Value) (int, error) { panic("the wrong one") })
	b := &both{t: t, table: x, log: undo.New(), now: state{next: 1}, asked: asked{from: -1}}
	b.insert(record(5, "a"))
	b.insert(record(26, "b"))
	for _, d := range own() {
		if d.Name == "en" {
			continue
		}
		handed := d
		handed.Parts = room(d.Parts)
		spare := handed.Parts[:cap(handed.Parts)]
		spare[len(spare)-1] = api.Part{Field: 7, Hook: 7}
		was := slices.Clone(spare)
		do := func() error {
			err := x.Create(b.log, handed)
			b.now.indexes[len(b.now.indexes)-1].index, _ = x.Index(d.Name)
			return err
		}
		model := func() error { return b.now.create(d) }
		b.steps = append(b.steps, "Create")
		if want, got := model(), do(); !sameError(got, want) {
			t.Errorf("Create tells %v, wanted %v", got, want)
		}
		if x.Means(handed); !slices.Equal(spare, was) {
			t.Errorf("the parts are %v now", spare)
		}
		scribble(handed.Parts, api.Part{Field: 1})
		b.lookAtIndexes()
	}
}

func TestWhatIsToldIsNewMemory(t *testing.T) {
	b := with(t, few()...)
	for _, d := range defs()[:8] {
		b.create(d)
	}
	shape, indexes, defs := b.table.Shape(), b.table.Indexes(), b.table.Defs()
	means, _ := b.table.Means(def("j", api.Ordered, 0))
	ids, _ := b.table.Means(def("j", api.Seq))
	for range 2 {
		scribble(b.table.Shape(), api.Field{Name: "written"})
		scribble(b.table.Indexes(), nil)
		l := b.table.Defs()
		for _, d := range l {
			scribble(d.Parts, api.Part{Field: 9})
		}
		scribble(l, api.Def{Name: "written"})
		for _, d := range defs {
			c, _ := b.table.Means(d)
			for _, e := range c.Entries {
				scribble(e.Key, sample.Str("written"))
			}
			scribble(c.Entries, api.Entry{Id: -1})
			scribble(c.Ids, -1)
		}
		b.look()
	}
	got, _ := b.table.Means(def("j", api.Ordered, 0))
	line, _ := b.table.Means(def("j", api.Seq))
	if !slices.Equal(shape, b.table.Shape()) || !slices.Equal(indexes, b.table.Indexes()) || !reflect.DeepEqual(defs, b.table.Defs()) || !sameContents(means, got) || !sameContents(ids, line) {
		t.Error("an earlier answer is touched by what is done with a later one")
	}
	b.back(len(b.was))
}

// overlap tells whether two lists share any room, spare room included.
func overlap[T any](a, b []T) bool {
	if cap(a) == 0 || cap(b) == 0 {
		return false
	}
	size := unsafe.Sizeof(a[:1][0])
	a1, b1 := uintptr(unsafe.Pointer(unsafe.SliceData(a))), uintptr(unsafe.Pointer(unsafe.SliceData(b)))
	return a1 < b1+uintptr(cap(b))*size && b1 < a1+uintptr(cap(a))*size
}

// apart looks whether no two of the lists share any room.
func apart[T any](t *testing.T, lists [][]T) {
	t.Helper()
	for i, a := range lists {
		for j := range i {
			if overlap(a, lists[j]) {
				t.Errorf("lists %d and %d share room", j, i)
			}
		}
	}
}

func TestNoRoomIsShared(t *testing.T) {
	l := shape()
	x, _ := table.New(l, api.Hooks{}, 20)
	for _, r := range few() {
		x.Rows().Insert(r)
	}
	log := undo.New()
	shapes, parts, keys := [][]api.Field{l}, [][]api.Part{}, [][]api.Value{}
	var lists [][]api.Def
	var indexes [][]*index.Index
	var entries [][]api.Entry
	var ids [][]int64
	for _, d := range defs()[:8] {
		x.Create(log, d)
		parts = append(parts, d.Parts)
	}
	for range 2 {
		shapes, indexes, lists = append(shapes, x.Shape()), append(indexes, x.Indexes()), append(lists, x.Defs())
		for _, d := range lists[len(lists)-1] {
			c, _ := x.Means(d)
			parts, entries, ids = append(parts, d.Parts), append(entries, c.Entries), append(ids, c.Ids)
			for _, e := range c.Entries {
				keys = append(keys, e.Key)
			}
		}
	}
	apart(t, shapes)
	apart(t, parts)
	apart(t, keys)
	apart(t, lists)
	apart(t, indexes)
	apart(t, entries)
	apart(t, ids)
}

// A name that is a piece of a long text doesn't keep all of it.
func TestNoTextIsHeldOnTo(t *testing.T) {
	text := strings.Repeat("long", 1000)
	x, _ := table.New([]api.Field{{Name: text[:4], Kind: api.Int}}, api.Hooks{}, 5)
	x.Rows().Insert([]api.Value{sample.Int(5)})
	x.Create(undo.New(), def(text[:8], api.UniqueOrdered, 0))
	h := api.Hooks{Extract: []api.Extractor{func(vals []api.Value) (api.Value, error) { return sample.Str(text[:8]), nil }}}
	y, _ := table.New(shape(), h, 5)
	y.Rows().Insert(record(1, text[:4]))
	means, _ := y.Means(extracted("j", api.Prefix, 0))
	field, _ := y.Means(def("j", api.Hash, 1))
	for _, got := range []string{x.Shape()[0].Name, x.Defs()[0].Name, means.Entries[0].Key[0].Str, field.Entries[0].Key[0].Str} {
		if !strings.HasPrefix(text, got) || unsafe.StringData(got) == unsafe.StringData(text) {
			t.Errorf("%q is told, a piece of the text that was handed in", got)
		}
	}
	// What errs tells no piece of it either.
	x.Rows().Insert([]api.Value{sample.Int(5)})
	var twice *api.Twice
	if err := x.Create(undo.New(), def(text[:12], api.UniqueOrdered, 0)); !errors.As(err, &twice) || unsafe.StringData(twice.Where) == unsafe.StringData(text) {
		t.Errorf("Create tells %v", err)
	}
}

// An index that is gone can go when the log has let go of it.
func TestNothingIsHeldOnTo(t *testing.T) {
	x, _ := table.New(shape(), api.Hooks{}, 20)
	l := undo.New()
	var gone []weak.Pointer[index.Index]
	for i := range 40 {
		name := fmt.Sprint("i", i%3)
		x.Create(l, def(name, api.Pos))
		p, _ := x.Index(name)
		gone = append(gone, weak.Make(p))
		if i%2 == 0 {
			l.Back(l.Len() - 1)
			continue
		}
		x.Drop(l, name)
		if i%4 == 1 {
			l.Back(l.Len() - 1)
			x.Drop(l, name)
		}
	}
	l.Keep(0)
	runtime.GC()
	for i, p := range gone {
		if p.Value() != nil {
			t.Errorf("index %d is held on to", i)
		}
	}
	runtime.KeepAlive(x)
}

// Two tables may share a log: each is brought back by what is its own.
func TestEachTableIsItsOwn(t *testing.T) {
	a, b := with(t, few()...), with(t, few()[:2]...)
	b.log = a.log
	b.was = nil
	mark, now := a.log.Mark(), b.now.copied()
	a.create(def("a", api.Seq))
	b.create(def("a", api.Hash, 0))
	b.create(def("b", api.Hash, 0))
	a.drop("a")
	b.drop("a")
	a.look()
	b.look()
	a.log.Back(mark)
	b.now, a.now.indexes = now, nil
	a.look()
	b.look()
}

// What a call tells hangs on what came before alone, not on another run of the same.
func TestTheSameEachTime(t *testing.T) {
	run := func() string {
		text := ""
		b := begin(t)
		r := rand.New(rand.NewSource(8))
		for range 150 {
			b.randomly(r)
			text += fmt.Sprint(b.table.Defs(), b.table.Cost(), b.table.Rows().All(), b.log.Len())
			for _, x := range b.table.Indexes() {
				text += fmt.Sprint(x.Contents())
			}
		}
		return text
	}
	if run() != run() {
		t.Error("the same calls tell otherwise")
	}
}
