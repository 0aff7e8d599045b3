package index_test

import (
	"cmp"
	"errors"
	"fmt"
	"math"
	"math/bits"
	"math/rand"
	"reflect"
	"runtime"
	"slices"
	"strings"
	"testing"
	"unsafe"
	"weak"

	"rialto/api"
	"rialto/index"
	"rialto/sample"
	"rialto/undo"
	"rialto/value"
)

// name is that of all indexes here.
const name = "by_it"

// ints tells the key of those Ints.
func ints(l ...int64) []api.Value {
	var k []api.Value
	for _, n := range l {
		k = append(k, sample.Int(n))
	}
	return k
}

// str tells the key of that Str alone.
func str(s string) []api.Value { return []api.Value{sample.Str(s)} }

// anew tells the same key in other memory.
func anew(k []api.Value) []api.Value {
	k = slices.Clone(k)
	for i := range k {
		k[i].Str = strings.Clone(k[i].Str)
	}
	return k
}

// order holds keys against each other, and doesn't fail.
type order func(a, b []api.Value) int

// down is the order of values turned round.
func down(a, b []api.Value) int { return value.Rows(b, a) }

// byLastDigit calls keys equal whose first Ints end alike.
func byLastDigit(a, b []api.Value) int {
	digit := func(k []api.Value) int64 {
		if len(k) == 0 {
			return -1
		}
		return k[0].Int % 10
	}
	return int(digit(a) - digit(b))
}

// sort is a sort of index: of a kind, and in an order.
type sort struct {
	kind  int
	by    string
	order order // by which its keys are equal, too
	own   bool  // whether a comparator tells it
}

func (s sort) String() string { return fmt.Sprintf("kind %d by %s", s.kind, s.by) }

// sorts are all kinds, the ordered ones in several orders.
func sorts() []sort {
	var l []sort
	for _, kind := range []int{api.Hash, api.UniqueHash, api.Ordered, api.UniqueOrdered, api.Seq, api.Pos, api.Prefix} {
		l = append(l, sort{kind, "value", value.Rows, false})
	}
	return append(l, own()...)
}

// own are those whose order a comparator tells.
func own() []sort {
	var l []sort
	for _, kind := range []int{api.Ordered, api.UniqueOrdered} {
		l = append(l, sort{kind, "value turned round", down, true}, sort{kind, "last digit", byLastDigit, true})
	}
	return l
}

func (s sort) unique() bool { return s.kind == api.UniqueHash || s.kind == api.UniqueOrdered }

func (s sort) keyless() bool { return s.kind == api.Seq || s.kind == api.Pos }

func (s sort) hashed() bool { return s.kind == api.Hash || s.kind == api.UniqueHash }

func (s sort) ordered() bool { return s.kind == api.Ordered || s.kind == api.UniqueOrdered }

func (s sort) treed() bool { return s.ordered() || s.keyless() }

// def defines it by the first field, which a comparator with the number 1 puts in order.
func (s sort) def() api.Def {
	d := api.Def{Name: name, Kind: s.kind, Parts: []api.Part{{Field: 0}}, Compare: -1}
	if s.keyless() {
		d.Parts = nil
	}
	if s.own {
		d.Compare = 1
	}
	return d
}

// hooks have that comparator, and one that isn't to be asked.
func hooks(f api.Comparator) api.Hooks {
	return api.Hooks{Compare: []api.Comparator{func(a, b []api.Value) (int, error) { panic("the wrong one") }, f}}
}

// keys are some that an index of that sort may have.
func (s sort) keys() [][]api.Value {
	if s.kind == api.Prefix {
		return [][]api.Value{str("b"), str("ab"), str(""), str("abc"), str("b\x00")}
	}
	return [][]api.Value{ints(5), ints(15), ints(4), ints(25), ints(-5)}
}

func sameEntry(a, b api.Entry) bool {
	return a.Id == b.Id && sample.RowsAlike(a.Key, b.Key)
}

// model is what an index means: its entries as they stand, in a plain list; those of sequences and positions have no keys.
type model struct {
	sort    sort
	entries []api.Entry
}

func (m *model) place(id int64) (int, bool) {
	at := slices.IndexFunc(m.entries, func(e api.Entry) bool { return e.Id == id })
	return max(at, 0), at >= 0
}

func (m *model) at(i int) (int64, bool) {
	if m.sort.hashed() || i < 0 || i >= len(m.entries) {
		return 0, false
	}
	return m.entries[i].Id, true
}

func (m *model) key(id int64) ([]api.Value, bool) {
	at, there := m.place(id)
	if !there {
		return nil, false
	}
	return m.entries[at].Key, true
}

// beside tells what Follows and Ahead mean.
func (m *model) beside(id int64, step int) (int64, bool) {
	at, there := m.place(id)
	if !there {
		return 0, false
	}
	return m.at(at + step)
}

// rival tells ErrDuplicate, if an entry with another Id has an equal key.
func (m *model) rival(k []api.Value, id int64) error {
	first := int64(math.MaxInt64)
	found := false
	for _, e := range m.entries {
		if e.Id != id && m.sort.order(e.Key, k) == 0 {
			first, found = min(first, e.Id), true
		}
	}
	if !m.sort.unique() || !found {
		return nil
	}
	return &api.Twice{Where: name, Id: first}
}

func (m *model) put(k []api.Value, id int64) {
	e := api.Entry{Key: anew(k), Id: id}
	if m.sort.keyless() {
		m.entries = append(m.entries, api.Entry{Id: id})
		return
	}
	before := slices.IndexFunc(m.entries, func(o api.Entry) bool {
		return cmp.Or(m.sort.order(o.Key, k), cmp.Compare(o.Id, id)) > 0
	})
	if before < 0 {
		before = len(m.entries)
	}
	m.entries = slices.Insert(m.entries, before, e)
}

func (m *model) take(id int64) {
	m.entries = slices.DeleteFunc(m.entries, func(e api.Entry) bool { return e.Id == id })
}

func (m *model) insert(k []api.Value, id int64) error {
	if _, there := m.place(id); there {
		return api.ErrThere
	}
	if err := m.rival(k, id); err != nil {
		return err
	}
	m.put(k, id)
	return nil
}

func (m *model) erase(id int64) error {
	if _, there := m.place(id); !there {
		return api.ErrNoRow
	}
	m.take(id)
	return nil
}

func (m *model) replace(k []api.Value, id int64) error {
	old, there := m.key(id)
	switch {
	case !there:
		return api.ErrNoRow
	case m.sort.keyless() || value.Rows(old, k) == 0:
		return nil
	}
	if err := m.rival(k, id); err != nil {
		return err
	}
	m.take(id)
	m.put(k, id)
	return nil
}

func (m *model) move(id, before int64) api.Errno {
	_, there := m.place(id)
	_, known := m.place(before)
	switch {
	case m.sort.kind != api.Seq:
		return api.ErrNoIndex
	case !there || before != 0 && !known:
		return api.ErrNoRow
	case id == before && before != 0:
		return api.OK
	}
	m.take(id)
	to, known := m.place(before)
	if before == 0 || !known {
		to = len(m.entries)
	}
	m.entries = slices.Insert(m.entries, to, api.Entry{Id: id})
	return api.OK
}

func (m *model) moveTo(id int64, to int) api.Errno {
	_, there := m.place(id)
	switch {
	case m.sort.kind != api.Pos:
		return api.ErrNoIndex
	case !there:
		return api.ErrNoRow
	case to < 0 || to >= len(m.entries):
		return api.ErrPlace
	}
	m.take(id)
	m.entries = slices.Insert(m.entries, to, api.Entry{Id: id})
	return api.OK
}

// sameError holds what was told against what was wanted: ErrDuplicate with Where and Id, others as they are.
func sameError(got, want error) bool {
	var b *api.Twice
	if !errors.As(want, &b) {
		return got == want
	}
	a, is := got.(*api.Twice)
	return is && *a == *b && errors.Is(got, api.ErrDuplicate)
}

// bound is how many nodes a change of n entries may write: that of one tree's entry twice.
func bound(n int) int {
	return 2 * api.StepC * bits.Len(uint(n)+1)
}

// state is how things were at a mark of the log.
type state struct {
	mark    int
	entries []api.Entry
}

// both does each step with an index and with the model beside it, and looks at all that can be told behind it.
type both struct {
	t      *testing.T
	index  *index.Index
	log    *undo.Log
	means  model
	asked  int     // how often the comparator was
	states []state // ahead of each step that is in the log
	steps  []string
	ids    []int64 // at which it looks
}

func begin(t *testing.T, s sort, ids ...int64) *both {
	t.Helper()
	b := &both{t: t, log: undo.New(), means: model{sort: s}, ids: ids}
	b.index = index.New(s.def(), hooks(func(x, y []api.Value) (int, error) {
		b.asked++
		return s.order(x, y), nil
	}))
	b.look()
	return b
}

func (b *both) fail(form string, args ...any) {
	b.t.Helper()
	b.t.Fatalf("%v: %v: %s", b.means.sort, b.steps[max(0, len(b.steps)-30):], fmt.Sprintf(form, args...))
}

// step does a change, and looks whether it tells what the model tells, and adds to the log and writes nodes as it may.
func (b *both) step(do, model func() error, form string, args ...any) {
	b.t.Helper()
	b.steps = append(b.steps, fmt.Sprintf(form, args...))
	was := state{b.log.Mark(), slices.Clone(b.means.entries)}
	want, nodes := model(), b.index.Nodes()
	if got := do(); !sameError(got, want) {
		b.fail("tells %v, wanted %v", got, want)
	}
	wrote, added := b.index.Nodes()-nodes, b.log.Len()-was.mark
	if want != nil && (wrote != 0 || added != 0) {
		b.fail("errs, but writes %d nodes and adds %d to the log", wrote, added)
	}
	if wrote < 0 || wrote > bound(len(was.entries)) || added < 0 {
		b.fail("writes %d nodes of %d entries and adds %d to the log", wrote, len(was.entries), added)
	}
	b.states = append(b.states, was)
	b.look()
}

func (b *both) insert(k []api.Value, id int64) {
	b.t.Helper()
	do := func() error { return b.index.Insert(b.log, anew(k), id) }
	b.step(do, func() error { return b.means.insert(k, id) }, "Insert(%v, %d)", k, id)
}

func (b *both) erase(id int64) {
	b.t.Helper()
	do := func() error { return b.index.Erase(b.log, id) }
	b.step(do, func() error { return b.means.erase(id) }, "Erase(%d)", id)
}

func (b *both) replace(k []api.Value, id int64) {
	b.t.Helper()
	do := func() error { return b.index.Replace(b.log, anew(k), id) }
	b.step(do, func() error { return b.means.replace(k, id) }, "Replace(%v, %d)", k, id)
}

// orNil tells no error of OK.
func orNil(e api.Errno) error {
	if e == api.OK {
		return nil
	}
	return e
}

func (b *both) move(id, before int64) {
	b.t.Helper()
	do := func() error { return orNil(b.index.Move(b.log, id, before)) }
	b.step(do, func() error { return orNil(b.means.move(id, before)) }, "Move(%d, %d)", id, before)
}

func (b *both) moveTo(id int64, to int) {
	b.t.Helper()
	do := func() error { return orNil(b.index.MoveTo(b.log, id, to)) }
	b.step(do, func() error { return orNil(b.means.moveTo(id, to)) }, "MoveTo(%d, %d)", id, to)
}

// back takes the last n steps back at once.
func (b *both) back(n int) {
	b.t.Helper()
	if n == 0 {
		return
	}
	was := b.states[len(b.states)-n]
	b.steps = append(b.steps, fmt.Sprintf("back over %d steps", n))
	asked := b.asked
	b.log.Back(was.mark)
	if b.asked != asked {
		b.fail("user code is asked")
	}
	b.means.entries, b.states = was.entries, b.states[:len(b.states)-n]
	b.look()
}

// contents tells what Contents means.
func (m *model) contents() api.Contents {
	if !m.sort.keyless() {
		l := slices.Clone(m.entries)
		if m.sort.hashed() {
			slices.SortFunc(l, func(a, b api.Entry) int { return cmp.Or(value.Rows(a.Key, b.Key), cmp.Compare(a.Id, b.Id)) })
		}
		return api.Contents{Entries: l}
	}
	var ids []int64
	for _, e := range m.entries {
		ids = append(ids, e.Id)
	}
	return api.Contents{Ids: ids}
}

func sameContents(a, b api.Contents) bool {
	return slices.EqualFunc(a.Entries, b.Entries, sameEntry) && slices.Equal(a.Ids, b.Ids)
}

func (b *both) look() {
	b.t.Helper()
	b.lookAtOrder()
	if got, want := b.index.Contents(), b.means.contents(); !sameContents(got, want) {
		b.fail("Contents tells %v, wanted %v", got, want)
	}
	nodes := b.index.Nodes()
	for _, id := range b.ids {
		got, ok := b.index.Key(id)
		if want, there := b.means.key(id); ok != there || !sample.RowsAlike(got, want) {
			b.fail("Key(%d) tells %v, %t, wanted %v, %t", id, got, ok, want, there)
		}
		for _, k := range b.means.sort.keys() {
			b.lookAtCheck(k, id)
		}
	}
	if b.index.Nodes() != nodes || !b.means.sort.treed() && nodes != 0 {
		b.fail("Nodes tells %d, it told %d", b.index.Nodes(), nodes)
	}
	b.lookWithin()
}

func (b *both) lookAtCheck(k []api.Value, id int64) {
	b.t.Helper()
	length := b.log.Len()
	got, err := b.index.Check(anew(k), id)
	want := b.means.rival(k, id)
	if want != nil || b.means.sort.keyless() {
		k = nil
	}
	if !sameError(err, want) || !sample.RowsAlike(got, k) {
		b.fail("Check tells %v, %v of %d, wanted %v, %v", got, err, id, k, want)
	}
	if b.log.Len() != length {
		b.fail("Check adds to the log")
	}
}

// lookAtOrder looks at what stands where.
func (b *both) lookAtOrder() {
	b.t.Helper()
	asked := b.asked
	if got, ok := b.index.First(); true {
		if want, there := b.means.at(0); got != want || ok != there {
			b.fail("First tells %d, %t, wanted %d, %t", got, ok, want, there)
		}
	}
	if got, ok := b.index.Last(); true {
		if want, there := b.means.at(len(b.means.entries) - 1); got != want || ok != there {
			b.fail("Last tells %d, %t, wanted %d, %t", got, ok, want, there)
		}
	}
	for _, id := range b.ids {
		got, ok := b.index.Follows(id)
		if want, there := b.means.beside(id, 1); got != want || ok != there {
			b.fail("Follows(%d) tells %d, %t, wanted %d, %t", id, got, ok, want, there)
		}
		got, ok = b.index.Ahead(id)
		if want, there := b.means.beside(id, -1); got != want || ok != there {
			b.fail("Ahead(%d) tells %d, %t, wanted %d, %t", id, got, ok, want, there)
		}
		at, ok := b.index.Place(id)
		want, there := b.means.place(id)
		if b.means.sort.hashed() {
			want, there = 0, false
		}
		if at != want || ok != there {
			b.fail("Place(%d) tells %d, %t, wanted %d, %t", id, at, ok, want, there)
		}
	}
	if b.asked != asked {
		b.fail("a call that can't fail asks the comparator")
	}
}

// lookWithin looks whether what is within has what the index has.
func (b *both) lookWithin() {
	b.t.Helper()
	s, x, want := b.means.sort, b.index, b.means.contents().Entries
	if (x.Hash() != nil) != s.hashed() || (x.Ord() != nil) != s.ordered() || (x.Trie() != nil) != (s.kind == api.Prefix) {
		b.fail("Hash tells %v, Ord %v, Trie %v", x.Hash(), x.Ord(), x.Trie())
	}
	switch {
	case s.hashed():
		if got := x.Hash().All(); !slices.EqualFunc(got, want, sameEntry) {
			b.fail("Hash has %v, wanted %v", got, want)
		}
	case s.ordered():
		if got := x.Ord().All(); !slices.EqualFunc(got, want, sameEntry) || x.Ord().Writes() != x.Nodes() {
			b.fail("Ord has %v, wanted %v, and wrote %d nodes, not %d", got, want, x.Ord().Writes(), x.Nodes())
		}
	case s.kind == api.Prefix:
		if got := x.Trie().All(); !slices.EqualFunc(got, want, sameEntry) {
			b.fail("Trie has %v, wanted %v", got, want)
		}
	}
}

func TestErrors(t *testing.T) {
	if api.ErrDuplicate != 80 || api.ErrThere != 72 || api.ErrNoRow != 71 || api.ErrPlace != 73 || api.ErrNoIndex != 81 || api.ErrValue != 10 || api.ErrCallback != 50 {
		t.Error("an error has another number")
	}
}

// told looks whether err is ErrDuplicate of that row in the index.
func told(t *testing.T, err error, id int64) {
	t.Helper()
	var twice *api.Twice
	if !errors.As(err, &twice) || *twice != (api.Twice{Where: name, Id: id}) || !errors.Is(err, api.ErrDuplicate) {
		t.Errorf("tells %v, wanted ErrDuplicate of %d", err, id)
	}
}

// A UniqueHash with (5) for row 1, of the chapter.
func TestP17_1Example(t *testing.T) {
	x := index.New(sort{kind: api.UniqueHash}.def(), api.Hooks{})
	if err := x.Insert(undo.New(), ints(5), 1); err != nil {
		t.Fatalf("Insert tells %v", err)
	}
	k, err := x.Check(ints(5), 2)
	if told(t, err, 1); len(k) != 0 {
		t.Errorf("Check tells %v", k)
	}
	if k, err := x.Check(ints(5), 1); err != nil || !sample.RowsAlike(k, ints(5)) {
		t.Errorf("Check of the row itself tells %v, %v", k, err)
	}
}

// keyed are the kinds of index that have keys, but for Prefix, whose keys are Strs.
func keyed() []int { return []int{api.Hash, api.UniqueHash, api.Ordered, api.UniqueOrdered} }

// A key has the values of the parts, in order, whether a field or an extractor tells them.
func TestP17_1KeyOfParts(t *testing.T) {
	record := []api.Value{sample.Int(5), sample.Str("a"), sample.Float(sample.LoadedNaN()), sample.Bytes(strings.Repeat("x", 60))}
	h := api.Hooks{Extract: []api.Extractor{
		func(vals []api.Value) (api.Value, error) { return vals[3], nil },
		func(vals []api.Value) (api.Value, error) { return sample.Bool(vals[0].Int % 2), nil },
	}}
	parts := []api.Part{{Field: 0}, {Field: 1}, {Field: 2}, {Field: 3}, {Field: -1, Hook: 0}, {Field: -1, Hook: 1}}
	means := append(slices.Clone(record), sample.Bytes(strings.Repeat("x", 60)), sample.Bool(1))
	for _, kind := range keyed() {
		for i := range parts {
			for j := range parts {
				d := api.Def{Name: name, Kind: kind, Parts: []api.Part{parts[i], parts[j], parts[(i+j)%len(parts)]}[:1+(i+j)%3], Compare: -1}
				want := []api.Value{means[i], means[j], means[(i+j)%len(means)]}[:len(d.Parts)]
				x := index.New(d, h)
				for id := range int64(2) {
					if got, err := x.Check(record, id); err != nil || !sample.RowsAlike(got, want) {
						t.Errorf("%v: Check tells %v, %v, wanted %v", d, got, err, want)
					}
				}
			}
		}
	}
}

// trap panics whatever it is asked, and == of two of them does.
type trap struct{ at []int }

func (trap) Error() string   { panic("Error was asked") }
func (trap) Is(error) bool   { panic("Is was asked") }
func (trap) As(any) bool     { panic("As was asked") }
func (trap) Unwrap() []error { panic("Unwrap was asked") }

// ending is one in which user code tells nothing.
type ending struct {
	err    error
	thrown any // if err is nil
}

func (e ending) do() error {
	if e.err == nil {
		panic(e.thrown)
	}
	return e.err
}

// endings have errors among them that look like the program's own, and such as can't be asked anything.
func endings() []ending {
	l := []ending{{thrown: 5}, {thrown: "text"}, {thrown: trap{[]int{1}}}, {thrown: errors.New("own")}, {thrown: api.ErrThere}, {thrown: &api.Twice{Where: "j", Id: 5}}, {thrown: &api.Fault{Where: "j"}}}
	for _, err := range []error{
		errors.New("own"), trap{[]int{1}}, api.OK, api.ErrDuplicate, api.ErrThere, api.ErrNoRow, api.ErrKey, api.ErrCallback,
		&api.Twice{Where: "j", Id: 5}, (*api.Twice)(nil), &api.Fault{Where: "j", Err: errors.New("own")}, (*api.Fault)(nil),
	} {
		l = append(l, ending{err: err})
	}
	return l
}

// bears looks whether err is a fault of the index with what user code told or panicked with.
func bears(t *testing.T, err error, e ending) {
	t.Helper()
	fault, is := err.(*api.Fault)
	if !is || fault == nil {
		t.Fatalf("the error is a %T, wanted a fault", err)
	}
	var found *api.Fault
	if fault.Where != name || !reflect.DeepEqual(fault.Err, e.err) || !reflect.DeepEqual(fault.Panic, e.thrown) {
		t.Errorf("Where is %q, Err a %T, Panic a %T, wanted a %T, a %T", fault.Where, fault.Err, fault.Panic, e.err, e.thrown)
	}
	if !errors.As(err, &found) || found != fault || !errors.Is(err, api.ErrCallback) {
		t.Error("errors.As or errors.Is doesn't find the fault")
	}
}

// What an extractor fails with goes ahead of all else; behind it no extractor is called.
func TestP17_1ExtractorFails(t *testing.T) {
	for _, kind := range append(keyed(), api.Prefix) {
		for _, e := range endings() {
			calls := 0
			h := api.Hooks{Extract: []api.Extractor{
				func([]api.Value) (api.Value, error) { return sample.Str("a"), e.do() },
				func([]api.Value) (api.Value, error) { calls++; return sample.Str("a"), nil },
			}}
			h.Compare = []api.Comparator{func(a, b []api.Value) (int, error) { return 0, errors.New("the comparator's") }}
			d := api.Def{Name: name, Kind: kind, Parts: []api.Part{{Field: -1, Hook: 0}, {Field: -1, Hook: 1}}, Compare: -1}
			if kind == api.Ordered || kind == api.UniqueOrdered {
				d.Compare = 0
			}
			if kind == api.Prefix {
				d.Parts = d.Parts[:1]
			}
			x := index.New(d, h)
			x.Insert(undo.New(), str("a"), 1)
			k, err := x.Check(ints(5), 2)
			if bears(t, err, e); len(k) != 0 || calls != 0 {
				t.Errorf("kind %d: Check tells %v, the other extractor is called %d times", kind, k, calls)
			}
		}
	}
}

// An extractor that tells no value, or none that is there, fails as well.
func TestP17_1ExtractorTellsNoValue(t *testing.T) {
	for _, kind := range append(keyed(), api.Prefix) {
		for _, v := range sample.NoValues() {
			h := api.Hooks{Extract: []api.Extractor{func([]api.Value) (api.Value, error) { return v, nil }}}
			x := index.New(api.Def{Name: name, Kind: kind, Parts: []api.Part{{Field: -1}}, Compare: -1}, h)
			_, err := x.Check(ints(5), 1)
			bears(t, err, ending{err: api.ErrValue})
		}
	}
}

// Of a Prefix the extractor's value must be a Str; that of a field is.
func TestP17_1PrefixOfNoStr(t *testing.T) {
	for _, v := range sample.Rising() {
		h := api.Hooks{Extract: []api.Extractor{func([]api.Value) (api.Value, error) { return v, nil }}}
		x := index.New(api.Def{Name: name, Kind: api.Prefix, Parts: []api.Part{{Field: -1}}, Compare: -1}, h)
		for id := range int64(2) {
			k, err := x.Check(ints(5), id)
			if v.Kind != api.Str {
				if bears(t, err, ending{err: api.ErrValue}); len(k) != 0 {
					t.Errorf("Check tells %v beside an error", k)
				}
				continue
			}
			if err != nil || !sample.RowsAlike(k, []api.Value{v}) {
				t.Errorf("Check tells %v, %v, wanted %v", k, err, v)
			}
			if err := x.Insert(undo.New(), k, id); err != nil || len(x.Trie().Find(v.Str)) != int(id)+1 {
				t.Errorf("Insert of %v tells %v, Find %v", v, err, x.Trie().Find(v.Str))
			}
		}
	}
	x := index.New(sort{kind: api.Prefix}.def(), api.Hooks{})
	if k, err := x.Check(str("a"), 1); err != nil || !sample.RowsAlike(k, str("a")) {
		t.Errorf("Check of a field tells %v, %v", k, err)
	}
}

// A key that isn't a Str can't stand in an index of prefixes, and changes nothing there.
func TestP17_1NoKeyOfAPrefix(t *testing.T) {
	b := begin(t, sort{kind: api.Prefix, order: value.Rows}, 1, 2)
	b.insert(str("a"), 1)
	for _, k := range [][]api.Value{nil, ints(5), {sample.Bytes("a")}, {sample.Str("a"), sample.Str("b")}} {
		bears(t, b.index.Insert(b.log, k, 2), ending{err: api.ErrValue})
		bears(t, b.index.Replace(b.log, k, 1), ending{err: api.ErrValue})
		b.look()
	}
	b.back(1)
}

// What is equal is told by the index's own order, and only another row is in the way.
func TestP17_1Unique(t *testing.T) {
	for _, s := range sorts() {
		x := index.New(s.def(), hooks(func(a, b []api.Value) (int, error) { return s.order(a, b), nil }))
		l := undo.New()
		x.Insert(l, s.keys()[0], 7)
		x.Insert(l, s.keys()[2], 3)
		for id := int64(1); id < 9; id++ {
			for i, k := range s.keys() {
				equal := map[bool]int64{s.order(k, s.keys()[0]) == 0: 7, s.order(k, s.keys()[2]) == 0: 3}[true]
				got, err := x.Check(k, id)
				if s.unique() && equal != 0 && equal != id {
					if told(t, err, equal); len(got) != 0 {
						t.Errorf("%v: Check tells %v beside an error", s, got)
					}
					continue
				}
				if s.keyless() {
					k = nil
				}
				if err != nil || !sample.RowsAlike(got, k) {
					t.Errorf("%v: Check of key %d, row %d tells %v, %v", s, i, id, got, err)
				}
			}
		}
	}
}

// Noughts and NaNs are keys by their bits.
func TestP17_1UniqueFloats(t *testing.T) {
	for _, kind := range []int{api.UniqueHash, api.UniqueOrdered} {
		x := index.New(sort{kind: kind}.def(), api.Hooks{})
		l := undo.New()
		var floats []float64
		for _, v := range sample.Rising() {
			if v.Kind == api.Float {
				floats = append(floats, v.F)
			}
		}
		for i, f := range floats {
			k, err := x.Check([]api.Value{sample.Float(f)}, int64(i))
			if err != nil || x.Insert(l, k, int64(i)) != nil {
				t.Fatalf("kind %d: Check tells %v of %x", kind, err, math.Float64bits(f))
			}
		}
		for i, f := range floats {
			_, err := x.Check([]api.Value{sample.Float(f)}, -1)
			told(t, err, int64(i))
		}
	}
}

// faulty tells what an order tells, up to the call with that number (from 0 on); there and behind it, it fails.
type faulty struct {
	order  order
	at     int // -1: it never does
	ending ending
	calls  int
}

func (f *faulty) compare(a, b []api.Value) (int, error) {
	f.calls++
	if f.at >= 0 && f.calls > f.at {
		return 7, f.ending.do()
	}
	return f.order(a, b), nil
}

// from has it fail from its call at on, counted anew.
func (f *faulty) from(at int) { f.at, f.calls = at, 0 }

// call is one that may ask the comparator.
type call struct {
	name string
	do   func(x *index.Index, l *undo.Log, k []api.Value, id int64) error
}

func check(x *index.Index, l *undo.Log, k []api.Value, id int64) error {
	got, err := x.Check(k, id)
	if err != nil && len(got) != 0 {
		return errors.New("a key beside an error")
	}
	return err
}

func erase(x *index.Index, l *undo.Log, k []api.Value, id int64) error { return x.Erase(l, id) }

func calls() []call {
	return []call{{"Check", check}, {"Insert", (*index.Index).Insert}, {"Replace", (*index.Index).Replace}, {"Erase", erase}}
}

// filled tells an index with n entries, the even numbers as keys, and their log.
func filled(t *testing.T, s sort, n int, f *faulty) (*index.Index, *undo.Log) {
	t.Helper()
	x, l := index.New(s.def(), hooks(f.compare)), undo.New()
	for i := range n {
		if err := x.Insert(l, ints(int64(2*i)), int64(i)); err != nil {
			t.Fatalf("Insert tells %v", err)
		}
	}
	return x, l
}

// failing makes a call whose comparator fails at that call of it, and looks whether nothing is changed where it
// does. It tells whether it was asked so often.
func failing(t *testing.T, s sort, n int, c call, k []api.Value, id int64, f *faulty, at int) bool {
	t.Helper()
	f.from(-1)
	x, l := filled(t, s, n, f)
	was, nodes, mark := x.Contents(), x.Nodes(), l.Mark()
	f.from(at)
	err := c.do(x, l, k, id)
	failed := f.calls > at
	f.from(0)
	if failed {
		bears(t, err, f.ending)
		if x.Nodes() != nodes || l.Len() != mark {
			t.Errorf("%s(%v, %d) with a fault at %d writes nodes or adds to the log", c.name, k, id, at)
		}
	}
	l.Back(mark)
	if got := x.Contents(); !sameContents(got, was) || f.calls != 0 {
		t.Errorf("%s(%v, %d) with a fault at %d: now %v, it was %v", c.name, k, id, at, got, was)
	}
	return failed
}

// Whichever call of the comparator fails: its error is told, and nothing is changed. What is taken back asks it
// nothing, though it would fail.
func TestP17_2ComparatorFails(t *testing.T) {
	for _, s := range own() {
		if s.by == "last digit" {
			continue
		}
		for _, c := range calls() {
			for n := range 10 {
				for k := int64(-1); k < int64(2*n+1); k++ {
					for id := int64(0); id < int64(n+1); id++ {
						for at := 0; ; at++ {
							e := endings()[(at+n+int(k+id)+1)%len(endings())]
							f := &faulty{order: s.order, ending: e}
							if !failing(t, s, n, c, ints(k), id, f, at) {
								break
							}
						}
					}
				}
			}
		}
	}
}

// Check asks the comparator of an index that isn't unique too: else the error would come while a change is applied.
func TestP17_1CheckAsksTheComparator(t *testing.T) {
	for _, kind := range []int{api.Ordered, api.UniqueOrdered} {
		s := sort{kind, "value", value.Rows, true}
		for _, c := range calls()[:3] {
			for _, e := range endings() {
				f := &faulty{order: s.order, ending: e}
				if id := map[string]int64{"Replace": 3}[c.name] + 2; !failing(t, s, 10, c, ints(7), id, f, 0) {
					t.Errorf("kind %d: %s asks nothing", kind, c.name)
				}
			}
		}
	}
}

// What a comparator failed with goes ahead of what the index would tell, where it was asked.
func TestP17_2ComparatorFailsFirst(t *testing.T) {
	for _, kind := range []int{api.Ordered, api.UniqueOrdered} {
		s := sort{kind, "value", value.Rows, true}
		for _, key := range []int64{3, 4} {
			f := &faulty{order: s.order, ending: ending{err: api.ErrThere}}
			insert, replace := calls()[1], calls()[2]
			for at := range 3 {
				if !failing(t, s, 10, insert, ints(key), 5, f, at) || !failing(t, s, 10, replace, ints(key), 77, f, at) {
					t.Errorf("kind %d: it isn't asked", kind)
				}
			}
		}
	}
}

// An index whose comparator failed goes on as one whose comparator didn't.
func TestP17_2GoesOnBehindAFault(t *testing.T) {
	for _, s := range own() {
		f := &faulty{order: s.order, at: -1, ending: ending{thrown: 5}}
		x, l := index.New(s.def(), hooks(f.compare)), undo.New()
		m := model{sort: s}
		r := rand.New(rand.NewSource(3))
		for range 300 {
			k, id := ints(r.Int63n(30)), r.Int63n(8)
			for _, c := range calls()[:3] {
				f.from(0)
				length := l.Len()
				// It isn't asked of no entries, nor of a key that the row has already.
				if err := c.do(x, l, k, id); f.calls > 0 {
					bears(t, err, f.ending)
				} else {
					l.Back(length)
				}
			}
			f.from(-1)
			c := calls()[1+r.Intn(3)]
			want := map[string]func() error{
				"Insert":  func() error { return m.insert(k, id) },
				"Replace": func() error { return m.replace(k, id) },
				"Erase":   func() error { return m.erase(id) },
			}[c.name]()
			if err := c.do(x, l, k, id); !sameError(err, want) || !sameContents(x.Contents(), m.contents()) {
				t.Fatalf("%v: %s(%v, %d) tells %v, wanted %v; %v, wanted %v", s, c.name, k, id, err, want, x.Contents(), m.contents())
			}
		}
	}
}

// A comparator whose number isn't there, or that is nil, is no definition's; yet no call panics.
func TestNoDefinition(t *testing.T) {
	for _, d := range []api.Def{
		{}, {Kind: 99, Compare: -1}, {Kind: api.Prefix}, {Kind: api.Ordered, Compare: 5}, {Kind: api.UniqueOrdered, Compare: -7, Parts: []api.Part{{Field: 9}}},
		{Kind: api.Ordered, Compare: 1}, {Kind: api.Hash, Parts: []api.Part{{Field: -1, Hook: 4}}}, {Kind: api.Seq, Parts: []api.Part{{Field: 0}}},
	} {
		x, l := index.New(d, hooks(nil)), undo.New()
		for id := range int64(3) {
			for _, c := range calls() {
				c.do(x, l, ints(id), id)
				c.do(x, l, str("a"), id)
			}
			x.Move(l, id, 0)
			x.MoveTo(l, id, 0)
			x.Follows(id)
			x.Contents()
		}
		l.Back(0)
	}
}

// Each change of each kind, one by one, with all that it may be refused for.
func TestP17_2Changes(t *testing.T) {
	for _, s := range sorts() {
		k := s.keys()
		b := begin(t, s, 0, 1, 2, 3, 4, 9)
		b.erase(1)
		b.replace(k[0], 1)
		b.insert(k[0], 1)
		b.insert(k[0], 1)
		b.insert(k[2], 1)
		b.insert(k[0], 2)
		b.insert(k[2], 3)
		b.insert(k[4], 4)
		b.insert(k[2], 1)
		b.replace(k[0], 1)
		b.replace(k[2], 1)
		b.replace(k[2], 9)
		b.replace(k[1], 1)
		b.replace(k[3], 3)
		b.erase(9)
		b.erase(3)
		b.erase(3)
		b.insert(k[2], 3)
		b.erase(1)
		for range len(b.states) {
			b.back(1)
		}
	}
}

// The row is there goes ahead of another one has an equal key, and so does it isn't there.
func TestP17_2OrderOfErrors(t *testing.T) {
	for _, s := range sorts() {
		k := s.keys()
		x, l := index.New(s.def(), hooks(func(a, b []api.Value) (int, error) { return s.order(a, b), nil })), undo.New()
		x.Insert(l, k[0], 1)
		x.Insert(l, k[2], 2)
		for _, key := range k {
			if err := x.Insert(l, key, 2); err != api.ErrThere {
				t.Errorf("%v: Insert of what is there tells %v", s, err)
			}
			if err := x.Replace(l, key, 3); err != api.ErrNoRow {
				t.Errorf("%v: Replace of what isn't there tells %v", s, err)
			}
		}
		if l.Len() != 2 {
			t.Errorf("%v: what errs adds to the log", s)
		}
		insert, replace := x.Insert(l, k[0], 3), x.Replace(l, k[0], 2)
		if s.unique() {
			told(t, insert, 1)
			told(t, replace, 1)
			continue
		}
		if insert != nil || replace != nil {
			t.Errorf("%v: not unique, but Insert tells %v, Replace %v", s, insert, replace)
		}
	}
}

// A key that is the same changes nothing, and nothing goes to the log; nor does any in sequences and positions.
func TestP17_2ReplaceOfTheSame(t *testing.T) {
	for _, s := range sorts() {
		b := begin(t, s, 1, 2)
		b.insert(s.keys()[0], 1)
		b.insert(s.keys()[2], 2)
		nodes, length, asked := b.index.Nodes(), b.log.Len(), b.asked
		again := [][]api.Value{s.keys()[0]}
		if s.keyless() {
			again = append(s.keys(), nil)
		}
		for _, k := range again {
			if err := b.index.Replace(b.log, k, 1); err != nil {
				t.Errorf("%v: tells %v", s, err)
			}
		}
		if b.index.Nodes() != nodes || b.log.Len() != length || b.asked != asked {
			t.Errorf("%v: it isn't nothing that happens", s)
		}
		b.look()
	}
}

// A key that is equal, but isn't the same, is the row's from then on; its own old one isn't in the way.
func TestP17_2ReplaceByAnEqualKey(t *testing.T) {
	for _, kind := range []int{api.Ordered, api.UniqueOrdered} {
		b := begin(t, sort{kind, "last digit", byLastDigit, true}, 1, 2, 3)
		b.insert(ints(15), 2)
		b.insert(ints(4), 1)
		b.insert(ints(6), 3)
		b.replace(ints(25), 2)
		if k, ok := b.index.Key(2); !ok || !sample.RowsAlike(k, ints(25)) {
			t.Errorf("kind %d: Key tells %v, %t", kind, k, ok)
		}
		b.replace(ints(16), 2)
		b.replace(ints(5), 2)
		b.back(3)
	}
}

// What stands with equal keys stands by its number.
func TestP17_2EqualKeys(t *testing.T) {
	for _, s := range sorts() {
		if s.unique() {
			continue
		}
		b := begin(t, s, 1, 2, 3, 4, 5, 6)
		for _, id := range []int64{4, 2, 5, 1, 3} {
			b.insert(s.keys()[0], id)
		}
		for id := range int64(7) {
			b.replace(s.keys()[2], id)
		}
		for _, id := range []int64{3, 1, 5, 2} {
			b.replace(s.keys()[0], id)
			b.erase(7 - id)
			b.insert(s.keys()[0], 7-id)
		}
		b.back(len(b.states))
	}
}

// Numbers are any.
func TestP17_2OddIds(t *testing.T) {
	odd := []int64{math.MinInt64, -1 << 32, -1, 0, 1, 1 << 32, math.MaxInt64}
	for _, s := range sorts() {
		b := begin(t, s, odd...)
		r := rand.New(rand.NewSource(5))
		for i, at := range r.Perm(len(odd)) {
			b.insert(s.keys()[i%len(s.keys())], odd[at])
		}
		for i, at := range r.Perm(len(odd)) {
			b.replace(s.keys()[i%len(s.keys())], odd[at])
			b.move(odd[at], 0)
			b.move(odd[at], odd[i])
			b.moveTo(odd[at], i/2)
		}
		for _, at := range r.Perm(len(odd)) {
			b.erase(odd[at])
		}
		b.back(len(b.states))
	}
}

// A nil key and an empty one are the same, and keys may have what is no value.
func TestP17_2OddKeys(t *testing.T) {
	for _, s := range sorts() {
		if s.kind == api.Prefix || s.by == "last digit" {
			continue
		}
		b := begin(t, s, 1, 2, 3)
		b.insert(nil, 1)
		b.replace([]api.Value{}, 1)
		b.insert(ints(5)[:0], 2)
		b.replace(sample.NoValues(), 1)
		b.replace(slices.Repeat(ints(5), 9), 1)
		b.insert(str(strings.Repeat("x", 61)), 3)
		b.back(len(b.states))
	}
}

func TestP17_2Many(t *testing.T) {
	const n = 400
	for _, s := range sorts() {
		x, l := index.New(s.def(), hooks(func(a, b []api.Value) (int, error) { return s.order(a, b), nil })), undo.New()
		m := model{sort: s}
		r := rand.New(rand.NewSource(7))
		keyOf := func(i int) []api.Value {
			if s.kind == api.Prefix {
				return str(strings.Repeat("ab", i%7) + fmt.Sprint(i))
			}
			return ints(int64(i))
		}
		same := func(got, want error, step string) {
			t.Helper()
			if !sameError(got, want) || !sameContents(x.Contents(), m.contents()) {
				t.Fatalf("%v: %s tells %v, wanted %v", s, step, got, want)
			}
		}
		for _, i := range r.Perm(n) {
			nodes, size := x.Nodes(), len(m.entries)
			same(x.Insert(l, keyOf(i), int64(-i)), m.insert(keyOf(i), int64(-i)), "Insert")
			if x.Nodes()-nodes > bound(size) {
				t.Fatalf("%v: Insert writes %d nodes of %d entries", s, x.Nodes()-nodes, size)
			}
		}
		full, mark := m.contents(), l.Mark()
		for range n {
			i, id := r.Intn(2*n), int64(-r.Intn(n))
			nodes := x.Nodes()
			same(x.Replace(l, keyOf(i), id), m.replace(keyOf(i), id), "Replace")
			if x.Nodes()-nodes > bound(len(m.entries)) {
				t.Fatalf("%v: Replace writes %d nodes", s, x.Nodes()-nodes)
			}
		}
		for _, i := range r.Perm(n) {
			same(x.Erase(l, int64(-i)), m.erase(int64(-i)), "Erase")
		}
		if l.Back(mark); !sameContents(x.Contents(), full) {
			t.Errorf("%v: what is taken back isn't back", s)
		}
		if l.Back(0); len(x.Contents().Entries)+len(x.Contents().Ids) != 0 {
			t.Errorf("%v: Contents tells %v", s, x.Contents())
		}
	}
}

// Of prefixes the order is that of strings, whatever the numbers are.
func TestP17_3OrderOfPrefixes(t *testing.T) {
	x, l := index.New(sort{kind: api.Prefix}.def(), api.Hooks{}), undo.New()
	for id, s := range []string{"b", "a", "ab", "", "a", "\xFF"} {
		x.Insert(l, str(s), int64(id))
	}
	var ids []int64
	for id, ok := x.First(); ok; id, ok = x.Follows(id) {
		ids = append(ids, id)
	}
	var back []int64
	for id, ok := x.Last(); ok; id, ok = x.Ahead(id) {
		back = append(back, id)
	}
	slices.Reverse(back)
	if want := []int64{3, 1, 4, 2, 0, 5}; !slices.Equal(ids, want) || !slices.Equal(back, want) {
		t.Errorf("First and Follows tell %v, Last and Ahead %v, wanted %v", ids, back, want)
	}
	if at, ok := x.Place(0); at != 4 || !ok {
		t.Errorf("Place tells %d, %t", at, ok)
	}
}

// An empty index has nothing, and a hash has no order.
func TestP17_3NoOrder(t *testing.T) {
	for _, s := range sorts() {
		b := begin(t, s, math.MinInt64, -1, 0, 1, math.MaxInt64)
		if !s.hashed() {
			continue
		}
		b.insert(s.keys()[0], 1)
		_, first := b.index.First()
		_, last := b.index.Last()
		_, place := b.index.Place(1)
		_, follows := b.index.Follows(1)
		_, ahead := b.index.Ahead(1)
		if first || last || place || follows || ahead {
			t.Errorf("%v: it has an order", s)
		}
	}
}

// filledLine has the numbers 1 to n in a sequence or in positions.
func filledLine(t *testing.T, kind, n int) *both {
	t.Helper()
	var ids []int64
	for id := range int64(n + 2) {
		ids = append(ids, id)
	}
	b := begin(t, sort{kind: kind, order: value.Rows}, ids...)
	for id := 1; id <= n; id++ {
		b.insert(nil, int64(id))
	}
	return b
}

func TestP17_4Move(t *testing.T) {
	for n := range 6 {
		b := filledLine(t, api.Seq, n)
		for id := int64(-1); id <= int64(n+1); id++ {
			for before := int64(-1); before <= int64(n+1); before++ {
				b.move(id, before)
				b.back(1)
				b.move(id, before)
				b.moveTo(id, int(before))
			}
		}
		b.back(len(b.states))
	}
}

func TestP17_4MoveTo(t *testing.T) {
	for n := range 6 {
		b := filledLine(t, api.Pos, n)
		for id := int64(-1); id <= int64(n+1); id++ {
			for _, to := range []int{math.MinInt, -1, 0, 1, 2, 3, 4, 5, 6, math.MaxInt} {
				b.moveTo(id, to)
				b.back(1)
				b.moveTo(id, to)
				b.move(id, int64(to))
			}
		}
		b.back(len(b.states))
	}
}

// Which of two errors is told.
func TestP17_4Errors(t *testing.T) {
	for _, s := range sorts() {
		b := begin(t, s, 1)
		b.insert(s.keys()[0], 1)
		move, to := api.ErrNoIndex, api.ErrNoIndex
		if s.kind == api.Seq {
			move = api.ErrNoRow
		}
		if s.kind == api.Pos {
			to = api.ErrNoRow
		}
		if got := []api.Errno{b.index.Move(b.log, 9, 8), b.index.MoveTo(b.log, 9, 8)}; !slices.Equal(got, []api.Errno{move, to}) {
			t.Errorf("%v: Move and MoveTo tell %v", s, got)
		}
		if s.kind == api.Seq && b.index.Move(b.log, 1, 8) != api.ErrNoRow || s.kind == api.Pos && b.index.MoveTo(b.log, 1, 1) != api.ErrPlace {
			t.Errorf("%v: a place that isn't there is taken", s)
		}
		b.look()
	}
}

// Those of trees grow by each change that changes something, others tell 0.
func TestP17_4Nodes(t *testing.T) {
	for _, s := range sorts() {
		b := begin(t, s, 1)
		last := 0
		grows := func(does bool) {
			t.Helper()
			if got := b.index.Nodes(); (got > last) != (does && s.treed()) {
				b.fail("Nodes tells %d, it told %d", got, last)
			}
			last = b.index.Nodes()
		}
		grows(false)
		b.insert(s.keys()[0], 1)
		grows(true)
		b.insert(s.keys()[2], 2)
		grows(true)
		b.replace(s.keys()[4], 1)
		grows(!s.keyless())
		b.erase(2)
		grows(true)
		b.back(1)
		grows(true)
		b.index.Contents()
		b.index.Def()
		b.index.Follows(1)
		grows(false)
	}
}

// ways are the steps of that sort, with two rows.
func ways(s sort) []func(b *both) {
	var all []func(b *both)
	keys := s.keys()[:3]
	if s.keyless() {
		keys = keys[:1]
	}
	for id := int64(1); id <= 2; id++ {
		for _, k := range keys {
			all = append(all, func(b *both) { b.insert(k, id) }, func(b *both) { b.replace(k, id) })
		}
		all = append(all, func(b *both) { b.erase(id) })
		if s.keyless() {
			all = append(all, func(b *both) { b.move(id, 3-id) }, func(b *both) { b.moveTo(id, 1) }, func(b *both) { b.move(id, 0) }, func(b *both) { b.moveTo(id, 0) })
		}
	}
	return all
}

// All ways to take three steps, with two rows and keys that are equal in some of the orders, taken back at once and
// step by step.
func TestP17_5AllShortWays(t *testing.T) {
	for _, s := range sorts() {
		all := ways(s)
		for way := range len(all) * len(all) * len(all) {
			b := begin(t, s, 1, 2)
			b.insert(s.keys()[4], 2)
			for range 3 {
				all[way%len(all)](b)
				way /= len(all)
			}
			if way%2 == 0 {
				b.back(2)
			}
			for len(b.states) > 0 {
				b.back(1)
			}
		}
	}
}

func TestP17_5LongWays(t *testing.T) {
	for seed := range int64(44) {
		r := rand.New(rand.NewSource(seed))
		s := sorts()[seed%int64(len(sorts()))]
		ids := []int64{1, 2, 3, 4, 5, 6, 7, 8, 9, 0, -3, 1 << 40}[:2+r.Intn(11)]
		b := begin(t, s, ids...)
		for range 250 {
			k, id, other := s.keys()[r.Intn(len(s.keys()))], ids[r.Intn(len(ids))], ids[r.Intn(len(ids))]
			if s.kind != api.Prefix && r.Intn(2) == 0 {
				k = ints(r.Int63n(40))
			}
			switch r.Intn(9) {
			case 0, 1, 2:
				b.insert(k, id)
			case 3, 4:
				b.replace(k, id)
			case 5:
				b.erase(id)
			case 6:
				b.move(id, other)
			case 7:
				b.moveTo(id, r.Intn(len(ids)))
			default:
				b.back(r.Intn(min(len(b.states), 12) + 1))
			}
		}
		b.back(len(b.states))
	}
}

// What came between, and was kept, doesn't keep a row from going out again, or from coming back.
func TestP17_5WhateverCameBetween(t *testing.T) {
	for _, s := range sorts() {
		for way := range 3 {
			x, l, m := index.New(s.def(), hooks(func(a, b []api.Value) (int, error) { return s.order(a, b), nil })), undo.New(), model{sort: s}
			k, kept := s.keys(), undo.New()
			x.Insert(kept, k[0], 1)
			m.insert(k[0], 1)
			x.Insert(kept, k[4], 9)
			switch way {
			case 0:
				x.Insert(l, k[2], 2)
				x.Erase(kept, 2)
				x.Erase(kept, 1)
				m.erase(1)
			case 1:
				x.Erase(l, 1)
				x.Erase(kept, 9)
			case 2:
				x.Insert(l, k[2], 2)
				x.Erase(kept, 1)
				m.erase(1)
			}
			if x.Erase(kept, 9); !l.Back(0) || !sameContents(x.Contents(), m.contents()) {
				t.Errorf("%v, way %d: Contents tells %v, wanted %v", s, way, x.Contents(), m.contents())
			}
		}
	}
}

// Each that has an order by value finds its place again, whatever was put and taken meanwhile and kept.
func TestP17_5PlaceByValue(t *testing.T) {
	for _, s := range sorts() {
		if s.own || s.keyless() {
			continue
		}
		k := s.keys()
		x, l, kept, m := index.New(s.def(), api.Hooks{}), undo.New(), undo.New(), model{sort: s}
		for id, key := range k[:4] {
			x.Insert(kept, key, int64(id))
			m.insert(key, int64(id))
		}
		x.Erase(l, 1)
		x.Replace(l, k[4], 3)
		x.Erase(kept, 0)
		m.erase(0)
		x.Erase(kept, 2)
		m.erase(2)
		x.Insert(kept, k[0], 7)
		m.insert(k[0], 7)
		if l.Back(0); !sameContents(x.Contents(), m.contents()) {
			t.Errorf("%v: Contents tells %v, wanted %v", s, x.Contents(), m.contents())
		}
	}
}

// One that was put with a key that was free then can't have it back from another one; nothing else is touched.
func TestP17_5KeyIsTaken(t *testing.T) {
	for _, s := range sorts() {
		if !s.unique() || s.own {
			continue
		}
		b := begin(t, s, 1, 2)
		x, l := b.index, undo.New()
		x.Insert(b.log, s.keys()[0], 1)
		x.Erase(l, 1)
		b.insert(s.keys()[0], 2)
		l.Back(0)
		b.look()
	}
}

func TestDef(t *testing.T) {
	for _, s := range sorts() {
		d := s.def()
		d.Name = strings.Clone(name)
		x := index.New(d, hooks(func(a, b []api.Value) (int, error) { return 0, nil }))
		for range 2 {
			got := x.Def()
			if !reflect.DeepEqual(got, s.def()) {
				t.Errorf("%v: Def tells %v", s, got)
			}
			scribble(got.Parts, api.Part{Field: 9, Hook: 9})
		}
		scribble(d.Parts, api.Part{Field: 9, Hook: 9})
		if got := x.Def(); !reflect.DeepEqual(got, s.def()) {
			t.Errorf("%v: Def tells %v when the parts that were handed in are written", s, got)
		}
		if _, err := x.Check(s.keys()[0], 1); err != nil {
			t.Errorf("%v: Check tells %v when the parts that were handed in are written", s, err)
		}
	}
}

// scribble writes into all of l, and into the room behind it.
func scribble[T any](l []T, v T) {
	l = l[:cap(l)]
	for i := range l {
		l[i] = v
	}
}

// spared has k and behind it, in the same memory, room that is written.
func spared(k []api.Value) []api.Value {
	l := append(slices.Clone(k), sample.Int(-9), sample.Int(-9))
	return l[:len(k)]
}

// The lists of user code aren't kept.
func TestHooksAreNotKept(t *testing.T) {
	fails := func([]api.Value) (api.Value, error) { return api.Value{}, errors.New("the wrong one") }
	h := api.Hooks{
		Extract: []api.Extractor{func(vals []api.Value) (api.Value, error) { return vals[0], nil }},
		Compare: []api.Comparator{func(a, b []api.Value) (int, error) { return value.Rows(b, a), nil }},
	}
	x, l := index.New(api.Def{Name: name, Kind: api.Ordered, Parts: []api.Part{{Field: -1}}}, h), undo.New()
	scribble(h.Extract, fails)
	scribble(h.Compare, func(a, b []api.Value) (int, error) { return 0, errors.New("the wrong one") })
	for id := range int64(5) {
		k, err := x.Check(ints(id), id)
		if err != nil || x.Insert(l, k, id) != nil {
			t.Fatalf("Check tells %v", err)
		}
	}
	if first, _ := x.First(); first != 4 {
		t.Errorf("First tells %d", first)
	}
}

func TestWhatIsHandedInStaysAndIsNotKept(t *testing.T) {
	for _, s := range sorts() {
		b := begin(t, s, 1, 2, 3)
		for id := range int64(3) {
			for _, k := range s.keys() {
				handed := spared(k)
				b.step(func() error { return b.index.Insert(b.log, handed, id) }, func() error { return b.means.insert(k, id) }, "Insert(%v, %d)", k, id)
				b.index.Check(handed, id+1)
				b.step(func() error { return b.index.Replace(b.log, handed, id) }, func() error { return b.means.replace(k, id) }, "Replace(%v, %d)", k, id)
				if !sample.RowsAlike(handed[:len(k)+2], append(slices.Clone(k), sample.Int(-9), sample.Int(-9))) {
					t.Errorf("%v: the key that was handed in is %v", s, handed[:len(k)+2])
				}
				scribble(handed, sample.Str("written"))
				b.look()
			}
		}
		for len(b.states) > 0 {
			b.back(1)
		}
	}
}

// The comparator may write into what it is handed, and keep it.
func TestComparatorIsHandedCopies(t *testing.T) {
	for _, s := range own() {
		var kept [][]api.Value
		x := index.New(s.def(), hooks(func(a, b []api.Value) (int, error) {
			n := s.order(a, b)
			scribble(a, sample.Str("written"))
			scribble(b, sample.Str("written"))
			kept = append(kept, a, b)
			return n, nil
		}))
		l, m := undo.New(), model{sort: s}
		for i := range int64(30) {
			k := spared(ints(i * 7 % 23))
			if got, want := x.Insert(l, k, i), m.insert(k, i); !sameError(got, want) {
				t.Fatalf("%v: Insert tells %v, wanted %v", s, got, want)
			}
			x.Check(k, i)
			got, want := x.Replace(l, ints(i*5%23), i/2), m.replace(ints(i*5%23), i/2)
			for _, l := range kept {
				scribble(l, sample.Int(-1))
			}
			if !sameError(got, want) || !sample.RowsAlike(k[:3], ints(i*7%23, -9, -9)) || !sameContents(x.Contents(), m.contents()) {
				t.Fatalf("%v: Replace tells %v, wanted %v; %v, wanted %v", s, got, want, x.Contents(), m.contents())
			}
		}
	}
}

func TestWhatIsToldIsNewMemory(t *testing.T) {
	for _, s := range sorts() {
		b := begin(t, s, 1, 2, 3)
		for id, k := range s.keys()[:3] {
			b.insert(k, int64(id+1))
		}
		kept := b.index.Contents()
		for range 2 {
			c := b.index.Contents()
			for _, e := range c.Entries {
				scribble(e.Key, sample.Str("written"))
			}
			scribble(c.Entries, api.Entry{Id: -1})
			scribble(c.Ids, -1)
			for id := range int64(4) {
				k, _ := b.index.Key(id)
				scribble(k, sample.Str("written"))
				k, _ = b.index.Check(s.keys()[0], id)
				scribble(k, sample.Str("written"))
			}
			b.look()
		}
		if !sameContents(kept, b.means.contents()) {
			t.Errorf("%v: an earlier answer is touched by what is done with a later one", s)
		}
		b.erase(1)
		b.replace(s.keys()[4], 2)
		b.back(5)
	}
}

// What ErrDuplicate and a fault tell is new as well.
func TestErrorsAreNewMemory(t *testing.T) {
	for _, s := range sorts() {
		if !s.unique() {
			continue
		}
		x, l := index.New(s.def(), hooks(func(a, b []api.Value) (int, error) { return s.order(a, b), nil })), undo.New()
		x.Insert(l, ints(5), 1)
		x.Insert(l, ints(6), 2)
		for range 2 {
			_, err := x.Check(ints(5), 2)
			for _, err := range []error{err, x.Insert(l, ints(5), 3), x.Replace(l, ints(5), 2)} {
				told(t, err, 1)
				if twice, is := err.(*api.Twice); is {
					*twice = api.Twice{Where: "written", Id: 9}
				}
			}
		}
	}
	x := index.New(sort{kind: api.Prefix}.def(), api.Hooks{})
	for range 2 {
		_, err := x.Check(ints(5), 1)
		bears(t, err, ending{err: api.ErrValue})
		*err.(*api.Fault) = api.Fault{Where: "written"}
	}
}

// overlap tells whether two lists share any room, spare room included.
func overlap[T any](a, b []T) bool {
	if cap(a) == 0 || cap(b) == 0 {
		return false
	}
	size := unsafe.Sizeof(a[:1][0])
	a1, b1 := uintptr(unsafe.Pointer(unsafe.SliceData(a))), uintptr(unsafe.Pointer(unsafe.SliceData(b)))
	return a1 < b1+uintptr(cap(b))*size && b1 < a1+uintptr(cap(a))*size
}

// apart looks whether no two of the lists share any room.
func apart[T any](t *testing.T, lists [][]T) {
	t.Helper()
	for i, a := range lists {
		for j := range i {
			if overlap(a, lists[j]) {
				t.Errorf("lists %d and %d share room", j, i)
			}
		}
	}
}

func TestNoRoomIsShared(t *testing.T) {
	for _, s := range sorts() {
		x, l := index.New(s.def(), hooks(func(a, b []api.Value) (int, error) { return s.order(a, b), nil })), undo.New()
		handed := spared(s.keys()[0])
		x.Insert(l, handed, 1)
		x.Insert(l, handed, 2)
		x.Insert(l, s.keys()[2], 3)
		rows, entries, ids := [][]api.Value{handed}, [][]api.Entry{}, [][]int64{}
		for range 3 {
			c := x.Contents()
			entries, ids = append(entries, c.Entries), append(ids, c.Ids)
			for _, e := range c.Entries {
				rows = append(rows, e.Key)
			}
			k, _ := x.Key(1)
			checked, _ := x.Check(handed, 1)
			rows = append(rows, k, checked)
		}
		apart(t, rows)
		apart(t, entries)
		apart(t, ids)
		apart(t, [][]api.Part{x.Def().Parts, x.Def().Parts})
	}
}

// A short text that is a piece of a long one doesn't keep all of it.
func TestNoTextIsHeldOnTo(t *testing.T) {
	text := strings.Repeat("long", 1000)
	for _, s := range sorts() {
		d := s.def()
		d.Name = text[:4]
		x, l := index.New(d, hooks(func(a, b []api.Value) (int, error) { return value.Rows(a, b), nil })), undo.New()
		x.Insert(l, str("a"), 1)
		x.Replace(l, str(text[:8]), 1)
		texts := []string{x.Def().Name}
		if k, _ := x.Key(1); len(k) > 0 {
			texts = append(texts, k[0].Str)
		}
		for _, e := range x.Contents().Entries {
			texts = append(texts, e.Key[0].Str)
		}
		for _, got := range texts {
			if !strings.HasPrefix(text, got) || unsafe.StringData(got) == unsafe.StringData(text) {
				t.Errorf("%v: %q is told, a piece of the text that was handed in", s, got)
			}
		}
	}
}

// What was handed in and what is out can go when the log has let go of it.
func TestNothingIsHeldOnTo(t *testing.T) {
	for _, s := range sorts() {
		if s.kind == api.Prefix || s.unique() {
			continue
		}
		x, l := index.New(s.def(), hooks(func(a, b []api.Value) (int, error) { return s.order(a, b), nil })), undo.New()
		var gone []weak.Pointer[api.Value]
		for id := range int64(40) {
			k := ints(id)
			gone = append(gone, weak.Make(&k[0]))
			x.Insert(l, k, id)
			k = ints(-id - 1)
			gone = append(gone, weak.Make(&k[0]))
			x.Replace(l, k, id)
			if k, _ := x.Key(id); len(k) > 0 {
				gone = append(gone, weak.Make(&k[0]))
			}
			if id%2 == 0 {
				x.Erase(l, id)
			}
		}
		l.Keep(0)
		runtime.GC()
		for i, p := range gone {
			if p.Value() != nil {
				t.Errorf("%v: key %d is held on to", s, i)
			}
		}
		runtime.KeepAlive(x)
	}
}

func TestEachIndexIsItsOwn(t *testing.T) {
	for _, s := range sorts() {
		a, b := begin(t, s, 1, 2), begin(t, s, 1, 2)
		a.insert(s.keys()[0], 1)
		b.insert(s.keys()[0], 2)
		a.insert(s.keys()[2], 2)
		b.look()
		a.erase(1)
		b.replace(s.keys()[4], 2)
		a.look()
		a.back(len(a.states))
		b.look()
	}
}

// Two indexes may share a log: each is brought back by what is its own.
func TestP17_5OneLogForAll(t *testing.T) {
	l := undo.New()
	var all []*both
	for _, s := range sorts() {
		b := begin(t, s, 1, 2, 3)
		b.log = l
		all = append(all, b)
	}
	for id := int64(1); id <= 3; id++ {
		for _, b := range all {
			b.insert(b.means.sort.keys()[2*id-2], id)
		}
	}
	for _, b := range all {
		b.replace(b.means.sort.keys()[1], 1)
		b.move(2, 1)
		b.moveTo(2, 0)
		b.erase(3)
	}
	l.Back(0)
	for _, b := range all {
		b.means.entries = nil
		b.look()
	}
}

// What a call tells hangs on what came before alone, not on another run of the same.
func TestTheSameEachTime(t *testing.T) {
	run := func() string {
		text := ""
		for _, s := range sorts() {
			x, l := index.New(s.def(), hooks(func(a, b []api.Value) (int, error) { return s.order(a, b), nil })), undo.New()
			r := rand.New(rand.NewSource(8))
			for range 100 {
				k, id := s.keys()[r.Intn(5)], r.Int63n(6)
				text += fmt.Sprint(x.Insert(l, k, id), x.Replace(l, k, id/2), x.Erase(l, r.Int63n(6)), x.Contents(), x.Nodes(), l.Len())
			}
		}
		return text
	}
	if run() != run() {
		t.Error("the same calls tell otherwise")
	}
}
