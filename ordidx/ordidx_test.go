package ordidx_test

import (
	"cmp"
	"errors"
	"fmt"
	"math"
	"math/rand"
	"runtime"
	"slices"
	"strings"
	"testing"
	"unsafe"
	"weak"

	"rialto/api"
	"rialto/ordidx"
	"rialto/sample"
	"rialto/tree"
	"rialto/value"
)

func key(vals ...api.Value) []api.Value { return vals }

// ints tells the key of those Ints.
func ints(l ...int64) []api.Value {
	var k []api.Value
	for _, n := range l {
		k = append(k, sample.Int(n))
	}
	return k
}

// entry tells the entry with that Id and the key of those Ints.
func entry(id int64, l ...int64) api.Entry { return api.Entry{Key: ints(l...), Id: id} }

// anew tells the same key in other memory.
func anew(k []api.Value) []api.Value {
	k = slices.Clone(k)
	for i := range k {
		k[i].Str = strings.Clone(k[i].Str)
	}
	return k
}

// oddIds are numbers at the edges, none that a row would have among them but two.
func oddIds() []int64 {
	return []int64{math.MinInt64, math.MinInt64 + 1, -1 << 32, -256, -2, -1, 0, 1, 2, 255, 1 << 32, 1<<32 + 1, math.MaxInt64 - 1, math.MaxInt64}
}

// outside are numbers that are no places of n entries; n itself is one where something is inserted alone.
func outside(n int) []int {
	return []int{math.MinInt, math.MinInt + 1, math.MinInt32, -1 << 32, -n - 1, -2, -1, n + 1, n + 2, 2*n + 3, 1<<32 + n/2, math.MaxInt32, math.MaxInt - 1, math.MaxInt}
}

// order is one of keys that doesn't fail.
type order struct {
	name string
	ask  func(a, b []api.Value) int
}

// up is the order of values.
func up() order { return order{"up", value.Rows} }

// down turns it round.
func down() order {
	return order{"down", func(a, b []api.Value) int { return value.Rows(b, a) }}
}

// byLength calls all keys of one length equal.
func byLength() order {
	return order{"by length", func(a, b []api.Value) int { return len(a) - len(b) }}
}

// byLastDigit calls keys equal whose first Ints end alike; greater digits stand ahead.
func byLastDigit() order {
	digit := func(k []api.Value) int64 {
		if len(k) == 0 {
			return -1
		}
		return k[0].Int % 10
	}
	return order{"by last digit", func(a, b []api.Value) int { return int(digit(b) - digit(a)) }}
}

// fromTheBack holds the last values against each other first.
func fromTheBack() order {
	return order{"from the back", func(a, b []api.Value) int {
		a, b = slices.Clone(a), slices.Clone(b)
		slices.Reverse(a)
		slices.Reverse(b)
		return value.Rows(a, b)
	}}
}

// farApart tells the least and the greatest numbers there are.
func farApart() order {
	return order{"far apart", func(a, b []api.Value) int {
		switch value.Rows(a, b) {
		case -1:
			return math.MinInt
		case 1:
			return math.MaxInt
		}
		return 0
	}}
}

// noOrder calls all keys equal.
func noOrder() order {
	return order{"none", func(a, b []api.Value) int { return 0 }}
}

func orders() []order {
	return []order{up(), down(), byLength(), byLastDigit(), fromTheBack(), farApart(), noOrder()}
}

// never is a comparator that tells no error.
func (o order) never() func(a, b []api.Value) (int, error) {
	return func(a, b []api.Value) (int, error) { return o.ask(a, b), nil }
}

// entries holds entries against each other by key, then Id.
func (o order) entries(a, b api.Entry) int {
	return cmp.Or(o.ask(a.Key, b.Key), cmp.Compare(a.Id, b.Id))
}

func sameEntry(a, b api.Entry) bool {
	return a.Id == b.Id && sample.RowsAlike(a.Key, b.Key)
}

// list is what an index means: its entries, in a plain list.
type list struct {
	unique  bool
	order   order
	entries []api.Entry
}

// first tells the place of the first entry of which is tells true.
func (l *list) first(is func(e api.Entry) bool) int {
	if i := slices.IndexFunc(l.entries, is); i >= 0 {
		return i
	}
	return len(l.entries)
}

func (l *list) find(k []api.Value) (int, int) {
	from := l.first(func(e api.Entry) bool { return l.order.ask(e.Key, k) >= 0 })
	to := l.first(func(e api.Entry) bool { return l.order.ask(e.Key, k) > 0 })
	return from, to
}

func (l *list) rank(k []api.Value, id int64) (int, bool) {
	asked := api.Entry{Key: k, Id: id}
	i := l.first(func(e api.Entry) bool { return l.order.entries(e, asked) >= 0 })
	return i, i < len(l.entries) && l.order.entries(l.entries[i], asked) == 0
}

func (l *list) insert(k []api.Value, id int64) (int, error) {
	i, there := l.rank(k, id)
	if there {
		return 0, api.ErrThere
	}
	if from, to := l.find(k); l.unique && from < to {
		return 0, &api.Twice{Id: l.entries[from].Id}
	}
	l.entries = slices.Insert(l.entries, i, api.Entry{Key: anew(k), Id: id})
	return i, nil
}

func (l *list) erase(k []api.Value, id int64) (int, error) {
	i, there := l.rank(k, id)
	if !there {
		return 0, api.ErrNoRow
	}
	l.entries = slices.Delete(l.entries, i, i+1)
	return i, nil
}

// inOrder tells whether the entries stand as compare asks: by place they may be put otherwise.
func (l *list) inOrder() bool { return slices.IsSortedFunc(l.entries, l.order.entries) }

// sameError holds what was told against what was wanted: a number is told as it is, ErrDuplicate with Where and Id.
func sameError(got, want error) bool {
	var a, b *api.Twice
	if !errors.As(want, &b) {
		return got == want
	}
	return errors.As(got, &a) && *a == *b && errors.Is(got, api.ErrDuplicate)
}

// both does each step with an index and with the list beside it, and looks at all that can be told behind it.
type both struct {
	t     *testing.T
	index *ordidx.Index
	means list
	tree  *tree.Tree[int] // to which the same happens, so that its Writes is the index's
	asked int             // how often compare was
	steps []string
	keys  [][]api.Value // at which it looks
	ids   []int64
}

func begin(t *testing.T, unique bool, o order, keys [][]api.Value, ids []int64) *both {
	t.Helper()
	b := &both{t: t, means: list{unique: unique, order: o}, tree: tree.New[int](), keys: keys, ids: ids}
	b.index = ordidx.New(unique, func(x, y []api.Value) (int, error) {
		b.asked++
		return o.ask(x, y), nil
	})
	b.look()
	return b
}

func (b *both) fail(form string, args ...any) {
	b.t.Helper()
	b.t.Fatalf("unique %t, order %s: %v: %s", b.means.unique, b.means.order.name, b.steps[max(0, len(b.steps)-30):], fmt.Sprintf(form, args...))
}

func (b *both) step(form string, args ...any) {
	b.steps = append(b.steps, fmt.Sprintf(form, args...))
}

// unasked looks whether what was done since compare was asked so often has asked it nothing.
func (b *both) unasked(call string, asked int) {
	b.t.Helper()
	if b.asked != asked {
		b.fail("%s asks compare", call)
	}
}

func (b *both) insert(k []api.Value, id int64) {
	b.t.Helper()
	b.step("Insert(%v, %d)", k, id)
	at, want := b.means.insert(k, id)
	if got, err := b.index.Insert(anew(k), id); got != at || !sameError(err, want) {
		b.fail("tells %d, %v, wanted %d, %v", got, err, at, want)
	}
	if want == nil {
		b.tree.InsertAt(at, 0)
	}
	b.look()
}

func (b *both) erase(k []api.Value, id int64) {
	b.t.Helper()
	b.step("Erase(%v, %d)", k, id)
	at, want := b.means.erase(k, id)
	if got, err := b.index.Erase(anew(k), id); got != at || !sameError(err, want) {
		b.fail("tells %d, %v, wanted %d, %v", got, err, at, want)
	}
	if want == nil {
		b.tree.EraseAt(at)
	}
	b.look()
}

func (b *both) insertAt(i int, e api.Entry) {
	b.t.Helper()
	b.step("InsertAt(%d, %v)", i, e)
	asked, want := b.asked, b.tree.InsertAt(i, 0)
	if want == api.OK {
		b.means.entries = slices.Insert(b.means.entries, i, api.Entry{Key: anew(e.Key), Id: e.Id})
	}
	if got := b.index.InsertAt(i, api.Entry{Key: anew(e.Key), Id: e.Id}); got != want {
		b.fail("tells %d, wanted %d", got, want)
	}
	b.unasked("InsertAt", asked)
	b.look()
}

func (b *both) eraseAt(i int) {
	b.t.Helper()
	b.step("EraseAt(%d)", i)
	var out api.Entry
	asked := b.asked
	_, want := b.tree.EraseAt(i)
	if want == api.OK {
		out = b.means.entries[i]
		b.means.entries = slices.Delete(b.means.entries, i, i+1)
	}
	if got, e := b.index.EraseAt(i); e != want || !sameEntry(got, out) {
		b.fail("tells %v, %d, wanted %v, %d", got, e, out, want)
	}
	b.unasked("EraseAt", asked)
	b.look()
}

func (b *both) look() {
	b.t.Helper()
	b.lookByPlace()
	// Where entries were put out of order nothing is promised of the calls that ask compare, but that they end.
	inOrder := b.means.inOrder()
	for _, k := range b.keys {
		from, to, err := b.index.Find(k)
		if i, j := b.means.find(k); err != nil || inOrder && (from != i || to != j) {
			b.fail("Find(%v) tells %d, %d, %v, wanted %d, %d", k, from, to, err, i, j)
		}
		for _, id := range b.ids {
			at, there, err := b.index.Rank(k, id)
			if i, is := b.means.rank(k, id); err != nil || inOrder && (at != i || there != is) {
				b.fail("Rank(%v, %d) tells %d, %t, %v, wanted %d, %t", k, id, at, there, err, i, is)
			}
		}
	}
	if got, want := b.index.Writes(), b.tree.Writes(); got != want {
		b.fail("Writes tells %d, wanted %d", got, want)
	}
}

// lookByPlace looks at what is told without compare.
func (b *both) lookByPlace() {
	b.t.Helper()
	asked, n := b.asked, len(b.means.entries)
	if got := b.index.Len(); got != n {
		b.fail("Len tells %d, wanted %d", got, n)
	}
	if got := b.index.All(); !slices.EqualFunc(got, b.means.entries, sameEntry) {
		b.fail("All tells %v, wanted %v", got, b.means.entries)
	}
	for i, want := range b.means.entries {
		if got, ok := b.index.At(i); !ok || !sameEntry(got, want) {
			b.fail("At(%d) tells %v, %t, wanted %v", i, got, ok, want)
		}
	}
	for _, i := range append(outside(n), n) {
		if got, ok := b.index.At(i); ok || len(got.Key) != 0 || got.Id != 0 {
			b.fail("At(%d) tells %v, %t", i, got, ok)
		}
	}
	for _, id := range b.ids {
		want := slices.IndexFunc(b.means.entries, func(e api.Entry) bool { return e.Id == id })
		if got, ok := b.index.Place(id); got != max(want, 0) || ok != (want >= 0) {
			b.fail("Place(%d) tells %d, %t, wanted %d", id, got, ok, want)
		}
	}
	b.unasked("a call by place", asked)
}

func TestErrors(t *testing.T) {
	if api.ErrDuplicate != 80 || api.ErrThere != 72 || api.ErrNoRow != 71 || api.ErrPlace != 73 {
		t.Error("an error has another number")
	}
}

// several are keys of no, one and more values, some of which call others equal in some orders.
func several() [][]api.Value {
	s, f := sample.Str, sample.Float
	return [][]api.Value{
		nil, ints(5), ints(15), ints(25), ints(6), ints(-6), ints(5, 1), ints(1, 5), ints(5, 5), ints(5, 1, 5), ints(0), ints(math.MinInt64), ints(math.MaxInt64),
		key(s("")), key(s("a")), key(s("a"), s("b")), key(s("ab")), key(sample.Bytes("a")), key(sample.Bool(1)),
		key(f(0)), key(f(sample.MinusNought())), key(f(sample.QuietNaN())), key(f(sample.LastNaN())), key(sample.Int(5), f(math.Inf(-1))),
		key(api.Value{}), key(api.Value{}, api.Value{}), key(s(strings.Repeat("x", 61))), sample.NoValues()[:5], slices.Repeat(ints(5), 9),
	}
}

// The entries (1), (2), (2) of the chapter.
func TestP12_1Example(t *testing.T) {
	b := begin(t, false, up(), [][]api.Value{ints(0), ints(1), ints(2), ints(3)}, []int64{0, 1, 2, 3, 4})
	b.insert(ints(2), 3)
	b.insert(ints(1), 1)
	b.insert(ints(2), 2)
	if from, to, err := b.index.Find(ints(2)); from != 1 || to != 3 || err != nil {
		t.Errorf("Find tells %d, %d, %v", from, to, err)
	}
}

func TestP12_1Empty(t *testing.T) {
	for _, unique := range []bool{false, true} {
		for _, o := range orders() {
			b := begin(t, unique, o, several(), oddIds())
			for _, k := range several() {
				b.erase(k, 1)
			}
			if b.index.Len() != 0 || len(b.index.All()) != 0 || b.index.Writes() != 0 {
				t.Errorf("Len tells %d, All %v, Writes %d", b.index.Len(), b.index.All(), b.index.Writes())
			}
		}
	}
}

// Keys ahead of all, behind all and between: Find's two places are one.
func TestP12_1FindAndRank(t *testing.T) {
	x := ordidx.New(false, up().never())
	for i, want := range []int{0, 1, 1, 1, 4} {
		e := []api.Entry{entry(9, 10), entry(5, 20), entry(3, 20), entry(-4, 20), entry(1, 30)}[i]
		if got, err := x.Insert(e.Key, e.Id); got != want || err != nil {
			t.Fatalf("Insert(%v) tells %d, %v, wanted %d", e, got, err, want)
		}
	}
	for _, c := range []struct {
		key      int64
		from, to int
	}{{5, 0, 0}, {10, 0, 1}, {15, 1, 1}, {20, 1, 4}, {25, 4, 4}, {30, 4, 5}, {35, 5, 5}} {
		if from, to, err := x.Find(ints(c.key)); from != c.from || to != c.to || err != nil {
			t.Errorf("Find of %d tells %d, %d, %v", c.key, from, to, err)
		}
	}
	for _, c := range []struct {
		key, id int64
		at      int
		there   bool
	}{
		{5, 9, 0, false}, {10, 8, 0, false}, {10, 9, 0, true}, {10, 10, 1, false}, {15, math.MaxInt64, 1, false}, {20, math.MinInt64, 1, false}, {20, -4, 1, true},
		{20, 0, 2, false}, {20, 3, 2, true}, {20, 4, 3, false}, {20, 5, 3, true}, {20, 9, 4, false}, {25, 0, 4, false}, {30, 1, 4, true}, {30, 2, 5, false}, {35, 0, 5, false},
	} {
		if at, there, err := x.Rank(ints(c.key), c.id); at != c.at || there != c.there || err != nil {
			t.Errorf("Rank of %d, %d tells %d, %t, %v", c.key, c.id, at, there, err)
		}
	}
}

// The same key with the same number is there; with another number it is another entry.
func TestP12_1NotUnique(t *testing.T) {
	for _, o := range orders() {
		b := begin(t, false, o, several(), []int64{0, 1, 2, 3})
		for _, k := range several() {
			b.insert(k, 2)
			b.insert(k, 2)
			b.insert(k, 1)
			b.insert(k, 3)
			b.insert(k, 1)
		}
		for _, k := range several() {
			b.erase(k, 4)
			b.erase(k, 2)
			b.erase(k, 2)
		}
		for _, k := range several() {
			b.erase(k, 1)
			b.erase(k, 3)
		}
		if b.index.Len() != 0 {
			t.Errorf("order %s: Len tells %d", o.name, b.index.Len())
		}
	}
}

// ErrThere goes ahead of ErrDuplicate; one number may stand with many keys.
func TestP12_1Unique(t *testing.T) {
	for _, o := range orders() {
		b := begin(t, true, o, several(), []int64{0, 1, 2, 3})
		for _, k := range several() {
			b.insert(k, 2)
			b.insert(k, 2)
			b.insert(k, 1)
			b.insert(k, 3)
		}
		for _, k := range several() {
			b.erase(k, 1)
			b.erase(k, 2)
			b.insert(k, 1)
			b.insert(k, 2)
			b.insert(k, 1)
		}
	}
}

// told looks whether err is ErrDuplicate with that Id.
func told(t *testing.T, err error, id int64) {
	t.Helper()
	var twice *api.Twice
	if !errors.As(err, &twice) || twice.Id != id || twice.Where != "" || !errors.Is(err, api.ErrDuplicate) || errors.Is(err, api.ErrThere) {
		t.Errorf("tells %v, wanted ErrDuplicate of %d", err, id)
	}
}

// Keys may be equal that aren't the same: Erase needs no more than an equal one.
func TestP12_1EqualKeys(t *testing.T) {
	x := ordidx.New(true, byLastDigit().never())
	x.Insert(ints(15), 4)
	x.Insert(ints(29), 2)
	at, err := x.Insert(ints(45), 7)
	told(t, err, 4)
	if at != 0 || x.Len() != 2 {
		t.Errorf("tells %d, Len %d", at, x.Len())
	}
	if _, err := x.Insert(ints(45), 4); err != api.ErrThere {
		t.Errorf("Insert tells %v", err)
	}
	if at, there, _ := x.Rank(ints(5), 4); at != 1 || !there {
		t.Errorf("Rank tells %d, %t", at, there)
	}
	if at, err := x.Erase(ints(99), 4); at != 0 || err != api.ErrNoRow {
		t.Errorf("Erase tells %d, %v", at, err)
	}
	if at, err := x.Erase(ints(105), 4); at != 1 || err != nil || x.Len() != 1 {
		t.Errorf("Erase tells %d, %v, Len %d", at, err, x.Len())
	}
}

// By place a unique index may get equal keys: the first of them is told.
func TestP12_1FirstOfEqualKeys(t *testing.T) {
	for n := 1; n < 40; n++ {
		x := ordidx.New(true, up().never())
		x.Insert(ints(1), 1)
		x.Insert(ints(9), 9)
		for i := range n {
			x.InsertAt(1+i, entry(int64(10+2*i), 5))
		}
		for id := int64(9); id < int64(10+2*n); id++ {
			_, err := x.Insert(ints(5), id)
			if id >= 10 && id%2 == 0 {
				if err != api.ErrThere {
					t.Errorf("Insert of %d tells %v", id, err)
				}
				continue
			}
			told(t, err, 10)
		}
		if x.Len() != n+2 {
			t.Errorf("Len tells %d", x.Len())
		}
	}
}

// A nil key and an empty one are the same.
func TestP12_1KeyOfNoValue(t *testing.T) {
	x := ordidx.New(true, up().never())
	x.Insert(nil, 1)
	_, there := x.Insert(key(), 1)
	_, twice := x.Insert(ints(1)[:0], 2)
	told(t, twice, 1)
	from, to, _ := x.Find(key())
	if there != api.ErrThere || from != 0 || to != 1 || len(x.All()) != 1 || len(x.All()[0].Key) != 0 {
		t.Errorf("Insert tells %v, Find %d, %d, All %v", there, from, to, x.All())
	}
	if _, err := x.Erase(key(), 1); err != nil || x.Len() != 0 {
		t.Errorf("Erase tells %v", err)
	}
}

// Numbers are any: those of 0 and below stand ahead, as numbers do.
func TestP12_1OddIds(t *testing.T) {
	for seed := range int64(10) {
		r := rand.New(rand.NewSource(seed))
		b := begin(t, false, noOrder(), [][]api.Value{nil, ints(5)}, oddIds())
		for _, i := range r.Perm(len(oddIds())) {
			b.insert(ints(int64(i)), oddIds()[i])
		}
		for _, i := range r.Perm(len(oddIds())) {
			b.erase(nil, oddIds()[i])
		}
	}
}

// Values of all kinds, and what is none, stand by the order that compare tells of them.
func TestP12_1AllKinds(t *testing.T) {
	l := append(sample.Rising(), sample.NoValues()...)
	slices.SortFunc(l, value.Compare)
	l = slices.CompactFunc(l, sample.Alike)
	for _, o := range []order{up(), down()} {
		for _, unique := range []bool{false, true} {
			x := ordidx.New(unique, o.never())
			for _, i := range rand.New(rand.NewSource(3)).Perm(len(l)) {
				if _, err := x.Insert(key(l[i]), int64(i)); err != nil {
					t.Fatalf("Insert(%v) tells %v", l[i], err)
				}
			}
			for i, e := range x.All() {
				at := i
				if o.name == "down" {
					at = len(l) - 1 - i
				}
				if !sameEntry(e, api.Entry{Key: key(l[at]), Id: int64(at)}) {
					t.Fatalf("entry %d is %v, wanted %v", i, e, l[at])
				}
				if from, to, err := x.Find(key(l[at])); from != i || to != i+1 || err != nil {
					t.Fatalf("Find(%v) tells %d, %d, %v, wanted %d", l[at], from, to, err, i)
				}
			}
		}
	}
}

func TestP12_1Many(t *testing.T) {
	const n = 3000
	for _, unique := range []bool{false, true} {
		for _, o := range []order{up(), down(), fromTheBack()} {
			x := ordidx.New(unique, o.never())
			var means []api.Entry
			for _, i := range rand.New(rand.NewSource(2)).Perm(n) {
				e := entry(int64(-i), int64(i%60), int64(i/60))
				means = append(means, e)
				if _, err := x.Insert(e.Key, e.Id); err != nil {
					t.Fatalf("Insert(%v) tells %v", e, err)
				}
			}
			slices.SortFunc(means, o.entries)
			if !slices.EqualFunc(x.All(), means, sameEntry) || x.Len() != n {
				t.Fatalf("order %s: All tells other entries", o.name)
			}
			for i, e := range means {
				at, there, _ := x.Rank(e.Key, e.Id)
				from, to, _ := x.Find(e.Key)
				if at != i || !there || from != i || to != i+1 {
					t.Fatalf("Rank(%v) tells %d, %t, Find %d, %d", e, at, there, from, to)
				}
			}
			for i, e := range means {
				if at, err := x.Erase(e.Key, e.Id); at != 0 || err != nil || x.Len() != n-i-1 {
					t.Fatalf("Erase(%v) tells %d, %v, Len %d", e, at, err, x.Len())
				}
			}
		}
	}
}

// Many entries have one key: their numbers alone tell their places.
func TestP12_1ManyWithOneKey(t *testing.T) {
	const n = 1000
	x := ordidx.New(false, up().never())
	x.Insert(ints(4), 0)
	x.Insert(ints(6), 0)
	for _, i := range rand.New(rand.NewSource(4)).Perm(n) {
		x.Insert(ints(5), int64(2*i))
	}
	for i := range n {
		at, there, _ := x.Rank(ints(5), int64(2*i))
		next, not, _ := x.Rank(ints(5), int64(2*i+1))
		if at != i+1 || !there || next != i+2 || not {
			t.Fatalf("Rank of %d tells %d, %t, of the next number %d, %t", 2*i, at, there, next, not)
		}
	}
	if from, to, _ := x.Find(ints(5)); from != 1 || to != n+1 {
		t.Errorf("Find tells %d, %d", from, to)
	}
}

// stubborn is an error that can't be asked anything, nor be held against another one.
type stubborn struct{ l []int }

func (stubborn) Error() string   { panic("Error was asked") }
func (stubborn) Is(error) bool   { panic("Is was asked") }
func (stubborn) As(any) bool     { panic("As was asked") }
func (stubborn) Unwrap() []error { panic("Unwrap was asked") }

// mistakes are errors that a comparator may tell, such as look like the index's own among them.
func mistakes() []error {
	own := errors.New("own")
	return []error{
		own, fmt.Errorf("wrapped: %w", own), errors.Join(own, api.ErrDuplicate), &stubborn{},
		api.OK, api.ErrNoRow, api.ErrThere, api.ErrDuplicate, api.ErrPlace, api.ErrKey, api.ErrCallback, api.Errno(-1),
		&api.Twice{Where: "i", Id: 5}, &api.Fault{Where: "i", Err: own}, &api.Fault{Where: "i", Panic: 5}, &api.Fault{}, (*api.Fault)(nil), (*api.Twice)(nil),
	}
}

// faulty tells what an order tells, up to the call with that number (from 0 on); there and behind it, it fails.
type faulty struct {
	order order
	at    int // -1: it never does
	fail  func(call int) error
	calls int
}

func (f *faulty) compare(a, b []api.Value) (int, error) {
	f.calls++
	if f.at >= 0 && f.calls > f.at {
		return 7, f.fail(f.calls - 1)
	}
	return f.order.ask(a, b), nil
}

// from has it fail from its call at on, counted anew.
func (f *faulty) from(at int) { f.at, f.calls = at, 0 }

// call is one that asks compare: it tells what it was told, as a text, and the error. Beside an error the text is zeros.
type call struct {
	name, zeros string
	do          func(x *ordidx.Index, k []api.Value, id int64) (string, error)
}

func calls() []call {
	return []call{
		{"Find", "0 0", func(x *ordidx.Index, k []api.Value, id int64) (string, error) {
			from, to, err := x.Find(k)
			return fmt.Sprint(from, to), err
		}},
		{"Rank", "0 false", func(x *ordidx.Index, k []api.Value, id int64) (string, error) {
			at, there, err := x.Rank(k, id)
			return fmt.Sprint(at, there), err
		}},
		{"Insert", "0", func(x *ordidx.Index, k []api.Value, id int64) (string, error) {
			at, err := x.Insert(k, id)
			return fmt.Sprint(at), err
		}},
		{"Erase", "0", func(x *ordidx.Index, k []api.Value, id int64) (string, error) {
			at, err := x.Erase(k, id)
			return fmt.Sprint(at), err
		}},
	}
}

// filled tells an index with n entries, of which two and two have an equal key if it isn't unique.
func filled(t *testing.T, unique bool, n int, compare func(a, b []api.Value) (int, error)) *ordidx.Index {
	t.Helper()
	x := ordidx.New(unique, compare)
	for i := range n {
		k := ints(int64(2 * i))
		if !unique {
			k = ints(int64(i / 2 * 4))
		}
		if _, err := x.Insert(k, int64(i)); err != nil {
			t.Fatalf("Insert tells %v", err)
		}
	}
	return x
}

// failing makes a call of an index whose compare fails from its call at on, and tells what came of it and whether
// compare was asked so often at all. Nothing may be changed where it failed.
func failing(t *testing.T, unique bool, n int, c call, k []api.Value, id int64, f *faulty, at int) (string, error, bool) {
	t.Helper()
	f.from(-1)
	x := filled(t, unique, n, f.compare)
	all, writes := x.All(), x.Writes()
	f.from(at)
	got, err := c.do(x, k, id)
	if f.calls <= at {
		return got, err, false
	}
	if f.calls != at+1 {
		t.Errorf("%s: compare was asked %d times, it failed at %d", c.name, f.calls, at)
	}
	if !slices.EqualFunc(x.All(), all, sameEntry) || x.Len() != n || x.Writes() != writes {
		t.Errorf("%s of %v, %d, with a fault at %d: changed to %v, it was %v", c.name, k, id, at, x.All(), all)
	}
	return got, err, true
}

// Whichever call of compare fails, its error is told as it is.
func TestP12_1CompareErrs(t *testing.T) {
	for _, c := range calls() {
		for _, unique := range []bool{false, true} {
			for n := range 20 {
				for k := int64(-1); k < int64(2*n+2); k++ {
					for at := 0; ; at++ {
						mistake := mistakes()[(at+n+int(k)+1)%len(mistakes())]
						f := &faulty{order: up(), fail: func(int) error { return mistake }}
						got, err, failed := failing(t, unique, n, c, ints(k), k/2, f, at)
						if !failed {
							if (at == 0) != (n == 0) {
								t.Fatalf("%s: compare was asked nothing of %d entries", c.name, n)
							}
							break
						}
						if err != mistake || got != c.zeros {
							t.Fatalf("%s(%d): %d entries, fault at %d: tells %s, %T", c.name, k, n, at, got, err)
						}
					}
				}
			}
		}
	}
}

func TestP12_1EachErrorOfCompareIsToldAsItIs(t *testing.T) {
	for _, c := range calls() {
		for _, mistake := range mistakes() {
			for at := range 6 {
				f := &faulty{order: up(), fail: func(int) error { return mistake }}
				got, err, failed := failing(t, true, 20, c, ints(10), 5, f, at)
				if !failed || err != mistake || got != c.zeros {
					t.Errorf("%s: fault at %d: tells %s, %T, wanted %T", c.name, at, got, err, mistake)
				}
			}
		}
		f := &faulty{order: up(), fail: func(int) error { return stubborn{[]int{5}} }}
		_, err, _ := failing(t, false, 20, c, ints(10), 5, f, 2)
		if got, is := err.(stubborn); !is || !slices.Equal(got.l, []int{5}) {
			t.Errorf("%s: tells %T", c.name, err)
		}
	}
}

// The error of the first call that fails is told, not that of a later one.
func TestP12_1FirstErrorOfCompare(t *testing.T) {
	for _, c := range calls() {
		for at := range 8 {
			f := &faulty{order: down(), fail: func(n int) error { return api.Errno(1000 + n) }}
			_, err, failed := failing(t, true, 15, c, ints(3), 1, f, at)
			if failed && err != api.Errno(1000+at) {
				t.Errorf("%s: fault at %d: tells %v", c.name, at, err)
			}
		}
	}
}

// A comparator fails at one key alone: where it is asked of that, its error is told.
func TestP12_1CompareErrsAtOneKey(t *testing.T) {
	mistake := errors.New("thirteen")
	x := ordidx.New(false, func(a, b []api.Value) (int, error) {
		if a[0].Int == 13 || b[0].Int == 13 {
			return 0, mistake
		}
		return value.Rows(a, b), nil
	})
	if at, err := x.Insert(ints(13), 1); at != 0 || err != nil {
		t.Fatalf("Insert into an empty index tells %d, %v", at, err)
	}
	for _, c := range calls() {
		if got, err := c.do(x, ints(5), 1); err != mistake || got != c.zeros {
			t.Errorf("%s tells %s, %v", c.name, got, err)
		}
	}
	if e, errno := x.EraseAt(0); errno != api.OK || !sameEntry(e, entry(1, 13)) {
		t.Fatalf("EraseAt tells %v, %d", e, errno)
	}
	x.Insert(ints(5), 1)
	for _, c := range calls() {
		if got, err := c.do(x, ints(13), 1); err != mistake || got != c.zeros {
			t.Errorf("%s tells %s, %v", c.name, got, err)
		}
	}
	if at, there, err := x.Rank(ints(5), 1); at != 0 || !there || err != nil || x.Len() != 1 {
		t.Errorf("Rank tells %d, %t, %v", at, there, err)
	}
}

// An index whose compare failed goes on as one whose compare didn't.
func TestP12_1GoesOnBehindAnError(t *testing.T) {
	for seed := range int64(20) {
		r := rand.New(rand.NewSource(seed))
		f := &faulty{order: byLastDigit(), fail: func(int) error { return api.ErrThere }}
		means := list{unique: seed%2 == 0, order: byLastDigit()}
		x := ordidx.New(means.unique, f.compare)
		for range 200 {
			k, id := ints(r.Int63n(30)), r.Int63n(4)
			for _, c := range calls() {
				// An empty index asks compare nothing.
				if f.from(0); x.Len() == 0 {
					break
				}
				if got, err := c.do(x, k, id); err != api.ErrThere || got != c.zeros {
					t.Fatalf("%s tells %s, %v", c.name, got, err)
				}
			}
			f.from(-1)
			do, model := x.Insert, means.insert
			if r.Intn(3) == 0 {
				do, model = x.Erase, means.erase
			}
			at, err := do(k, id)
			if want, wanted := model(k, id); at != want || !sameError(err, wanted) {
				t.Fatalf("tells %d, %v, wanted %d, %v", at, err, want, wanted)
			}
			if !slices.EqualFunc(x.All(), means.entries, sameEntry) {
				t.Fatalf("All tells %v, wanted %v", x.All(), means.entries)
			}
		}
	}
}

// What compare panics with comes out of no call: it is told as a fault, and nothing is changed.
func TestP12_1ComparePanics(t *testing.T) {
	own := errors.New("own")
	for _, c := range calls() {
		for _, thrown := range []any{5, "text", own, api.ErrThere, &api.Twice{Id: 5}, &api.Fault{Where: "i", Err: own}} {
			for at := range 6 {
				f := &faulty{order: up(), fail: func(int) error { panic(thrown) }}
				got, err, failed := failing(t, true, 20, c, ints(10), 5, f, at)
				fault, is := err.(*api.Fault)
				if !failed || !is || got != c.zeros || fault.Where != "" || fault.Err != nil || fault.Panic != thrown || !errors.Is(err, api.ErrCallback) {
					t.Errorf("%s: panic at %d with %v: tells %s, %v", c.name, at, thrown, got, err)
				}
			}
		}
		f := &faulty{order: up(), fail: func(int) error { panic(nil) }}
		if _, err, _ := failing(t, false, 20, c, ints(10), 5, f, 1); !errors.Is(err, api.ErrCallback) {
			t.Errorf("%s: panic with nil: tells %v", c.name, err)
		}
		var none []int
		f.fail = func(n int) error { return api.Errno(none[n]) }
		var is runtime.Error
		if _, err, _ := failing(t, false, 20, c, ints(10), 5, f, 1); !errors.As(err, &is) {
			t.Errorf("%s: a place that isn't there: tells %v", c.name, err)
		}
	}
}

// Compare may write into what it is handed, and keep it.
func TestP12_1CompareIsHandedCopies(t *testing.T) {
	var kept [][]api.Value
	for _, unique := range []bool{false, true} {
		x := ordidx.New(unique, func(a, b []api.Value) (int, error) {
			n := value.Rows(a, b)
			scribble(a, sample.Str("written"))
			scribble(b, sample.Str("written"))
			kept = append(kept, a, b)
			return n, nil
		})
		means := list{unique: unique, order: up()}
		for i := range int64(40) {
			k := spared(ints(i*7%20, i))
			at, err := x.Insert(k, i)
			if want, wanted := means.insert(ints(i*7%20, i), i); at != want || err != wanted {
				t.Fatalf("Insert tells %d, %v, wanted %d, %v", at, err, want, wanted)
			}
			x.Find(k)
			x.Rank(k, i)
			x.Erase(k, -1)
			if !sample.RowsAlike(k[:4], ints(i*7%20, i, -9, -9)) {
				t.Fatalf("the key that was handed in is %v", k[:4])
			}
			for _, l := range kept {
				scribble(l, sample.Int(-1))
			}
			if !slices.EqualFunc(x.All(), means.entries, sameEntry) {
				t.Fatalf("All tells %v, wanted %v", x.All(), means.entries)
			}
		}
	}
}

func TestP12_2ByPlace(t *testing.T) {
	x := ordidx.New(true, up().never())
	got := []api.Errno{x.InsertAt(1, entry(1, 5)), x.InsertAt(-1, entry(1, 5)), x.InsertAt(0, entry(1, 5)), x.InsertAt(0, entry(2, 9)), x.InsertAt(2, entry(1, 5)), x.InsertAt(4, entry(3, 1))}
	if want := []api.Errno{api.ErrPlace, api.ErrPlace, api.OK, api.OK, api.OK, api.ErrPlace}; !slices.Equal(got, want) {
		t.Errorf("InsertAt tells %v, wanted %v", got, want)
	}
	if want := []api.Entry{entry(2, 9), entry(1, 5), entry(1, 5)}; !slices.EqualFunc(x.All(), want, sameEntry) {
		t.Errorf("All tells %v", x.All())
	}
	for _, i := range []int{-1, 3, 4, math.MinInt, math.MaxInt} {
		if e, errno := x.EraseAt(i); errno != api.ErrPlace || len(e.Key) != 0 || e.Id != 0 {
			t.Errorf("EraseAt(%d) tells %v, %d", i, e, errno)
		}
		if e, ok := x.At(i); ok || len(e.Key) != 0 || e.Id != 0 {
			t.Errorf("At(%d) tells %v, %t", i, e, ok)
		}
	}
	if e, errno := x.EraseAt(0); errno != api.OK || !sameEntry(e, entry(2, 9)) || x.Len() != 2 {
		t.Errorf("EraseAt tells %v, %d", e, errno)
	}
}

// At each size, each place and those around them.
func TestP12_2EachPlace(t *testing.T) {
	for n := range 30 {
		for i := range n + 1 {
			b := begin(t, i%2 == 0, down(), nil, []int64{0, 1, 2, 3})
			for k := range n {
				b.insertAt(k, entry(int64(k%4), int64(-k)))
			}
			b.insertAt(i, entry(2, 7, 7))
			b.eraseAt(i)
			b.eraseAt(i)
			b.insertAt(i, entry(3))
		}
	}
	for n := range 12 {
		b := begin(t, false, up(), nil, []int64{0, 1, 2})
		for k := range n {
			b.insertAt(0, entry(int64(k%2), 5))
		}
		for _, i := range outside(n) {
			b.insertAt(i, entry(1, 5))
			b.eraseAt(i)
		}
		b.eraseAt(n)
	}
}

// Place tells the first of several with one Id, wherever that is; no number is left out.
func TestP12_2Place(t *testing.T) {
	b := begin(t, false, up(), several(), append(oddIds(), 7))
	for i, id := range append(oddIds(), oddIds()...) {
		b.insert(ints(int64(i*11%28)), id)
		b.insert(ints(int64(i*13%28)), id)
	}
	for b.index.Len() > 0 {
		b.eraseAt(b.index.Len() / 3)
	}
	x := ordidx.New(false, up().never())
	x.Insert(ints(9), 4)
	x.Insert(ints(2), 6)
	x.Insert(ints(5), 4)
	if at, ok := x.Place(4); at != 1 || !ok {
		t.Errorf("Place tells %d, %t", at, ok)
	}
	if at, ok := x.Place(0); at != 0 || ok {
		t.Errorf("Place of none tells %d, %t", at, ok)
	}
}

// No call by place asks compare, nor may it fail with it.
func TestP12_2WithoutCompare(t *testing.T) {
	x := ordidx.New(true, func(a, b []api.Value) (int, error) { panic("compare was asked") })
	for i := range 50 {
		if e := x.InsertAt(i/2, entry(int64(i), int64(i))); e != api.OK {
			t.Fatalf("InsertAt tells %d", e)
		}
	}
	for i, e := range x.All() {
		at, ok := x.At(i)
		place, is := x.Place(e.Id)
		if !ok || !sameEntry(at, e) || place != i || !is {
			t.Fatalf("At(%d) tells %v, Place %d", i, at, place)
		}
	}
	for n := 50; n > 0; n-- {
		if _, e := x.EraseAt(n / 2 % n); e != api.OK || x.Len() != n-1 {
			t.Fatalf("EraseAt tells %d", e)
		}
	}
}

// Writes grows by what a change of a tree may write, and by nothing beside an error or where nothing is changed.
func TestP12_2Writes(t *testing.T) {
	x := ordidx.New(false, up().never())
	tree := tree.New[int]()
	r := rand.New(rand.NewSource(5))
	for i := range int64(500) {
		at, err := x.Insert(ints(r.Int63n(100)), i)
		if tree.InsertAt(at, 0); err != nil || x.Writes() != tree.Writes() {
			t.Fatalf("Writes tells %d, wanted %d", x.Writes(), tree.Writes())
		}
	}
	writes := x.Writes()
	x.Find(ints(5))
	x.Rank(ints(5), 5)
	x.Place(5)
	x.At(5)
	x.All()
	e, _ := x.At(7)
	x.Insert(e.Key, e.Id)
	x.Erase(e.Key, -1)
	x.InsertAt(-1, e)
	x.EraseAt(500)
	if x.Writes() != writes {
		t.Errorf("Writes grew to %d from %d", x.Writes(), writes)
	}
	for x.Len() > 0 {
		e, _ := x.At(r.Intn(x.Len()))
		at, err := x.Erase(e.Key, e.Id)
		if tree.EraseAt(at); err != nil || x.Writes() != tree.Writes() {
			t.Fatalf("Writes tells %d, wanted %d", x.Writes(), tree.Writes())
		}
	}
}

// What was erased by its key comes back by its place, and the other way round.
func TestP12_2TakenBack(t *testing.T) {
	for _, o := range orders() {
		r := rand.New(rand.NewSource(6))
		b := begin(t, false, o, several(), []int64{0, 1, 2, 3})
		for range 60 {
			b.insert(several()[r.Intn(len(several()))], r.Int63n(4))
		}
		was := b.index.All()
		for range 30 {
			e := was[r.Intn(len(was))]
			at, _, _ := b.index.Rank(e.Key, e.Id)
			b.erase(e.Key, e.Id)
			b.insertAt(at, e)
			k, id := several()[r.Intn(len(several()))], r.Int63n(9)
			at, there, _ := b.index.Rank(k, id)
			if b.insert(k, id); !there {
				b.eraseAt(at)
			}
		}
		if !slices.EqualFunc(b.index.All(), was, sameEntry) {
			t.Errorf("order %s: All tells %v, it was %v", o.name, b.index.All(), was)
		}
	}
}

// The rank of each entry is its place, and Find's are around just those with an equal key.
func TestP12_3RanksArePlaces(t *testing.T) {
	for _, o := range orders() {
		for _, unique := range []bool{false, true} {
			r := rand.New(rand.NewSource(7))
			x := ordidx.New(unique, o.never())
			for range 150 {
				x.Insert(several()[r.Intn(len(several()))], r.Int63n(20))
				x.Erase(several()[r.Intn(len(several()))], r.Int63n(20))
			}
			all := x.All()
			for i, e := range all {
				at, there, err := x.Rank(e.Key, e.Id)
				told, ok := x.At(at)
				if at != i || !there || err != nil || !ok || !sameEntry(told, e) {
					t.Fatalf("Rank(%v) tells %d, %t, %v, wanted %d", e, at, there, err, i)
				}
				if i > 0 && o.entries(all[i-1], e) >= 0 {
					t.Fatalf("entry %v stands ahead of %v", all[i-1], e)
				}
			}
			for _, k := range several() {
				from, to, err := x.Find(k)
				if err != nil || from > to || unique && to > from+1 {
					t.Fatalf("Find(%v) tells %d, %d, %v", k, from, to, err)
				}
				for i, e := range all {
					if equal := o.ask(e.Key, k) == 0; equal != (from <= i && i < to) {
						t.Fatalf("Find(%v) tells %d, %d, the entry %d is %v", k, from, to, i, e)
					}
				}
			}
		}
	}
}

// All ways to take three steps, with three keys, two of which are equal in one of the orders, and two numbers.
func TestAllShortWays(t *testing.T) {
	k := [][]api.Value{ints(5), ints(15), ints(6)}
	ids := []int64{0, 1}
	var all []func(b *both)
	for _, k := range k {
		for _, id := range ids {
			all = append(all, func(b *both) { b.insert(k, id) }, func(b *both) { b.erase(k, id) })
		}
	}
	for i := -1; i < 3; i++ {
		all = append(all, func(b *both) { b.insertAt(i, entry(1, 15)) }, func(b *both) { b.eraseAt(i) })
	}
	for _, o := range []order{down(), byLastDigit()} {
		for _, unique := range []bool{false, true} {
			for way := range len(all) * len(all) * len(all) {
				b := begin(t, unique, o, k, ids)
				for range 3 {
					if !b.means.inOrder() {
						break
					}
					all[way%len(all)](b)
					way /= len(all)
				}
			}
		}
	}
}

func TestLongWays(t *testing.T) {
	for seed := range int64(42) {
		r := rand.New(rand.NewSource(seed))
		var k [][]api.Value
		for range 1 + r.Intn(12) {
			k = append(k, several()[r.Intn(len(several()))])
		}
		ids := oddIds()[:1+r.Intn(len(oddIds()))]
		erases := 1 + r.Intn(3)
		b := begin(t, seed%2 == 0, orders()[seed%int64(len(orders()))], k, ids)
		for range 150 {
			k, id := k[r.Intn(len(k))], ids[r.Intn(len(ids))]
			n := len(b.means.entries)
			if n > 0 && r.Intn(3) == 0 {
				e := b.means.entries[r.Intn(n)]
				k, id = anew(e.Key), e.Id
			}
			at, _ := b.means.rank(k, id)
			switch {
			case r.Intn(20) == 0:
				b.insertAt(at, api.Entry{Key: k, Id: id})
			case r.Intn(20) == 0:
				b.eraseAt(r.Intn(n + 1))
			case r.Intn(4) < erases:
				b.erase(k, id)
			default:
				b.insert(k, id)
			}
		}
	}
}

// Entries may be put anywhere by place; those that are out of order end no call with a panic, nor without end.
func TestOutOfOrder(t *testing.T) {
	for seed := range int64(14) {
		r := rand.New(rand.NewSource(seed))
		b := begin(t, seed%2 == 0, orders()[seed%int64(len(orders()))], several(), []int64{1})
		for range 50 {
			b.insertAt(r.Intn(len(b.means.entries)+1), api.Entry{Key: several()[r.Intn(len(several()))], Id: r.Int63n(3)})
			if r.Intn(3) == 0 {
				b.eraseAt(r.Intn(len(b.means.entries)))
			}
		}
		n := b.index.Len()
		for _, k := range several() {
			from, to, err := b.index.Find(k)
			at, _, rank := b.index.Rank(k, 1)
			if from < 0 || from > to || to > n || err != nil || at < 0 || at > n || rank != nil {
				b.fail("Find tells %d, %d, %v, Rank %d, %v", from, to, err, at, rank)
			}
		}
		for _, k := range several() {
			b.index.Insert(k, 1)
			b.index.Erase(k, 2)
		}
	}
}

func TestEachIndexIsItsOwn(t *testing.T) {
	k := [][]api.Value{nil, ints(5), ints(5, 5)}
	a, b := begin(t, false, up(), k, []int64{1, 2}), begin(t, true, down(), k, []int64{1, 2})
	for _, k := range k {
		a.insert(k, 1)
		b.insert(k, 2)
		a.insert(k, 2)
		b.look()
		a.look()
	}
	a.erase(nil, 2)
	b.look()
	b.eraseAt(1)
	a.look()
	begin(t, true, up(), k, []int64{1, 2})
}

// spared has k and behind it, in the same memory, room that is written.
func spared(k []api.Value) []api.Value {
	l := append(slices.Clone(k), sample.Int(-9), sample.Int(-9))
	return l[:len(k)]
}

// scribble writes into all of l, and into the room behind it.
func scribble[T any](l []T, v T) {
	l = l[:cap(l)]
	for i := range l {
		l[i] = v
	}
}

func TestWhatIsHandedInStays(t *testing.T) {
	for name, call := range map[string]func(x *ordidx.Index, k []api.Value){
		"Find":   func(x *ordidx.Index, k []api.Value) { x.Find(k) },
		"Rank":   func(x *ordidx.Index, k []api.Value) { x.Rank(k, 1) },
		"Insert": func(x *ordidx.Index, k []api.Value) { x.Insert(k, 1); x.Insert(k, 1); x.Insert(k, 2) },
		"Erase":  func(x *ordidx.Index, k []api.Value) { x.Insert(k, 1); x.Erase(k, 2); x.Erase(k, 1) },
		"InsertAt": func(x *ordidx.Index, k []api.Value) {
			x.InsertAt(0, api.Entry{Key: k})
			x.InsertAt(9, api.Entry{Key: k})
		},
	} {
		for _, unique := range []bool{false, true} {
			for _, k := range several() {
				x := ordidx.New(unique, up().never())
				x.Insert(ints(5), 7)
				handed := spared(k)
				call(x, handed)
				for _, e := range x.All() {
					scribble(e.Key, sample.Int(-1))
				}
				x.Erase(anew(k), 1)
				if e, errno := x.EraseAt(0); errno == api.OK {
					scribble(e.Key, sample.Int(-1))
				}
				if !sample.RowsAlike(handed[:len(k)+2], append(slices.Clone(k), sample.Int(-9), sample.Int(-9))) {
					t.Errorf("%s: the key that was handed in is %v, it was %v", name, handed[:len(k)+2], k)
				}
			}
		}
	}
}

func TestWhatIsHandedInIsNotKept(t *testing.T) {
	for _, unique := range []bool{false, true} {
		for _, k := range several() {
			written := slices.Repeat(key(sample.Str("written")), len(k))
			b := begin(t, unique, up(), [][]api.Value{k, written}, []int64{1, 2})
			for _, id := range []int64{2, 1, 1} {
				handed := spared(k)
				at, err := b.index.Insert(handed, id)
				if err == nil {
					b.tree.InsertAt(at, 0)
				}
				b.means.insert(k, id)
				scribble(handed, sample.Str("written"))
				b.look()
			}
			handed := spared(k)
			b.index.InsertAt(0, api.Entry{Key: handed, Id: -1})
			b.tree.InsertAt(0, 0)
			b.means.entries = slices.Insert(b.means.entries, 0, api.Entry{Key: anew(k), Id: -1})
			scribble(handed, sample.Str("written"))
			b.look()
			handed = spared(k)
			b.index.Find(handed)
			b.index.Rank(handed, 3)
			b.index.Erase(handed, 3)
			scribble(handed, sample.Str("written"))
			b.look()
		}
	}
}

func TestWhatIsToldIsNewMemory(t *testing.T) {
	b := begin(t, false, up(), several(), []int64{-9, 1, 2})
	for _, k := range several() {
		b.insert(k, 2)
		b.insert(k, 1)
	}
	kept := b.index.All()
	one, _ := b.index.At(5)
	for i := range b.index.Len() {
		e, _ := b.index.At(i)
		scribble(e.Key, sample.Str("written"))
	}
	b.look()
	all := b.index.All()
	for _, e := range all {
		scribble(e.Key, sample.Str("written"))
	}
	scribble(all, entry(-9, -9))
	b.look()
	if !slices.EqualFunc(kept, b.means.entries, sameEntry) || !sameEntry(one, b.means.entries[5]) {
		t.Error("an earlier answer is touched by what is done with a later one")
	}
	for range 10 {
		e, _ := b.index.EraseAt(3)
		b.tree.EraseAt(3)
		b.means.entries = slices.Delete(b.means.entries, 3, 4)
		scribble(e.Key, sample.Str("written"))
		b.look()
	}
	if !sameEntry(one, kept[5]) {
		t.Error("an earlier answer is touched by what is done with what was erased")
	}
}

// What ErrDuplicate tells is new as well.
func TestErrorsAreNewMemory(t *testing.T) {
	x := ordidx.New(true, up().never())
	x.Insert(ints(5), 1)
	for range 3 {
		_, err := x.Insert(ints(5), 2)
		told(t, err, 1)
		var twice *api.Twice
		if errors.As(err, &twice) {
			*twice = api.Twice{Where: "written", Id: 9}
		}
	}
	if !slices.EqualFunc(x.All(), []api.Entry{entry(1, 5)}, sameEntry) {
		t.Errorf("All tells %v", x.All())
	}
}

// What was told stays as it was, whatever comes of the entries.
func TestWhatWasToldStays(t *testing.T) {
	b := begin(t, false, up(), [][]api.Value{nil, ints(5)}, []int64{1, 2, 3, 4})
	for _, id := range []int64{4, 2, 3} {
		b.insert(ints(5), id)
		b.insert(nil, id)
	}
	all := b.index.All()
	one, _ := b.index.At(4)
	want := slices.Clone(b.means.entries)
	b.erase(ints(5), 2)
	b.insert(ints(5), 1)
	b.eraseAt(4)
	b.insertAt(0, entry(4))
	b.insert(ints(4), 4)
	if !slices.EqualFunc(all, want, sameEntry) || !sameEntry(one, want[4]) {
		t.Errorf("what was told is %v and %v", all, one)
	}
}

// What was told may be handed in again.
func TestWhatWasToldIsHandedIn(t *testing.T) {
	b := begin(t, false, up(), [][]api.Value{ints(5), ints(6)}, []int64{1, 2})
	b.insert(ints(5), 1)
	e, _ := b.index.At(0)
	b.index.Insert(e.Key, 2)
	b.index.InsertAt(2, e)
	b.tree.InsertAt(1, 0)
	b.tree.InsertAt(2, 0)
	b.means.entries = []api.Entry{entry(1, 5), entry(2, 5), entry(1, 5)}
	scribble(e.Key, sample.Int(6))
	b.look()
	out, _ := b.index.EraseAt(2)
	b.index.InsertAt(2, out)
	b.tree.EraseAt(2)
	b.tree.InsertAt(2, 0)
	scribble(out.Key, sample.Int(6))
	b.look()
}

// overlap tells whether two lists share any room, spare room included.
func overlap[T any](a, b []T) bool {
	if cap(a) == 0 || cap(b) == 0 {
		return false
	}
	size := unsafe.Sizeof(a[:1][0])
	a1, b1 := uintptr(unsafe.Pointer(unsafe.SliceData(a))), uintptr(unsafe.Pointer(unsafe.SliceData(b)))
	return a1 < b1+uintptr(cap(b))*size && b1 < a1+uintptr(cap(a))*size
}

// apart looks whether no two of the lists share any room.
func apart[T any](t *testing.T, lists [][]T) {
	t.Helper()
	for i, a := range lists {
		for j := range i {
			if overlap(a, lists[j]) {
				t.Errorf("lists %d and %d share room", j, i)
			}
		}
	}
}

func TestNoRoomIsShared(t *testing.T) {
	x := ordidx.New(false, up().never())
	k := spared(ints(5, 6))
	for id := range int64(20) {
		x.Insert(k, id)
		x.Insert(k[:1], id)
		x.InsertAt(0, api.Entry{Key: k, Id: id})
	}
	rows := [][]api.Value{k}
	for _, e := range append(x.All(), x.All()...) {
		rows = append(rows, e.Key)
	}
	lists := [][]api.Entry{x.All(), x.All(), x.All()}
	for x.Len() > 0 {
		e, _ := x.At(0)
		out, _ := x.EraseAt(0)
		rows = append(rows, e.Key, out.Key)
	}
	apart(t, rows)
	apart(t, lists)
}

// A short text that is a piece of a long one doesn't keep all of it.
func TestNoTextIsHeldOnTo(t *testing.T) {
	text := strings.Repeat("long", 1000)
	x := ordidx.New(false, up().never())
	x.Insert(key(sample.Str(text[:4])), 1)
	x.InsertAt(1, api.Entry{Key: key(sample.Str(text[:4])), Id: 2})
	for _, e := range x.All() {
		if got := e.Key[0].Str; got != "long" || unsafe.StringData(got) == unsafe.StringData(text) {
			t.Errorf("the entry %d has a piece of the text that was handed in", e.Id)
		}
	}
	if x.Len() != 2 {
		t.Errorf("Len tells %d", x.Len())
	}
}

// What was handed in and what is out can go: the index holds on to neither.
func TestNothingIsHeldOnTo(t *testing.T) {
	x := ordidx.New(false, up().never())
	var gone []weak.Pointer[api.Value]
	for id := range int64(30) {
		k := ints(id%7, id)
		gone = append(gone, weak.Make(&k[0]))
		x.Insert(k, id)
		k = ints(id%7, id)
		gone = append(gone, weak.Make(&k[0]))
		x.InsertAt(0, api.Entry{Key: k, Id: id})
		e, _ := x.At(0)
		gone = append(gone, weak.Make(&e.Key[0]))
	}
	for x.Len() > 5 {
		e, _ := x.EraseAt(x.Len() / 2)
		gone = append(gone, weak.Make(&e.Key[0]))
	}
	runtime.GC()
	for i, p := range gone {
		if p.Value() != nil {
			t.Errorf("key %d is held on to", i)
		}
	}
	runtime.KeepAlive(x)
}

// What a call tells hangs on what came before alone, not on another run of the same.
func TestTheSameEachTime(t *testing.T) {
	run := func() string {
		x := ordidx.New(false, byLastDigit().never())
		told := ""
		r := rand.New(rand.NewSource(8))
		for range 200 {
			at, err := x.Insert(ints(r.Int63n(50)), r.Int63n(5))
			told += fmt.Sprint(at, err, x.Writes())
			at, err = x.Erase(ints(r.Int63n(50)), r.Int63n(5))
			told += fmt.Sprint(at, err, x.Writes())
		}
		return told + fmt.Sprint(x.All())
	}
	if run() != run() {
		t.Error("the same calls tell otherwise")
	}
}
