package hashidx_test

import (
	"fmt"
	"math"
	"math/rand"
	"slices"
	"strings"
	"testing"
	"unsafe"

	"rialto/api"
	"rialto/code"
	"rialto/hashidx"
	"rialto/sample"
	"rialto/value"
)

func key(vals ...api.Value) []api.Value { return vals }

// ints tells the key of those Ints.
func ints(l ...int64) []api.Value {
	var k []api.Value
	for _, n := range l {
		k = append(k, sample.Int(n))
	}
	return k
}

// anew tells the same key in other memory.
func anew(k []api.Value) []api.Value {
	k = slices.Clone(k)
	for i := range k {
		k[i].Str = strings.Clone(k[i].Str)
	}
	return k
}

// oddIds are numbers at the edges, none that a row would have among them but two.
func oddIds() []int64 {
	return []int64{math.MinInt64, math.MinInt64 + 1, -1 << 32, -256, -2, -1, 0, 1, 2, 255, 1 << 32, 1<<32 + 1, math.MaxInt64 - 1, math.MaxInt64}
}

// floats are unlike by their bits alone, some of them.
func floats() []float64 {
	return []float64{
		sample.FirstNaN(), sample.MinusNaN(), math.Inf(-1), -1, sample.MinusNought(), 0, math.SmallestNonzeroFloat64, 1, math.Inf(1),
		sample.SignalNaN(), sample.QuietNaN(), sample.LoadedNaN(), sample.LastNaN(),
	}
}

// long tells strings around the length that a value may have, and around twice that.
func long() []string {
	var l []string
	for _, n := range []int{59, 60, 61, 62, 119, 120, 121, 180, 181, 1000} {
		l = append(l, strings.Repeat("x", n), strings.Repeat("\x00", n))
	}
	return l
}

// singles are values and what is none, no two the same.
func singles() []api.Value {
	l := append(sample.Rising(), sample.NoValues()...)
	for _, f := range floats() {
		for _, kind := range []int{0, api.Int, api.Bool, api.Str, api.Bytes, api.Float, api.Float + 1, 256 + api.Float} {
			l = append(l, api.Value{Kind: kind, F: f}, api.Value{Kind: kind, Int: 1, Str: "a", F: f})
		}
	}
	for _, s := range append(long(), "", "a", "a\x00", "\x00\x01") {
		for _, kind := range []int{-1, api.Int, api.Str, api.Bytes, api.Float, 256 + api.Str} {
			l = append(l, api.Value{Kind: kind, Str: s}, api.Value{Kind: kind, Int: -1, Str: s}, api.Value{Kind: kind, Int: 1 << 32, Str: s, F: 1})
		}
	}
	for _, n := range []int64{math.MinInt64, -1, 1, 2, 256, 257, 1 << 32, math.MaxInt64} {
		for _, kind := range []int{math.MinInt, -256 + api.Int, 0, api.Int, api.Bool, api.Str, 256 + api.Int, 1<<32 + api.Int, math.MaxInt} {
			l = append(l, api.Value{Kind: kind, Int: n})
		}
	}
	slices.SortFunc(l, value.Compare)
	return slices.CompactFunc(l, sample.Alike)
}

// several are keys of more than one value, and of none: where one value ends and the next begins is all that tells some of them apart.
func several() [][]api.Value {
	x := strings.Repeat("x", 60)
	s, b, n, f := sample.Str, sample.Bytes, sample.Int, sample.Float
	return [][]api.Value{
		nil,
		ints(5, 5), ints(5, 5, 5), ints(5, 6), ints(6, 5), ints(0, 0), ints(0, 0, 0), ints(1, 0), ints(0, 1),
		key(s("a"), s("b")), key(s("ab"), s("")), key(s(""), s("ab")), key(s("ab"), s(""), s("")), key(s(""), s("")), key(s("a"), b("b")), key(b("a"), s("b")),
		key(s("a\x00\x01\x03b")), key(s("a\x00"), s("b")), key(s("a"), s("\x00b")), key(s("a\x00\x01"), s("b")),
		key(s(x), s("x")), key(s(x), s(x)), key(s(x+"x"), s("")), key(s(x+x), s("")), key(s(x), s("")), key(s(""), s(x)), key(s("x"), s(x)), key(b(x), b(x)), key(b(x), b("x")),
		key(f(0), f(sample.MinusNought())), key(f(sample.MinusNought()), f(0)), key(f(0), f(0)), key(f(sample.QuietNaN()), f(sample.LoadedNaN())), key(f(sample.LoadedNaN()), f(sample.QuietNaN())),
		key(n(1), n(5), f(0)), key(n(5), f(0)), key(n(1), n(5)), key(n(3), n(0), b("a"), f(0)), key(n(3), n(0), b(x), b("x"), f(0)),
		key(n(5), api.Value{}), key(api.Value{}, n(5)), key(api.Value{}, api.Value{}), key(api.Value{}, api.Value{}, api.Value{}), key(n(5), n(5), api.Value{}), key(api.Value{Kind: 257}, n(5)),
		sample.Rising(), sample.NoValues(), slices.Concat(sample.Rising(), sample.NoValues()), slices.Concat(sample.NoValues(), sample.Rising()),
		slices.Repeat(ints(5), 500), slices.Repeat(ints(5), 501),
	}
}

// keys are all of these, no two the same, as they stand.
func keys() [][]api.Value {
	l := several()
	for _, v := range singles() {
		l = append(l, key(v))
	}
	slices.SortFunc(l, value.Rows)
	return l
}

func sameEntry(a, b api.Entry) bool {
	return a.Id == b.Id && sample.RowsAlike(a.Key, b.Key)
}

// byKey holds entries against each other by key, then Id.
func byKey(a, b api.Entry) int {
	if c := value.Rows(a.Key, b.Key); c != 0 {
		return c
	}
	if a.Id < b.Id {
		return -1
	}
	return 1
}

// list is what an index means: its entries, in a plain list.
type list struct {
	unique  bool
	entries []api.Entry
}

func (l *list) find(k []api.Value) []int64 {
	var ids []int64
	for _, e := range l.entries {
		if sample.RowsAlike(e.Key, k) {
			ids = append(ids, e.Id)
		}
	}
	slices.Sort(ids)
	return ids
}

func (l *list) has(k []api.Value, id int64) bool {
	return slices.Contains(l.find(k), id)
}

func (l *list) insert(k []api.Value, id int64) api.Errno {
	switch {
	case l.has(k, id):
		return api.ErrThere
	case l.unique && len(l.find(k)) > 0:
		return api.ErrDuplicate
	}
	l.entries = append(l.entries, api.Entry{Key: anew(k), Id: id})
	slices.SortFunc(l.entries, byKey)
	return api.OK
}

func (l *list) erase(k []api.Value, id int64) api.Errno {
	if !l.has(k, id) {
		return api.ErrNoRow
	}
	l.entries = slices.DeleteFunc(l.entries, func(e api.Entry) bool { return sameEntry(e, api.Entry{Key: k, Id: id}) })
	return api.OK
}

// step is a call that was made; it becomes a text where a test fails alone.
type step struct {
	call string
	key  []api.Value
	id   int64
}

func (s step) String() string { return fmt.Sprintf("%s(%v, %d)", s.call, s.key, s.id) }

// both does each step with an index and with the list beside it, and looks at all that can be told behind it.
type both struct {
	t     *testing.T
	index *hashidx.Index
	means list
	steps []step
	keys  [][]api.Value // at which it looks
	ids   []int64
}

func begin(t *testing.T, unique bool, keys [][]api.Value, ids []int64) *both {
	t.Helper()
	b := &both{t: t, index: hashidx.New(unique), means: list{unique: unique}, keys: keys, ids: ids}
	b.look()
	return b
}

func (b *both) fail(form string, args ...any) {
	b.t.Helper()
	b.t.Fatalf("unique %t: %v: %s", b.means.unique, b.steps[max(0, len(b.steps)-30):], fmt.Sprintf(form, args...))
}

func (b *both) did(call string, k []api.Value, id int64, got, want api.Errno) {
	b.t.Helper()
	b.steps = append(b.steps, step{call, k, id})
	if got != want {
		b.fail("tells %d, wanted %d", got, want)
	}
	b.look()
}

func (b *both) insert(k []api.Value, id int64) {
	b.t.Helper()
	b.did("Insert", k, id, b.index.Insert(anew(k), id), b.means.insert(k, id))
}

func (b *both) erase(k []api.Value, id int64) {
	b.t.Helper()
	b.did("Erase", k, id, b.index.Erase(anew(k), id), b.means.erase(k, id))
}

func (b *both) look() {
	b.t.Helper()
	if got := b.index.All(); !slices.EqualFunc(got, b.means.entries, sameEntry) {
		b.fail("All tells %v, wanted %v", got, b.means.entries)
	}
	if got := b.index.Len(); got != len(b.means.entries) {
		b.fail("Len tells %d, wanted %d", got, len(b.means.entries))
	}
	for _, k := range b.keys {
		want := b.means.find(k)
		if got := b.index.Find(k); !slices.Equal(got, want) {
			b.fail("Find(%v) tells %v, wanted %v", k, got, want)
		}
		for _, id := range b.ids {
			if got := b.index.Has(k, id); got != slices.Contains(want, id) {
				b.fail("Has(%v, %d) tells %t", k, id, got)
			}
		}
	}
}

// tells looks whether the errors are those.
func tells(t *testing.T, what string, got []api.Errno, want ...api.Errno) {
	t.Helper()
	if !slices.Equal(got, want) {
		t.Errorf("%s: tells %v, wanted %v", what, got, want)
	}
}

func TestErrors(t *testing.T) {
	if api.ErrDuplicate != 80 || api.ErrThere != 72 || api.ErrNoRow != 71 {
		t.Error("an error has another number")
	}
}

func TestP10_1Example(t *testing.T) {
	x := hashidx.New(true)
	tells(t, "(5) with 1, then 2", []api.Errno{x.Insert(ints(5), 1), x.Insert(ints(5), 2)}, api.OK, api.ErrDuplicate)
	if !slices.Equal(x.Find(ints(5)), []int64{1}) || x.Len() != 1 {
		t.Errorf("Find tells %v, Len %d", x.Find(ints(5)), x.Len())
	}
}

func TestP10_1New(t *testing.T) {
	for _, unique := range []bool{false, true} {
		b := begin(t, unique, several(), oddIds())
		if b.index.Len() != 0 || len(b.index.All()) != 0 || len(b.index.Find(nil)) != 0 || b.index.Has(nil, 0) {
			t.Errorf("New(%t) has something in it", unique)
		}
		for _, k := range several()[:10] {
			b.erase(k, 0)
		}
	}
}

func TestP10_1NotUnique(t *testing.T) {
	x := hashidx.New(false)
	tells(t, "Insert", []api.Errno{x.Insert(ints(5), 3), x.Insert(ints(5), 1), x.Insert(ints(5), 2), x.Insert(ints(4), 3)}, 0, 0, 0, 0)
	if got := x.Find(ints(5)); !slices.Equal(got, []int64{1, 2, 3}) {
		t.Errorf("Find tells %v", got)
	}
	want := []api.Entry{{Key: ints(4), Id: 3}, {Key: ints(5), Id: 1}, {Key: ints(5), Id: 2}, {Key: ints(5), Id: 3}}
	if got := x.All(); !slices.EqualFunc(got, want, sameEntry) || x.Len() != 4 {
		t.Errorf("All tells %v, Len %d", got, x.Len())
	}
	tells(t, "Erase", []api.Errno{x.Erase(ints(5), 2), x.Erase(ints(5), 2), x.Erase(ints(5), 4), x.Erase(ints(6), 1)}, 0, 71, 71, 71)
	if got := x.Find(ints(5)); !slices.Equal(got, []int64{1, 3}) || !x.Has(ints(5), 1) || x.Has(ints(5), 2) || x.Len() != 3 {
		t.Errorf("Find tells %v, Len %d", got, x.Len())
	}
}

// ErrThere goes ahead of ErrDuplicate; one number may stand with many keys.
func TestP10_1Unique(t *testing.T) {
	x := hashidx.New(true)
	tells(t, "Insert", []api.Errno{
		x.Insert(ints(5), 1), x.Insert(ints(5), 1), x.Insert(ints(5), 2), x.Insert(ints(5), 0), x.Insert(ints(6), 1), x.Insert(ints(6), 2), x.Insert(ints(6), 1),
	}, api.OK, api.ErrThere, api.ErrDuplicate, api.ErrDuplicate, api.OK, api.ErrDuplicate, api.ErrThere)
	tells(t, "Erase", []api.Errno{x.Erase(ints(5), 2), x.Erase(ints(7), 1), x.Erase(nil, 1)}, api.ErrNoRow, api.ErrNoRow, api.ErrNoRow)
	want := []api.Entry{{Key: ints(5), Id: 1}, {Key: ints(6), Id: 1}}
	if got := x.All(); !slices.EqualFunc(got, want, sameEntry) || x.Len() != 2 {
		t.Errorf("All tells %v, Len %d", got, x.Len())
	}
}

// A key whose last number is gone is as one that never was there.
func TestP10_1InsertedAnew(t *testing.T) {
	for _, unique := range []bool{false, true} {
		for _, k := range several() {
			b := begin(t, unique, [][]api.Value{k, ints(9)}, []int64{0, 1, 2})
			b.insert(ints(9), 1)
			for range 3 {
				b.insert(k, 1)
				b.insert(k, 2)
				b.erase(k, 1)
				b.erase(k, 2)
				b.erase(k, 1)
				b.insert(k, 2)
				b.insert(k, 1)
				b.erase(k, 2)
				b.erase(k, 1)
			}
			if b.index.Len() != 1 || len(b.index.Find(k)) != 0 {
				t.Errorf("Find(%v) tells %v", k, b.index.Find(k))
			}
		}
	}
}

// Each of these keys is the same as itself and as no other.
func TestP10_1KeysThatAreUnlike(t *testing.T) {
	all := keys()
	for i := range all[1:] {
		if c := value.Rows(all[i], all[i+1]); c != -1 {
			t.Fatalf("keys %v and %v stand at %d", all[i], all[i+1], c)
		}
	}
	for _, unique := range []bool{false, true} {
		x := hashidx.New(unique)
		for _, i := range rand.New(rand.NewSource(1)).Perm(len(all)) {
			k, id := all[i], int64(i)
			tells(t, "Insert", []api.Errno{x.Insert(k, id), x.Insert(anew(k), id)}, api.OK, api.ErrThere)
			if unique {
				tells(t, "Insert of another", []api.Errno{x.Insert(anew(k), id+1)}, api.ErrDuplicate)
			}
		}
		entries := x.All()
		if len(entries) != len(all) || x.Len() != len(all) {
			t.Fatalf("All tells %d entries, Len %d, wanted %d", len(entries), x.Len(), len(all))
		}
		for i, k := range all {
			if got := x.Find(anew(k)); !slices.Equal(got, []int64{int64(i)}) || !x.Has(k, int64(i)) || x.Has(k, int64(i+1)) {
				t.Errorf("Find(%v) tells %v, wanted %d", k, got, i)
			}
			if !sameEntry(entries[i], api.Entry{Key: k, Id: int64(i)}) {
				t.Errorf("entry %d is %v, wanted %v", i, entries[i], k)
			}
		}
		for i, k := range all {
			tells(t, "Erase", []api.Errno{x.Erase(k, int64(i+1)), x.Erase(anew(k), int64(i)), x.Erase(k, int64(i))}, api.ErrNoRow, api.OK, api.ErrNoRow)
			if x.Len() != len(all)-i-1 {
				t.Fatalf("Len tells %d", x.Len())
			}
		}
	}
}

// == tells noughts to be the same and NaNs not to be; neither holds of keys.
func TestP10_1NoughtsAndNaNs(t *testing.T) {
	var l [][]api.Value
	for _, f := range floats() {
		l = append(l, key(sample.Float(f)), key(sample.Int(1), sample.Float(f)), key(sample.Float(f), sample.Int(1)), key(api.Value{Kind: api.Int, F: f}))
	}
	for _, unique := range []bool{false, true} {
		b := begin(t, unique, l, []int64{1, 2})
		for id := range int64(2) {
			for _, k := range l {
				b.insert(k, id+1)
				b.insert(k, id+1)
			}
		}
		for id := range int64(2) {
			for _, k := range l {
				b.erase(k, id+1)
			}
		}
	}
}

// Keys that have one value.Hash, and keys of which code.Put tells an error, are told apart all the same.
func TestP10_1NoValues(t *testing.T) {
	a, b := key(sample.Int(0)), key(api.Value{Kind: 256 + api.Int})
	if value.Hash(a) != value.Hash(b) {
		t.Fatal("there are no two keys with one Hash")
	}
	l := [][]api.Value{nil, a, b}
	for _, v := range sample.NoValues() {
		if _, e := code.Put(key(v)); e != api.ErrCode {
			t.Fatalf("%v is a value", v)
		}
		l = append(l, key(v), key(sample.Int(0), v), key(v, sample.Int(0)), key(v, v))
	}
	slices.SortFunc(l, value.Rows)
	l = slices.CompactFunc(l, sample.RowsAlike)
	for _, unique := range []bool{false, true} {
		b := begin(t, unique, l, nil)
		for i, k := range l {
			b.insert(k, int64(i%7))
			b.insert(k, int64(i%3))
		}
		for i, k := range l {
			b.erase(k, int64(i%3))
			b.erase(k, int64(i%7))
		}
	}
}

// A key isn't the one that it begins like.
func TestP10_1Beginnings(t *testing.T) {
	for _, row := range [][]api.Value{ints(5, 5, 5, 5), ints(0, 0, 0), sample.NoValues(), {{}, {}, {}}, {sample.Str(""), sample.Str(""), sample.Str("")}, sample.Rising()[:20]} {
		var l [][]api.Value
		for n := range len(row) + 1 {
			l = append(l, row[:n])
		}
		for _, unique := range []bool{false, true} {
			b := begin(t, unique, l, []int64{0, 1, 2})
			for _, i := range []int{len(row), 1, 0, 2, 3} {
				b.insert(l[i], 1)
				b.insert(l[i], 2)
			}
			for _, i := range []int{2, 0, len(row), 3, 1} {
				b.erase(l[i], 1)
			}
		}
	}
}

// A nil key and an empty one are the same.
func TestP10_1KeyOfNoValue(t *testing.T) {
	x := hashidx.New(true)
	tells(t, "Insert", []api.Errno{x.Insert(nil, 1), x.Insert(key(), 1), x.Insert(key(), 2), x.Insert(ints(1)[:0], 2)}, api.OK, api.ErrThere, api.ErrDuplicate, api.ErrDuplicate)
	if !x.Has(key(), 1) || !slices.Equal(x.Find(nil), x.Find(key())) || len(x.All()) != 1 || len(x.All()[0].Key) != 0 {
		t.Errorf("All tells %v", x.All())
	}
	tells(t, "Erase", []api.Errno{x.Erase(key(), 1), x.Erase(nil, 1)}, api.OK, api.ErrNoRow)
}

// Numbers are any: those of 0 and below stand ahead, as numbers do.
func TestP10_1OddIds(t *testing.T) {
	for seed := range int64(10) {
		b := begin(t, false, [][]api.Value{nil, ints(5)}, oddIds())
		for _, i := range rand.New(rand.NewSource(seed)).Perm(len(oddIds())) {
			b.insert(ints(5), oddIds()[i])
			b.insert(ints(5), oddIds()[i])
			b.insert(nil, oddIds()[i])
		}
		if got := b.index.Find(ints(5)); !slices.Equal(got, oddIds()) {
			t.Errorf("Find tells %v", got)
		}
		for _, i := range rand.New(rand.NewSource(-1 - seed)).Perm(len(oddIds())) {
			b.erase(ints(5), oddIds()[i])
			b.erase(ints(5), oddIds()[i])
		}
	}
	for _, id := range oddIds() {
		b := begin(t, true, [][]api.Value{nil, ints(5)}, oddIds())
		b.insert(nil, id)
		for _, other := range oddIds() {
			b.insert(nil, other)
			b.erase(ints(5), other)
			b.erase(nil, other)
			b.insert(nil, other)
			b.erase(nil, other)
			b.insert(nil, id)
		}
	}
}

func TestP10_1ManyNumbersOfOneKey(t *testing.T) {
	const n = 3000
	up, down := make([]int, n), make([]int, n)
	for i := range n {
		up[i], down[i] = i, n-1-i
	}
	for _, order := range [][]int{up, down, rand.New(rand.NewSource(1)).Perm(n)} {
		x := hashidx.New(false)
		for i, id := range order {
			if e := x.Insert(ints(5), int64(id)); e != api.OK || x.Len() != i+1 {
				t.Fatalf("Insert of %d tells %d, Len %d", id, e, x.Len())
			}
		}
		for i, id := range x.Find(ints(5)) {
			if id != int64(i) {
				t.Fatalf("number %d is %d", i, id)
			}
		}
		for i, id := range order {
			if e := x.Erase(ints(5), int64(id)); e != api.OK || x.Len() != n-i-1 || x.Has(ints(5), int64(id)) {
				t.Fatalf("Erase of %d tells %d, Len %d", id, e, x.Len())
			}
		}
	}
}

func TestP10_1ManyKeys(t *testing.T) {
	const n = 3000
	for _, unique := range []bool{false, true} {
		x := hashidx.New(unique)
		for _, i := range rand.New(rand.NewSource(2)).Perm(n) {
			if e := x.Insert(ints(int64(i%60), int64(i/60)), int64(-i)); e != api.OK {
				t.Fatalf("Insert of %d tells %d", i, e)
			}
		}
		all := x.All()
		if len(all) != n || x.Len() != n || !slices.IsSortedFunc(all, byKey) {
			t.Fatalf("All tells %d entries, Len %d", len(all), x.Len())
		}
		for i := range int64(n) {
			if got := x.Find(ints(i%60, i/60)); !slices.Equal(got, []int64{-i}) {
				t.Fatalf("Find of %d tells %v", i, got)
			}
		}
	}
}

// All stands by keys first, whatever came in first, and whatever their bytes are: a shorter key stands ahead of one that begins like it.
func TestP10_1AllByKeyThenId(t *testing.T) {
	for seed := range int64(5) {
		r := rand.New(rand.NewSource(seed))
		x := hashidx.New(false)
		all := keys()
		for _, i := range r.Perm(len(all)) {
			for _, id := range r.Perm(3) {
				x.Insert(all[i], int64(id-1))
			}
		}
		got := x.All()
		if len(got) != 3*len(all) {
			t.Fatalf("All tells %d entries", len(got))
		}
		for i, e := range got {
			if !sameEntry(e, api.Entry{Key: all[i/3], Id: int64(i%3 - 1)}) {
				t.Fatalf("entry %d is %v, wanted %v with %d", i, e, all[i/3], i%3-1)
			}
		}
	}
}

// found tells the numbers of All's entries with that key.
func found(x *hashidx.Index, k []api.Value) []int64 {
	var ids []int64
	for _, e := range x.All() {
		if value.Rows(e.Key, k) == 0 {
			ids = append(ids, e.Id)
		}
	}
	return ids
}

func TestP10_2FindIsOfAll(t *testing.T) {
	all := keys()
	for seed := range int64(6) {
		r := rand.New(rand.NewSource(seed))
		x := hashidx.New(seed%2 == 0)
		for range 60 {
			k := all[r.Intn(len(all))]
			for range r.Intn(4) {
				x.Insert(k, r.Int63n(7)-3)
			}
			x.Erase(k, r.Int63n(7)-3)
		}
		told := 0
		for _, k := range all {
			got, want := x.Find(k), found(x, k)
			if !slices.Equal(got, want) {
				t.Fatalf("Find(%v) tells %v, All has %v", k, got, want)
			}
			for id := int64(-4); id < 5; id++ {
				if x.Has(k, id) != slices.Contains(want, id) {
					t.Fatalf("Has(%v, %d) tells %t, All has %v", k, id, x.Has(k, id), want)
				}
			}
			told += len(got)
		}
		if told != x.Len() || told != len(x.All()) {
			t.Fatalf("Find tells %d entries in all, Len %d", told, x.Len())
		}
	}
}

// All ways to take four steps, with three keys and two numbers.
func TestAllShortWays(t *testing.T) {
	k := [][]api.Value{nil, ints(5), ints(5, 0)}
	ids := []int64{0, 1}
	var all []func(b *both)
	for _, k := range k {
		for _, id := range ids {
			all = append(all, func(b *both) { b.insert(k, id) }, func(b *both) { b.erase(k, id) })
		}
	}
	for _, unique := range []bool{false, true} {
		for way := range len(all) * len(all) * len(all) * len(all) {
			b := begin(t, unique, k, ids)
			for range 4 {
				all[way%len(all)](b)
				way /= len(all)
			}
		}
	}
}

func TestLongWays(t *testing.T) {
	all := keys()
	for seed := range int64(40) {
		r := rand.New(rand.NewSource(seed))
		var k [][]api.Value
		for range 1 + r.Intn(12) {
			k = append(k, all[r.Intn(len(all))])
		}
		ids := oddIds()[:1+r.Intn(len(oddIds()))]
		erases := 1 + r.Intn(3)
		b := begin(t, seed%2 == 0, k, ids)
		for range 250 {
			k, id := k[r.Intn(len(k))], ids[r.Intn(len(ids))]
			if n := len(b.means.entries); n > 0 && r.Intn(3) == 0 {
				e := b.means.entries[r.Intn(n)]
				k, id = anew(e.Key), e.Id
			}
			if r.Intn(4) < erases {
				b.erase(k, id)
			} else {
				b.insert(k, id)
			}
		}
	}
}

func TestEachIndexIsItsOwn(t *testing.T) {
	k := [][]api.Value{nil, ints(5), ints(5, 5)}
	a, b := begin(t, false, k, []int64{1, 2}), begin(t, true, k, []int64{1, 2})
	for _, k := range k {
		a.insert(k, 1)
		b.insert(k, 2)
		a.insert(k, 2)
		b.look()
		a.look()
	}
	a.erase(nil, 2)
	b.look()
	b.erase(ints(5), 2)
	a.look()
	begin(t, true, k, []int64{1, 2})
}

// spared has k and behind it, in the same memory, room that is written.
func spared(k []api.Value) []api.Value {
	l := append(slices.Clone(k), sample.Int(-9), sample.Int(-9))
	return l[:len(k)]
}

// scribble writes into all of l, and into the room behind it.
func scribble[T any](l []T, v T) {
	l = l[:cap(l)]
	for i := range l {
		l[i] = v
	}
}

func TestWhatIsHandedInStays(t *testing.T) {
	for name, call := range map[string]func(x *hashidx.Index, k []api.Value){
		"Find":                     func(x *hashidx.Index, k []api.Value) { x.Find(k) },
		"Has":                      func(x *hashidx.Index, k []api.Value) { x.Has(k, 1) },
		"Insert":                   func(x *hashidx.Index, k []api.Value) { x.Insert(k, 1) },
		"Insert of what is there":  func(x *hashidx.Index, k []api.Value) { x.Insert(ints(1), 1); x.Insert(k, 1) },
		"Insert of another number": func(x *hashidx.Index, k []api.Value) { x.Insert(k, 1); x.Insert(k, 2) },
		"Erase":                    func(x *hashidx.Index, k []api.Value) { x.Insert(k, 1); x.Erase(k, 1) },
		"Erase of nothing":         func(x *hashidx.Index, k []api.Value) { x.Erase(k, 1) },
	} {
		for _, unique := range []bool{false, true} {
			for _, k := range several() {
				x := hashidx.New(unique)
				handed := spared(k)
				call(x, handed)
				x.All()
				x.Insert(ints(5), 9)
				x.Erase(anew(k), 1)
				if !sample.RowsAlike(handed[:len(k)+2], append(slices.Clone(k), sample.Int(-9), sample.Int(-9))) {
					t.Errorf("%s: the key that was handed in is %v, it was %v", name, handed[:len(k)+2], k)
				}
			}
		}
	}
}

func TestWhatIsHandedInIsNotKept(t *testing.T) {
	for _, unique := range []bool{false, true} {
		for _, k := range several() {
			written := slices.Repeat(key(sample.Str("written")), len(k))
			b := begin(t, unique, [][]api.Value{k, written}, []int64{1, 2})
			for _, id := range []int64{2, 1, 1} {
				handed := spared(k)
				b.index.Insert(handed, id)
				b.means.insert(k, id)
				scribble(handed, sample.Str("written"))
				b.look()
			}
			handed := spared(k)
			b.index.Erase(handed, 2)
			b.means.erase(k, 2)
			scribble(handed, sample.Str("written"))
			b.look()
			b.index.Find(handed)
			b.look()
		}
	}
}

func TestWhatIsToldIsNewMemory(t *testing.T) {
	for _, unique := range []bool{false, true} {
		k := several()
		b := begin(t, unique, k, []int64{-9, 1, 2})
		for _, k := range k[:12] {
			b.insert(k, 2)
			b.insert(k, 1)
		}
		kept, one := b.index.All(), b.index.Find(k[1])
		for _, k := range k {
			scribble(b.index.Find(k), -9)
			b.look()
		}
		all := b.index.All()
		for _, e := range all {
			scribble(e.Key, sample.Str("written"))
		}
		scribble(all, api.Entry{Key: ints(-9), Id: -9})
		b.look()
		if !slices.EqualFunc(kept, b.means.entries, sameEntry) || !slices.Equal(one, b.means.find(k[1])) {
			t.Error("an earlier answer is touched by what is done with a later one")
		}
	}
}

// What was told stays as it was, whatever comes of the entries.
func TestWhatWasToldStays(t *testing.T) {
	b := begin(t, false, [][]api.Value{nil, ints(5)}, []int64{1, 2, 3, 4})
	for _, id := range []int64{4, 2, 3} {
		b.insert(ints(5), id)
		b.insert(nil, id)
	}
	all, five := b.index.All(), b.index.Find(ints(5))
	want := slices.Clone(b.means.entries)
	b.erase(ints(5), 2)
	b.insert(ints(5), 1)
	b.erase(nil, 4)
	b.erase(ints(5), 4)
	b.insert(ints(4), 4)
	if !slices.EqualFunc(all, want, sameEntry) || !slices.Equal(five, []int64{2, 3, 4}) {
		t.Errorf("what was told is %v and %v", all, five)
	}
}

// What was told may be handed in again.
func TestWhatWasToldIsHandedIn(t *testing.T) {
	b := begin(t, false, [][]api.Value{ints(5), ints(6)}, []int64{1, 2})
	b.insert(ints(5), 1)
	e := b.index.All()[0]
	b.index.Insert(e.Key, 2)
	b.means.insert(ints(5), 2)
	scribble(e.Key, sample.Int(6))
	b.look()
	for _, e := range b.index.All() {
		b.erase(e.Key, e.Id)
	}
}

// overlap tells whether two lists share any room, spare room included.
func overlap[T any](a, b []T) bool {
	if cap(a) == 0 || cap(b) == 0 {
		return false
	}
	size := unsafe.Sizeof(a[:1][0])
	a1, b1 := uintptr(unsafe.Pointer(unsafe.SliceData(a))), uintptr(unsafe.Pointer(unsafe.SliceData(b)))
	return a1 < b1+uintptr(cap(b))*size && b1 < a1+uintptr(cap(a))*size
}

// apart looks whether no two of the lists share any room.
func apart[T any](t *testing.T, lists [][]T) {
	t.Helper()
	for i, a := range lists {
		for j := range i {
			if overlap(a, lists[j]) {
				t.Errorf("lists %d and %d share room", j, i)
			}
		}
	}
}

func TestNoRoomIsShared(t *testing.T) {
	x := hashidx.New(false)
	k := spared(ints(5, 6))
	for id := range int64(20) {
		x.Insert(k, id)
		x.Insert(k[:1], id)
	}
	rows := [][]api.Value{k}
	for _, e := range append(x.All(), x.All()...) {
		rows = append(rows, e.Key)
	}
	apart(t, rows)
	apart(t, [][]api.Entry{x.All(), x.All(), x.All()})
	apart(t, [][]int64{x.Find(k), x.Find(k), x.Find(k[:1]), x.Find(k)})
}

// A short text that is a piece of a long one doesn't keep all of it.
func TestNoTextIsHeldOnTo(t *testing.T) {
	text := strings.Repeat("long", 1000)
	x := hashidx.New(false)
	x.Insert(key(sample.Str(text[:4])), 1)
	x.Insert(key(sample.Str(text[:4])), 2)
	for _, e := range x.All() {
		if got := e.Key[0].Str; got != "long" || unsafe.StringData(got) == unsafe.StringData(text) {
			t.Errorf("the entry %d has a piece of the text that was handed in", e.Id)
		}
	}
	if x.Len() != 2 {
		t.Errorf("Len tells %d", x.Len())
	}
}
