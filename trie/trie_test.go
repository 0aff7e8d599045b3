package trie_test

import (
	"cmp"
	"fmt"
	"math"
	"math/rand"
	"slices"
	"strings"
	"testing"
	"unsafe"

	"rialto/api"
	"rialto/sample"
	"rialto/trie"
)

// oddIds are numbers at the edges, none that a row would have among them but two.
func oddIds() []int64 {
	return []int64{math.MinInt64, math.MinInt64 + 1, -1 << 32, -256, -2, -1, 0, 1, 2, 255, 1 << 32, 1<<32 + 1, math.MaxInt64 - 1, math.MaxInt64}
}

// odd are strings of whatever bytes, many of which begin like others; no two are the same.
func odd() []string {
	l := []string{
		"", "a", "aa", "aaa", "ab", "abc", "abd", "b", "ba", "car", "cart", "cat", "dog",
		"\x00", "\x00\x00", "\x00a", "a\x00", "a\x00b", "\xFF", "\xFF\xFF", "\xFFa", "a\xFF", "a\xFFb", "\x7F", "\x80", "a\x7F", "a\x80",
		"\u00E9", "\u00E8", "\xC3", "\xA9", "\u20AC", "\u20AD", "\xE2\x82", "\xE2", "\xF0\x9F\x98\x80", "\xF0\x9F\x98", "\xED\xA0\x80", "\uFFFD",
	}
	for _, n := range []int{59, 60, 61, 300} {
		l = append(l, strings.Repeat("x", n), strings.Repeat("x", n)+"y", strings.Repeat("\x00", n))
	}
	slices.Sort(l)
	return l
}

// around tells strings at which something may go wrong with those of l: themselves, what they begin with, what
// begins like them, what parts from them.
func around(l ...string) []string {
	out := []string{"", "\x00", "\xFF", "a", "z"}
	for _, s := range l {
		out = append(out, s, s+"\x00", s+"a", s+"\xFF", s+s, "a"+s)
		for _, size := range []int{1, 2, 3, len(s) / 2, len(s) - 1} {
			if size < 0 || size >= len(s) {
				continue
			}
			out = append(out, s[:size], s[:size]+string([]byte{s[size] + 1})+s[size+1:], s[:size]+string([]byte{s[size] - 1}), s[size:])
		}
	}
	slices.Sort(out)
	return slices.Compact(out)
}

// entry is one of a trie.
type entry struct {
	s  string
	id int64
}

// byString holds entries against each other by string, then Id. Go's order of strings is that byte by byte.
func byString(a, b entry) int {
	return cmp.Or(cmp.Compare(a.s, b.s), cmp.Compare(a.id, b.id))
}

// list is what a trie means: its entries, in a plain list, in order.
type list []entry

func (l list) with(e entry) (list, api.Errno) {
	if slices.Contains(l, e) {
		return l, api.ErrThere
	}
	l = append(slices.Clone(l), e)
	slices.SortFunc(l, byString)
	return l, api.OK
}

func (l list) without(e entry) (list, api.Errno) {
	at := slices.Index(l, e)
	if at < 0 {
		return l, api.ErrNoRow
	}
	return slices.Delete(slices.Clone(l), at, at+1), api.OK
}

func (l list) find(s string) []int64 {
	var ids []int64
	for _, e := range l {
		if e.s == s {
			ids = append(ids, e.id)
		}
	}
	return ids
}

func (l list) prefix(p string) []entry {
	var out []entry
	for _, e := range l {
		if strings.HasPrefix(e.s, p) {
			out = append(out, e)
		}
	}
	return out
}

func (l list) longest(s string) (string, bool) {
	longest, found := "", false
	for _, e := range l {
		if strings.HasPrefix(s, e.s) && len(e.s) >= len(longest) {
			longest, found = e.s, true
		}
	}
	return longest, found
}

func (l list) strings() []string {
	var out []string
	for _, e := range l {
		out = append(out, e.s)
	}
	return slices.Compact(out)
}

// needed tells how many nodes there have to be: a root, one for each string, one wherever two strings part.
func (l list) needed() int {
	at := map[string]bool{"": true}
	all := l.strings()
	for i, s := range all {
		at[s] = true
		for _, other := range all[:i] {
			size := 0
			for size < len(other) && size < len(s) && other[size] == s[size] {
				size++
			}
			at[s[:size]] = true
		}
	}
	return len(at)
}

// are looks whether the entries that were told are these, with a Str alone as key.
func are(got []api.Entry, want []entry) bool {
	return slices.EqualFunc(got, want, func(g api.Entry, w entry) bool {
		return g.Id == w.id && sample.RowsAlike(g.Key, []api.Value{sample.Str(w.s)})
	})
}

// both does each step with a trie and with the list beside it, and looks at all that can be told behind it.
type both struct {
	t       *testing.T
	trie    *trie.Trie
	means   list
	strings []string // at which it looks
	steps   []string
}

func begin(t *testing.T, strings ...string) *both {
	t.Helper()
	b := &both{t: t, trie: trie.New(), strings: around(strings...)}
	b.look()
	return b
}

// filled has the strings in it already, each with 1, put in one by one.
func filled(t *testing.T, strings ...string) *both {
	t.Helper()
	b := begin(t, strings...)
	for _, s := range strings {
		b.insert(s, 1)
	}
	return b
}

func (b *both) fail(form string, args ...any) {
	b.t.Helper()
	b.t.Fatalf("%v: %s", b.steps[max(0, len(b.steps)-30):], fmt.Sprintf(form, args...))
}

func (b *both) insert(s string, id int64) {
	b.t.Helper()
	means, want := b.means.with(entry{s, id})
	b.steps = append(b.steps, fmt.Sprintf("Insert(%q, %d)", s, id))
	if got := b.trie.Insert(strings.Clone(s), id); got != want {
		b.fail("tells %d, wanted %d", got, want)
	}
	b.means = means
	b.look()
}

func (b *both) erase(s string, id int64) {
	b.t.Helper()
	means, want := b.means.without(entry{s, id})
	b.steps = append(b.steps, fmt.Sprintf("Erase(%q, %d)", s, id))
	if got := b.trie.Erase(strings.Clone(s), id); got != want {
		b.fail("tells %d, wanted %d", got, want)
	}
	b.means = means
	b.look()
}

func (b *both) look() {
	b.t.Helper()
	if got := b.trie.All(); !are(got, b.means) {
		b.fail("All tells %v, wanted %v", got, b.means)
	}
	if got := b.trie.Len(); got != len(b.means) {
		b.fail("Len tells %d, wanted %d", got, len(b.means))
	}
	b.lookAtNodes()
	for _, s := range b.strings {
		if got, want := b.trie.Find(s), b.means.find(s); !slices.Equal(got, want) {
			b.fail("Find(%q) tells %v, wanted %v", s, got, want)
		}
		if got, want := b.trie.Prefix(s), b.means.prefix(s); !are(got, want) {
			b.fail("Prefix(%q) tells %v, wanted %v", s, got, want)
		}
		longest, found := b.means.longest(s)
		if got, ok := b.trie.Longest(s); got != longest || ok != found {
			b.fail("Longest(%q) tells %q, %t, wanted %q, %t", s, got, ok, longest, found)
		}
	}
}

func (b *both) lookAtNodes() {
	b.t.Helper()
	got := b.trie.Nodes()
	if most := 2*len(b.means.strings()) + 1; got > most {
		b.fail("Nodes tells %d, wanted %d at most", got, most)
	}
	// No more are kept than are needed, and those that are told are those that are there.
	if want := b.means.needed(); got != want {
		b.fail("Nodes tells %d, wanted %d", got, want)
	}
	if walked, labels := b.trie.Walked(); walked != got {
		b.fail("Nodes tells %d, there are %d: %q", got, walked, labels)
	}
}

// has looks whether All tells these, by the test's own word rather than by the list's: each a string, a point, an Id.
func (b *both) has(want ...string) {
	b.t.Helper()
	if got := spelled(b.trie.All()); !slices.Equal(got, want) {
		b.fail("All tells %q, wanted %q", got, want)
	}
}

func spelled(l []api.Entry) []string {
	var out []string
	for _, e := range l {
		out = append(out, fmt.Sprintf("%s.%d", e.Key[0].Str, e.Id))
	}
	return out
}

// tells looks whether the errors are those.
func tells(t *testing.T, what string, got []api.Errno, want ...api.Errno) {
	t.Helper()
	if !slices.Equal(got, want) {
		t.Errorf("%s: tells %v, wanted %v", what, got, want)
	}
}

func TestErrors(t *testing.T) {
	if api.ErrThere != 72 || api.ErrNoRow != 71 {
		t.Error("an error has another number")
	}
}

// The strings of the chapter, in each order in which they may come.
func TestP15_1Example(t *testing.T) {
	l := []string{"car", "cat", "dog"}
	for _, order := range [][]int{{0, 1, 2}, {0, 2, 1}, {1, 0, 2}, {1, 2, 0}, {2, 0, 1}, {2, 1, 0}} {
		b := filled(t, l[order[0]], l[order[1]], l[order[2]])
		b.has("car.1", "cat.1", "dog.1")
		if got := spelled(b.trie.Prefix("ca")); !slices.Equal(got, []string{"car.1", "cat.1"}) {
			t.Errorf("Prefix tells %q", got)
		}
		if b.trie.Nodes() != 5 {
			t.Errorf("Nodes tells %d: a root, ca, car, cat, dog are needed", b.trie.Nodes())
		}
	}
}

// The key of an entry is its string as a Str, with nothing else in it.
func TestP15_1Key(t *testing.T) {
	x := trie.New()
	x.Insert("a", 5)
	want := api.Value{Kind: api.Str, Str: "a"}
	for _, l := range [][]api.Entry{x.All(), x.Prefix(""), x.Prefix("a")} {
		if len(l) != 1 || l[0].Id != 5 || len(l[0].Key) != 1 || l[0].Key[0] != want {
			t.Errorf("tells %v", l)
		}
	}
}

func TestP15_1Empty(t *testing.T) {
	b := begin(t, odd()...)
	for _, s := range odd() {
		b.erase(s, 0)
		b.erase(s, 1)
		if got, ok := b.trie.Longest(s); got != "" || ok {
			t.Errorf("Longest(%q) tells %q, %t", s, got, ok)
		}
	}
	if b.trie.Len() != 0 || len(b.trie.All()) != 0 || len(b.trie.Find("")) != 0 || len(b.trie.Prefix("")) != 0 || b.trie.Nodes() > 1 {
		t.Errorf("Len tells %d, All %v, Nodes %d", b.trie.Len(), b.trie.All(), b.trie.Nodes())
	}
}

// One that became empty again is as a new one.
func TestP15_1EmptyAgain(t *testing.T) {
	b := begin(t, "", "car", "cart", "cat")
	for range 3 {
		for _, s := range []string{"cart", "", "cat", "car"} {
			b.insert(s, 7)
		}
		for _, s := range []string{"car", "cat", "", "cart"} {
			b.erase(s, 7)
			b.erase(s, 7)
		}
		b.has()
	}
}

// The empty string is one as others: it is there only if it was put in.
func TestP15_1EmptyString(t *testing.T) {
	b := filled(t, "a", "b")
	b.erase("", 1)
	if got, ok := b.trie.Longest("cx"); got != "" || ok {
		t.Errorf("Longest tells %q, %t without the empty string", got, ok)
	}
	b.insert("", 2)
	b.insert("", 1)
	b.insert("", 2)
	if got, ok := b.trie.Longest("cx"); got != "" || !ok {
		t.Errorf("Longest tells %q, %t with the empty string", got, ok)
	}
	if got, ok := b.trie.Longest(""); got != "" || !ok {
		t.Errorf("Longest of nothing tells %q, %t", got, ok)
	}
	b.has(".1", ".2", "a.1", "b.1")
	b.erase("a", 1)
	b.erase("b", 1)
	b.has(".1", ".2")
	b.erase("", 2)
	b.erase("", 2)
	b.erase("", 1)
	b.has()
}

// Strings of which each is the beginning of the next, from every order in which they may come and go.
func TestP15_1Beginnings(t *testing.T) {
	for _, l := range [][]string{
		{"c", "ca", "car", "cart"}, {"", "a", "abcdef", "abcdefg"}, {"\x00", "\x00\x00", "\x00\x00\x00", "\x00\x00\x00\x00\x00"}, {"\xFF", "\xFF\xFF", "\xFF\xFF\x00", "\xFF\xFF\x00\xFF"},
	} {
		for seed := range int64(24) {
			r := rand.New(rand.NewSource(seed))
			b := begin(t, l...)
			for _, i := range r.Perm(len(l)) {
				b.insert(l[i], 1)
			}
			for _, i := range r.Perm(len(l)) {
				b.erase(l[i], 1)
			}
		}
	}
	filled(t, "ca", "cart").has("ca.1", "cart.1")
	filled(t, "cart", "ca").has("ca.1", "cart.1")
	// One that is gone leaves what begins like it, and what it begins with.
	b := filled(t, "cart", "ca", "car")
	b.erase("car", 1)
	b.has("ca.1", "cart.1")
	b.erase("ca", 1)
	b.has("cart.1")
	b.insert("carton", 1)
	b.erase("cart", 1)
	b.has("carton.1")
}

func TestP15_1WhereStringsPart(t *testing.T) {
	for _, c := range []struct {
		l     []string // in order
		nodes int
	}{
		{[]string{"abcd", "xbcd"}, 3},                 // in their first byte
		{[]string{"abcd", "abcx"}, 4},                 // in their last one
		{[]string{"abcd", "abxd"}, 4},                 // in the middle
		{[]string{"abcd", "abcx", "abxd", "axcd"}, 8}, // where others part already, and elsewhere
		{[]string{"a", "b"}, 3},                       // in their only one
		{[]string{"abc", "abd", "abe"}, 5},            // three at one place
		{[]string{"ab", "abc", "abd"}, 4},             // where a string ends
		{[]string{"\x7F", "\x80"}, 3},                 // as numbers without a sign
		{[]string{"a\x7F", "a\x80"}, 4},
		{[]string{"\u00E8", "\u00E9"}, 4}, // within what would be one character
		{[]string{"\u20AC", "\u20AD", "\u20ADa"}, 5},
	} {
		var want []string
		for _, s := range c.l {
			want = append(want, s+".1")
		}
		for seed := range int64(12) {
			r := rand.New(rand.NewSource(seed))
			b := begin(t, c.l...)
			for _, i := range r.Perm(len(c.l)) {
				b.insert(c.l[i], 1)
			}
			b.has(want...)
			if got := b.trie.Nodes(); got != c.nodes {
				t.Errorf("%q: Nodes tells %d, wanted %d", c.l, got, c.nodes)
			}
			for _, i := range r.Perm(len(c.l)) {
				b.erase(c.l[i], 1)
			}
		}
	}
}

// Each byte is one as others, alone and behind another one; they stand as numbers.
func TestP15_1AllBytes(t *testing.T) {
	for _, before := range []string{"", "a", "\x00", "\xFF", "\xC3"} {
		x := trie.New()
		for _, i := range rand.New(rand.NewSource(3)).Perm(256) {
			if e := x.Insert(before+string([]byte{byte(i)}), int64(i)); e != api.OK {
				t.Fatalf("Insert of byte %d behind %q tells %d", i, before, e)
			}
		}
		all := x.Prefix(before)
		if len(all) != 256 {
			t.Fatalf("Prefix tells %d entries", len(all))
		}
		for i := range 256 {
			s := before + string([]byte{byte(i)})
			if e := all[i]; e.Id != int64(i) || e.Key[0].Str != s {
				t.Errorf("entry %d is %v", i, e)
			}
			if got := x.Find(s); !slices.Equal(got, []int64{int64(i)}) {
				t.Errorf("Find(%q) tells %v", s, got)
			}
			if got, ok := x.Longest(s + "a"); got != s || !ok {
				t.Errorf("Longest tells %q, wanted %q", got, s)
			}
		}
		for i := range 256 {
			if e := x.Erase(before+string([]byte{byte(i)}), int64(i)); e != api.OK || x.Len() != 255-i {
				t.Fatalf("Erase of byte %d behind %q tells %d", i, before, e)
			}
		}
	}
}

func TestP15_1OddStrings(t *testing.T) {
	for seed := range int64(3) {
		r := rand.New(rand.NewSource(seed))
		b := begin(t, odd()...)
		for _, i := range r.Perm(len(odd())) {
			b.insert(odd()[i], 1)
		}
		if got := b.means.strings(); !slices.Equal(got, odd()) {
			t.Fatalf("there are %q", got)
		}
		for _, i := range r.Perm(len(odd())) {
			b.erase(odd()[i], 1)
		}
	}
}

// Numbers are any: those of 0 and below stand ahead, as numbers do.
func TestP15_1OneStringSeveralNumbers(t *testing.T) {
	for _, s := range []string{"", "a", "ab", "abc", "\x00"} {
		for seed := range int64(4) {
			r := rand.New(rand.NewSource(seed))
			b := filled(t, "ab", "a\x00")
			b.erase("ab", 1)
			for _, i := range r.Perm(len(oddIds())) {
				b.insert(s, oddIds()[i])
				b.insert(s, oddIds()[i])
			}
			if got := b.trie.Find(s); !slices.Equal(got, oddIds()) {
				t.Errorf("Find tells %v", got)
			}
			for _, i := range r.Perm(len(oddIds())) {
				b.erase(s, oddIds()[i])
				b.erase(s, oddIds()[i])
			}
		}
	}
}

func TestP15_1OneNumberSeveralStrings(t *testing.T) {
	for _, id := range oddIds() {
		b := begin(t, "car", "cart", "cat")
		for _, s := range []string{"cat", "", "cart", "car", "c"} {
			b.insert(s, id)
			b.insert(s, id)
		}
		// One string's going takes the number from that alone.
		b.erase("car", id)
		b.erase("car", id)
		b.erase("", id)
		var want []string
		for _, s := range []string{"c", "cart", "cat"} {
			want = append(want, fmt.Sprintf("%s.%d", s, id))
		}
		b.has(want...)
	}
}

func TestP15_1Find(t *testing.T) {
	b := filled(t, "cart", "cat", "dog")
	b.insert("cat", 9)
	b.insert("cat", 4)
	for s, want := range map[string][]int64{
		"cat": {1, 4, 9}, "cart": {1}, "dog": {1},
		"": nil, "c": nil, "ca": nil, "car": nil, "cats": nil, "carts": nil, "do": nil, "Cat": nil, "cau": nil, "x": nil, "cat\x00": nil,
	} {
		if got := b.trie.Find(s); !slices.Equal(got, want) {
			t.Errorf("Find(%q) tells %v, wanted %v", s, got, want)
		}
	}
}

func TestP15_1Prefix(t *testing.T) {
	b := filled(t, "cat", "car", "dog", "ca", "cartwheel", "", "cat\x00", "cat\xFF")
	b.insert("cat", -2)
	all := []string{".1", "ca.1", "car.1", "cartwheel.1", "cat.-2", "cat.1", "cat\x00.1", "cat\xFF.1", "dog.1"}
	for p, want := range map[string][]string{
		"":  all,      // nothing
		"c": all[1:8], // what ends in the middle of a node
		"d": all[8:], "do": all[8:], "cart": all[3:4], "cartw": all[3:4], "cartwhee": all[3:4],
		"ca": all[1:8], "car": all[2:4], "cat": all[4:8], "dog": all[8:], "cartwheel": all[3:4], "cat\xFF": all[7:8], // a whole string
		"x": nil, "cab": nil, "dig": nil, "cartx": nil, "cartwhx": nil, "Ca": nil, "\x00": nil, "\xFF": nil, // what nothing begins with
		"carts": nil, "dogs": nil, "cartwheels": nil, "cat\x00\x00": nil, "dog\x00": nil,
	} {
		if got := spelled(b.trie.Prefix(p)); !slices.Equal(got, want) {
			t.Errorf("Prefix(%q) tells %q, wanted %q", p, got, want)
		}
	}
}

func TestP15_1Longest(t *testing.T) {
	b := filled(t, "cat", "car", "dog", "ca", "cartwheel", "cat\xFF")
	for _, c := range []struct{ s, want string }{
		{"cat", "cat"}, {"ca", "ca"}, {"cartwheel", "cartwheel"}, {"cat\xFF", "cat\xFF"}, // what is there
		{"cats", "cat"}, {"cartoon", "car"}, {"cartwheels", "cartwheel"}, {"cartwhee", "car"}, {"cab", "ca"}, {"cat\xFE", "cat"}, {"cat\xFF\xFF", "cat\xFF"}, // what is longer
		{"car\x00", "car"}, {"dogdog", "dog"}, {"dog" + strings.Repeat("x", 1000), "dog"},
	} {
		if got, ok := b.trie.Longest(c.s); got != c.want || !ok {
			t.Errorf("Longest(%q) tells %q, %t, wanted %q", c.s, got, ok, c.want)
		}
	}
	for _, s := range []string{"", "c", "d", "do", "x", "xcat", "Cat", "\x00", "\xFF", "dig"} { // what nothing there begins
		if got, ok := b.trie.Longest(s); got != "" || ok {
			t.Errorf("Longest(%q) tells %q, %t", s, got, ok)
		}
	}
	// With the empty string there, it is what all the others begin with.
	b.insert("", 1)
	for _, s := range []string{"", "c", "do", "x", "\x00"} {
		if got, ok := b.trie.Longest(s); got != "" || !ok {
			t.Errorf("Longest(%q) tells %q, %t", s, got, ok)
		}
	}
	// What is gone is no answer any more.
	b.erase("car", 1)
	b.erase("cat", 1)
	for s, want := range map[string]string{"car": "ca", "cart": "ca", "cat": "ca", "cat\xFFx": "cat\xFF"} {
		if got, ok := b.trie.Longest(s); got != want || !ok {
			t.Errorf("Longest(%q) tells %q, %t, wanted %q", s, got, ok, want)
		}
	}
}

func TestP15_1InsertError(t *testing.T) {
	for _, s := range odd() {
		b := filled(t, "ab", "abc", "x", s+"\x00", s+"a")
		if len(b.means.find(s)) == 0 {
			b.insert(s, 1)
		}
		tells(t, "Insert", []api.Errno{b.trie.Insert(s, 1), b.trie.Insert(strings.Clone(s), 1)}, api.ErrThere, api.ErrThere)
		b.look()
		// Another number, and what is but nearly the string, isn't there.
		tells(t, "Insert of another one", []api.Errno{b.trie.Insert(s, 0), b.trie.Insert(s, 2), b.trie.Insert(s+"\xFE", 1)}, api.OK, api.OK, api.OK)
		tells(t, "Insert", []api.Errno{b.trie.Insert(s, 0), b.trie.Insert(s, 1), b.trie.Insert(s, 2), b.trie.Insert(s+"\xFE", 1)}, 72, 72, 72, 72)
	}
}

func TestP15_1EraseError(t *testing.T) {
	b := filled(t, "cart", "cat", "dog")
	for _, s := range around("cart", "cat", "dog") {
		for _, id := range oddIds() {
			if slices.Contains(b.means, entry{s, id}) {
				continue
			}
			if e := b.trie.Erase(s, id); e != api.ErrNoRow {
				t.Errorf("Erase(%q, %d) tells %d", s, id, e)
			}
		}
		b.look()
	}
	// Where strings part, where none ends, there is nothing to erase.
	tells(t, "Erase", []api.Errno{b.trie.Erase("ca", 1), b.trie.Erase("", 1), b.trie.Erase("car", 1), b.trie.Erase("carts", 1), b.trie.Erase("d", 1), b.trie.Erase("cat", 0)}, 71, 71, 71, 71, 71, 71)
	b.look()
	tells(t, "Erase of one twice", []api.Errno{b.trie.Erase("cat", 1), b.trie.Erase("cat", 1), b.trie.Insert("cat", 1)}, api.OK, api.ErrNoRow, api.OK)
	b.look()
}

// Strings are of any length; those past a value's are no values, and stand all the same.
func TestP15_1LongStrings(t *testing.T) {
	for _, n := range []int{api.MaxStr - 1, api.MaxStr, api.MaxStr + 1, 1 << 8, 1<<8 + 1, 1 << 16, 1<<16 + 1} {
		x := strings.Repeat("x", n)
		b := begin(t, x)
		for _, s := range []string{x, x + "x", x[1:], x[1:] + "y", "y" + x, x[:n/2], x[:n/2] + "y" + x} {
			b.insert(s, 1)
		}
		for _, s := range []string{x[:n/2], x, x[1:], x + "x", "y" + x, x[:n/2] + "y" + x, x[1:] + "y"} {
			b.erase(s, 1)
		}
	}
}

// A string for each length: the nodes stand one below the other.
func TestP15_1DeepOnes(t *testing.T) {
	const n = 2000
	long := strings.Repeat("\x00", n)
	up, down := make([]int, n), make([]int, n)
	for i := range n {
		up[i], down[i] = i, n-1-i
	}
	for _, order := range [][]int{up, down, rand.New(rand.NewSource(1)).Perm(n)} {
		x := trie.New()
		for k, i := range order {
			if e := x.Insert(long[:i], int64(i)); e != api.OK || x.Nodes() > 2*(k+1)+1 {
				t.Fatalf("Insert of %d bytes tells %d, Nodes %d", i, e, x.Nodes())
			}
		}
		for i, e := range x.All() {
			if e.Id != int64(i) || len(e.Key[0].Str) != i {
				t.Fatalf("entry %d has %d bytes, the Id %d", i, len(e.Key[0].Str), e.Id)
			}
		}
		if got, ok := x.Longest(long + "x"); len(got) != n-1 || !ok || x.Nodes() != n || len(x.Prefix(long[:n/2])) != n/2 {
			t.Errorf("Longest tells %d bytes, Nodes %d, Prefix %d entries", len(got), x.Nodes(), len(x.Prefix(long[:n/2])))
		}
		for k, i := range order {
			if e := x.Erase(long[:i], int64(i)); e != api.OK || x.Len() != n-k-1 || x.Nodes() > 2*(n-k-1)+1 {
				t.Fatalf("Erase of %d bytes tells %d, Len %d, Nodes %d", i, e, x.Len(), x.Nodes())
			}
		}
	}
}

// Nodes behind each step, by the test's own word: what comes and goes, up to the last entry's going.
func TestP15_2Nodes(t *testing.T) {
	b := begin(t, "cart", "cat", "dog")
	for _, c := range []struct {
		step  func(s string, id int64)
		s     string
		id    int64
		nodes int
	}{
		{b.insert, "cart", 1, 2}, // a root and the string
		{b.insert, "cart", 2, 2}, // another number needs none
		{b.insert, "cart", 2, 2}, // nor does an error
		{b.insert, "cat", 1, 4},  // the string, and where the two part
		{b.insert, "ca", 1, 4},   // where they part, which is there
		{b.insert, "dog", 1, 5},
		{b.insert, "", 1, 5}, // the root, which is there
		{b.insert, "c", 1, 6},
		{b.erase, "cow", 1, 6},
		{b.erase, "ca", 1, 6}, // two part there yet
		{b.erase, "cart", 1, 6},
		{b.erase, "cart", 2, 4}, // and now no more
		{b.erase, "c", 1, 3},    // one is below it, which takes its place
		{b.erase, "", 1, 3},     // the root stays
		{b.erase, "dog", 1, 2},
		{b.erase, "cat", 2, 2},
		{b.erase, "cat", 1, 1},
		{b.erase, "cat", 1, 1},
	} {
		c.step(c.s, c.id)
		if got := b.trie.Nodes(); got != c.nodes || got > 2*len(b.means.strings())+1 {
			b.fail("Nodes tells %d, wanted %d", got, c.nodes)
		}
	}
}

// As many nodes as there can be: each string parts from another one.
func TestP15_2MostNodes(t *testing.T) {
	const n = 512
	name := func(i int) string { return fmt.Sprintf("x%09b", i) }
	x := trie.New()
	r := rand.New(rand.NewSource(1))
	for k, i := range r.Perm(n) {
		x.Insert(name(i), 1)
		if x.Nodes() > 2*(k+1)+1 {
			t.Fatalf("Nodes tells %d with %d strings", x.Nodes(), k+1)
		}
	}
	if x.Nodes() != 2*n {
		t.Errorf("Nodes tells %d, wanted %d", x.Nodes(), 2*n)
	}
	for k, i := range r.Perm(n) {
		x.Erase(name(i), 1)
		if x.Nodes() > 2*(n-k-1)+1 {
			t.Fatalf("Nodes tells %d with %d strings", x.Nodes(), n-k-1)
		}
	}
}

// Strings are counted once, however many numbers stand with each.
func TestP15_2ManyNumbers(t *testing.T) {
	x := trie.New()
	for id := range int64(1000) {
		for _, s := range []string{"cat", "car", "cart"} {
			x.Insert(s, id)
		}
		if x.Nodes() > 7 {
			t.Fatalf("Nodes tells %d", x.Nodes())
		}
	}
	if x.Len() != 3000 {
		t.Errorf("Len tells %d", x.Len())
	}
}

func TestP15_3EachOnceInOrder(t *testing.T) {
	for seed := range int64(4) {
		r := rand.New(rand.NewSource(seed))
		x := trie.New()
		want := map[entry]bool{}
		for range 3000 {
			s := make([]byte, r.Intn(6))
			for i := range s {
				s[i] = []byte{0, 1, 'a', 0x7F, 0x80, 0xFF}[r.Intn(6)]
			}
			e := entry{string(s), r.Int63n(5) - 2}
			x.Insert(e.s, e.id)
			want[e] = true
		}
		all := x.All()
		for i, e := range all {
			got := entry{e.Key[0].Str, e.Id}
			if !want[got] {
				t.Fatalf("All tells %v, which isn't there or was told", got)
			}
			delete(want, got)
			if i > 0 && byString(entry{all[i-1].Key[0].Str, all[i-1].Id}, got) >= 0 {
				t.Fatalf("All tells %v behind %v", got, all[i-1])
			}
		}
		if len(want) > 0 || x.Len() != len(all) {
			t.Fatalf("All leaves out %d entries, Len tells %d of %d", len(want), x.Len(), len(all))
		}
		if !foundByFirstBytes(x, all) {
			t.Fatal("the Prefixes of one byte aren't All")
		}
	}
}

// foundByFirstBytes looks whether the empty string's numbers and the Prefixes of each byte are all.
func foundByFirstBytes(x *trie.Trie, all []api.Entry) bool {
	told := len(x.Find(""))
	for b := range 256 {
		for _, e := range x.Prefix(string([]byte{byte(b)})) {
			if told >= len(all) || e.Id != all[told].Id || !sample.RowsAlike(e.Key, all[told].Key) {
				return false
			}
			told++
		}
	}
	return told == len(all)
}

// All ways to take five steps, with five strings that part and begin alike.
func TestAllShortWays(t *testing.T) {
	l := []string{"", "a", "abc", "abd", "b"}
	var all []func(b *both)
	for _, s := range l {
		all = append(all, func(b *both) { b.insert(s, 1) }, func(b *both) { b.erase(s, 1) })
	}
	looks := slices.Concat(l, []string{"ab", "abcd", "c"})
	for way := range len(all) * len(all) * len(all) * len(all) * len(all) {
		b := &both{t: t, trie: trie.New(), strings: looks}
		for range 5 {
			all[way%len(all)](b)
			way /= len(all)
		}
	}
}

// All sets of these strings, put in and taken out in several orders.
func TestAllSets(t *testing.T) {
	l := []string{"", "x", "xa", "xaa", "xab", "xabb", "xb", "xbab", "y"}
	looks := slices.Concat(l, []string{"xba", "xba\x00", "xc", "z"})
	r := rand.New(rand.NewSource(1))
	for set := range 1 << len(l) {
		b := &both{t: t, trie: trie.New(), strings: looks}
		var in []string
		for i, s := range l {
			if set>>i&1 == 1 {
				in = append(in, s)
			}
		}
		for range 3 {
			for _, i := range r.Perm(len(in)) {
				b.insert(in[i], 1)
			}
			for _, i := range r.Perm(len(in)) {
				b.erase(in[i], 1)
			}
		}
	}
}

// chance tells a string of few signs, or an odd one.
func chance(r *rand.Rand) string {
	if r.Intn(5) == 0 {
		return odd()[r.Intn(len(odd()))]
	}
	s := make([]byte, r.Intn(8))
	for i := range s {
		s[i] = []byte{0, 'a', 'b', 0xFF}[r.Intn(4)]
	}
	return string(s)
}

func TestLongWays(t *testing.T) {
	for seed := range int64(40) {
		r := rand.New(rand.NewSource(seed))
		var l []string
		for range 1 + r.Intn(15) {
			l = append(l, chance(r))
		}
		ids := oddIds()[:1+r.Intn(len(oddIds()))]
		erases := 1 + r.Intn(3)
		b := begin(t, l...)
		for range 200 {
			s, id := l[r.Intn(len(l))], ids[r.Intn(len(ids))]
			if n := len(b.means); n > 0 && r.Intn(3) == 0 {
				s, id = b.means[r.Intn(n)].s, b.means[r.Intn(n)].id
			}
			if r.Intn(4) < erases {
				b.erase(s, id)
			} else {
				b.insert(s, id)
			}
		}
		for len(b.means) > 0 {
			e := b.means[r.Intn(len(b.means))]
			b.erase(e.s, e.id)
		}
	}
}

// What a trie tells hangs on what is in it, not on the way there.
func TestTheWayDoesNotMatter(t *testing.T) {
	l := odd()
	for seed := range int64(10) {
		r := rand.New(rand.NewSource(seed))
		a, b := trie.New(), trie.New()
		for _, i := range r.Perm(len(l)) {
			a.Insert(l[i], int64(i))
		}
		for _, i := range r.Perm(len(l)) {
			b.Insert(l[i], int64(i))
			b.Insert(l[len(l)-1-i]+"!", 0)
		}
		for _, s := range l {
			b.Erase(s+"!", 0)
		}
		same := slices.EqualFunc(a.All(), b.All(), func(a, b api.Entry) bool { return a.Id == b.Id && sample.RowsAlike(a.Key, b.Key) })
		if !same || a.Len() != b.Len() || a.Nodes() != b.Nodes() {
			t.Fatalf("All tells %v and %v, Nodes %d and %d", a.All(), b.All(), a.Nodes(), b.Nodes())
		}
	}
}

func TestEachTrieIsItsOwn(t *testing.T) {
	a, b := begin(t, "a", "ab"), begin(t, "a", "ab")
	for _, s := range []string{"ab", "", "a", "abc"} {
		a.insert(s, 1)
		b.insert(s, 2)
		a.insert(s, 2)
		b.look()
		a.look()
	}
	a.erase("ab", 2)
	b.look()
	b.erase("a", 2)
	a.look()
	begin(t, "a", "ab")
}

// scribble writes into all of l, and into the room behind it.
func scribble[T any](l []T, v T) {
	l = l[:cap(l)]
	for i := range l {
		l[i] = v
	}
}

func TestWhatIsToldMayBeWritten(t *testing.T) {
	b := filled(t, "", "cat", "car", "cart", "dog")
	for _, id := range []int64{5, 3, 4} {
		b.insert("car", id)
		b.insert("", id)
	}
	kept, below, found := b.trie.All(), b.trie.Prefix("car"), b.trie.Find("car")
	for _, s := range b.strings {
		scribble(b.trie.Find(s), -9)
		b.look()
		l := b.trie.Prefix(s)
		for _, e := range l {
			scribble(e.Key, sample.Int(-9))
		}
		scribble(l, api.Entry{Id: -9})
		b.look()
	}
	all := b.trie.All()
	for _, e := range all {
		scribble(e.Key, sample.Str("written"))
	}
	scribble(all, api.Entry{Key: []api.Value{sample.Int(1)}, Id: -9})
	b.look()
	if !are(kept, b.means) || !are(below, b.means.prefix("car")) || !slices.Equal(found, b.means.find("car")) {
		t.Error("an earlier answer is touched by what is done with a later one")
	}
}

// What was told stays as it was, whatever comes of the entries.
func TestWhatWasToldStays(t *testing.T) {
	b := filled(t, "cat", "car", "cart")
	for _, id := range []int64{5, 3, 4} {
		b.insert("car", id)
	}
	all, below, found := b.trie.All(), b.trie.Prefix("ca"), b.trie.Find("car")
	longest, _ := b.trie.Longest("carton")
	want := b.means
	b.erase("car", 3)
	b.insert("car", 2)
	b.erase("cart", 1)
	b.insert("cab", 1)
	b.insert("c", 1)
	b.erase("cat", 1)
	if !are(all, want) || !are(below, want) || !slices.Equal(found, []int64{1, 3, 4, 5}) || longest != "cart" {
		t.Errorf("what was told is %v, %v, %v and %q", all, below, found, longest)
	}
}

// overlap tells whether two lists share any room, spare room included.
func overlap[T any](a, b []T) bool {
	if cap(a) == 0 || cap(b) == 0 {
		return false
	}
	size := unsafe.Sizeof(a[:1][0])
	a1, b1 := uintptr(unsafe.Pointer(unsafe.SliceData(a))), uintptr(unsafe.Pointer(unsafe.SliceData(b)))
	return a1 < b1+uintptr(cap(b))*size && b1 < a1+uintptr(cap(a))*size
}

// apart looks whether no two of the lists share any room.
func apart[T any](t *testing.T, lists [][]T) {
	t.Helper()
	for i, a := range lists {
		for j := range i {
			if overlap(a, lists[j]) {
				t.Errorf("lists %d and %d share room", j, i)
			}
		}
	}
}

func TestNoRoomIsShared(t *testing.T) {
	x := trie.New()
	for id := range int64(20) {
		x.Insert("", id)
		x.Insert("car", id)
		x.Insert("cat", id)
	}
	var keys [][]api.Value
	for _, e := range slices.Concat(x.All(), x.All(), x.Prefix("car"), x.Prefix("c")) {
		keys = append(keys, e.Key)
	}
	apart(t, keys)
	apart(t, [][]api.Entry{x.All(), x.All(), x.Prefix(""), x.Prefix("c"), x.Prefix("car"), x.Prefix("car")})
	apart(t, [][]int64{x.Find("car"), x.Find("car"), x.Find("cat"), x.Find(""), x.Find("")})
}

// within tells whether s lies in the memory of text.
func within(s, text string) bool {
	if s == "" {
		return false
	}
	at, from := uintptr(unsafe.Pointer(unsafe.StringData(s))), uintptr(unsafe.Pointer(unsafe.StringData(text)))
	return at >= from && at < from+uintptr(len(text))
}

// A short string that is a piece of a long one doesn't keep all of it, nor does a node the label of one that is gone.
func TestNoTextIsHeldOnTo(t *testing.T) {
	text := strings.Repeat("long", 1000)
	x := trie.New()
	for _, size := range []int{4000, 400, 40, 4, 1} {
		_, before := x.Walked()
		x.Insert(text[:size], 1)
		_, labels := x.Walked()
		for _, label := range labels {
			if within(label, text) {
				t.Errorf("a node has a piece of the text that was handed in")
			}
			for _, other := range before {
				if len(label) < len(other) && within(label, other) {
					t.Errorf("a node has a piece of the label of an earlier one")
				}
			}
		}
	}
	for _, e := range x.Prefix(text[:4]) {
		if within(e.Key[0].Str, text) {
			t.Errorf("Prefix tells a piece of the text that was handed in")
		}
	}
	if got, ok := x.Longest(text); got != text || !ok || within(got, text) {
		t.Errorf("Longest tells a piece of the text that was handed in")
	}
}
