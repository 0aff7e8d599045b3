package index

import (
	"slices"

	"rialto/api"
	"rialto/hashidx"
	"rialto/ordidx"
	"rialto/schema"
	"rialto/trie"
)

// shelf is where the entries of one kind of index stand. Find alone asks user code, or refuses a key: behind it
// nothing can fail.
type shelf interface {
	// find tells the place at which key would stand with id (0, where the key alone tells it), and the numbers that
	// stand with an equal key, rising (none, where such are never in the way).
	find(key []api.Value, id int64) (int, []int64, error)
	// put has e stand there; its Id isn't on the shelf.
	put(at int, e api.Entry)
	// take has the entry with id go, and tells where it stood, what it was and whether it was there.
	take(id int64) (int, api.Entry, bool)
	keyOf(id int64) ([]api.Value, bool)
	contents() api.Contents
	size() int
	at(i int) (int64, bool)
	place(id int64) (int, bool)
	nodes() int
}

// keys has the keys by their numbers, for a shelf on which numbers are found by their keys alone.
type keys map[int64][]api.Value

func (k keys) keyOf(id int64) ([]api.Value, bool) {
	key, there := k[id]
	if !there {
		return nil, false
	}
	return schema.Copy(key), true
}

func (k keys) put(e api.Entry) { k[e.Id] = schema.Copy(e.Key) }

func (k keys) take(id int64) (api.Entry, bool) {
	key, there := k[id]
	delete(k, id)
	return api.Entry{Key: key, Id: id}, there
}

// hashed has entries that stand in no order.
type hashed struct {
	hash *hashidx.Index
	keys keys
}

func (h hashed) find(key []api.Value, _ int64) (int, []int64, error) {
	return 0, h.hash.Find(key), nil
}

func (h hashed) put(_ int, e api.Entry) {
	// One that is put back is refused where another with its key came between and was kept.
	if h.hash.Insert(e.Key, e.Id) == api.OK {
		h.keys.put(e)
	}
}

func (h hashed) take(id int64) (int, api.Entry, bool) {
	e, there := h.keys.take(id)
	if there {
		h.hash.Erase(e.Key, id)
	}
	return 0, e, there
}

func (h hashed) keyOf(id int64) ([]api.Value, bool) { return h.keys.keyOf(id) }

func (h hashed) contents() api.Contents { return api.Contents{Entries: h.hash.All()} }

func (h hashed) size() int { return h.hash.Len() }

func (h hashed) at(int) (int64, bool) { return 0, false }

func (h hashed) place(int64) (int, bool) { return 0, false }

func (h hashed) nodes() int { return 0 }

// ordered has entries in the order of a comparator. A number is found by going through all of them: by its key the
// comparator would have to be asked, which may fail.
type ordered struct {
	ord     *ordidx.Index
	byValue bool // in the order of values, which can be asked at any time
}

func (o ordered) find(key []api.Value, id int64) (int, []int64, error) {
	from, to, err := o.ord.Find(key)
	if err != nil {
		return 0, nil, err
	}
	var equal []int64
	for i := from; i < to; i++ {
		other, _ := o.at(i)
		equal = append(equal, other)
	}
	among, _ := slices.BinarySearch(equal, id)
	return from + among, equal, nil
}

func (o ordered) put(at int, e api.Entry) {
	if o.byValue {
		// Its key tells the place even if others came and went since that was told.
		o.ord.Insert(e.Key, e.Id)
		return
	}
	o.ord.InsertAt(at, e)
}

func (o ordered) take(id int64) (int, api.Entry, bool) {
	at, there := o.ord.Place(id)
	if !there {
		return 0, api.Entry{}, false
	}
	e, _ := o.ord.EraseAt(at)
	return at, e, true
}

func (o ordered) keyOf(id int64) ([]api.Value, bool) {
	at, there := o.ord.Place(id)
	if !there {
		return nil, false
	}
	e, _ := o.ord.At(at)
	return e.Key, true
}

func (o ordered) contents() api.Contents { return api.Contents{Entries: o.ord.All()} }

func (o ordered) size() int { return o.ord.Len() }

func (o ordered) at(i int) (int64, bool) {
	e, there := o.ord.At(i)
	return e.Id, there
}

func (o ordered) place(id int64) (int, bool) { return o.ord.Place(id) }

func (o ordered) nodes() int { return o.ord.Writes() }

// list is what sequences and positions have in common.
type list interface {
	Len() int
	At(i int) (int64, bool)
	Place(id int64) (int, bool)
	InsertAt(i int, id int64) api.Errno
	All() []int64
	Writes() int
}

// line has numbers without keys.
type line struct {
	list  list
	erase func(at int, id int64) // the one that stands there
}

func (l line) find([]api.Value, int64) (int, []int64, error) { return l.size(), nil, nil }

func (l line) put(at int, e api.Entry) { l.list.InsertAt(at, e.Id) }

func (l line) take(id int64) (int, api.Entry, bool) {
	at, there := l.place(id)
	if there {
		l.erase(at, id)
	}
	return at, api.Entry{Id: id}, there
}

func (l line) keyOf(id int64) ([]api.Value, bool) {
	_, there := l.place(id)
	return nil, there
}

func (l line) contents() api.Contents { return api.Contents{Ids: l.list.All()} }

func (l line) size() int { return l.list.Len() }

func (l line) at(i int) (int64, bool) { return l.list.At(i) }

func (l line) place(id int64) (int, bool) { return l.list.Place(id) }

func (l line) nodes() int { return l.list.Writes() }

// prefixes has entries in the order of their strings.
type prefixes struct {
	trie  *trie.Trie
	keys  keys
	where string
}

func (p prefixes) find(key []api.Value, _ int64) (int, []int64, error) {
	// It is the extractor that told another thing than a Str: a field that isn't one has no such index.
	if len(key) != 1 || key[0].Kind != api.Str {
		return 0, nil, &api.Fault{Where: p.where, Err: api.ErrValue}
	}
	return 0, nil, nil
}

func (p prefixes) put(_ int, e api.Entry) {
	p.trie.Insert(e.Key[0].Str, e.Id)
	p.keys.put(e)
}

func (p prefixes) take(id int64) (int, api.Entry, bool) {
	e, there := p.keys.take(id)
	if there {
		p.trie.Erase(e.Key[0].Str, id)
	}
	return 0, e, there
}

func (p prefixes) keyOf(id int64) ([]api.Value, bool) { return p.keys.keyOf(id) }

func (p prefixes) contents() api.Contents { return api.Contents{Entries: p.trie.All()} }

func (p prefixes) size() int { return p.trie.Len() }

func (p prefixes) at(i int) (int64, bool) {
	all := p.trie.All()
	if i < 0 || i >= len(all) {
		return 0, false
	}
	return all[i].Id, true
}

func (p prefixes) place(id int64) (int, bool) {
	at := slices.IndexFunc(p.trie.All(), func(e api.Entry) bool { return e.Id == id })
	if at < 0 {
		return 0, false
	}
	return at, true
}

func (p prefixes) nodes() int { return 0 }
