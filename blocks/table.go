package blocks

import (
	"slices"

	"sluice/api"
)

// fixed has the pairs whose numbers, from 1 on, are the same for ever.
var fixed = [...]api.Header{
	{Name: "path", Value: "/"},
	{Name: "path", Value: "/index"},
	{Name: "verb", Value: "get"},
	{Name: "verb", Value: "put"},
	{Name: "kind", Value: "text"},
	{Name: "kind", Value: "bytes"},
	{Name: "host", Value: ""},
	{Name: "length", Value: "0"},
}

// table holds the pairs that were added, the oldest first.
type table struct {
	limit int
	size  int // what the pairs take up together
	pairs []api.Header
}

func (t *table) add(h api.Header) {
	n := room(h)
	t.shrink(t.limit - n)
	if n <= t.limit {
		t.pairs = append(t.pairs, h)
		t.size += n
	}
}

func (t *table) resize(limit int) {
	t.limit = limit
	t.shrink(limit)
}

// shrink lets the oldest pairs go till the rest takes up no more than most. That may be below 0: then all go.
func (t *table) shrink(most int) {
	gone := 0
	for t.size > most && gone < len(t.pairs) {
		t.size -= room(t.pairs[gone])
		gone++
	}
	t.pairs = slices.Delete(t.pairs, 0, gone)
}

// highest is the highest number that a pair has.
func (t *table) highest() int { return len(fixed) + len(t.pairs) }

// pair tells the pair of a number, and gives up by panic if there is none.
func (t *table) pair(number int) api.Header {
	if number < 1 || number > t.highest() {
		panic(api.FaultHeader)
	}
	if number <= len(fixed) {
		return fixed[number-1]
	}
	return t.pairs[t.highest()-number]
}

// find tells the least number of a pair that is as asked for, 0 if there is none.
func (t *table) find(fits func(api.Header) bool) int {
	for n := 1; n <= t.highest(); n++ {
		if fits(t.pair(n)) {
			return n
		}
	}
	return 0
}

func (t *table) findPair(h api.Header) int {
	return t.find(func(g api.Header) bool { return g == h })
}

func (t *table) findName(name string) int {
	return t.find(func(g api.Header) bool { return g.Name == name })
}
