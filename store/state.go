package store

import (
	"iter"
	"slices"

	"sphragis/api"
)

// state is rows, their pages, and of which generation the page at each place is.
type state struct {
	list  []api.Row
	pages []api.Saved
	gens  map[uint32]uint32
}

// with is the state of other rows and their pages. A page that stands where none stood is new: it is of generation gen.
func (t *state) with(l []api.Row, pages []api.Saved, gen uint32) state {
	gens := map[uint32]uint32{}
	for _, p := range pages {
		g, was := t.gens[p.Ref.Page]
		if !was {
			g = gen
		}
		gens[p.Ref.Page] = g
	}
	return state{list: l, pages: pages, gens: gens}
}

// has tells whether a page stands at p.
func (t *state) has(p uint32) bool {
	_, is := t.gens[p]
	return is
}

// isOf tells whether a page is of generation gen.
func (t *state) isOf(gen uint32) bool {
	for _, g := range t.gens {
		if g == gen {
			return true
		}
	}
	return false
}

// same tells whether rows and pages are these.
func (t *state) same(l []api.Row, pages []api.Saved) bool {
	return slices.Equal(t.list, l) && slices.Equal(t.pages, pages)
}

// older yields the places of pages of a generation below gen, in the order of the pages.
func (t *state) older(gen uint32) iter.Seq[uint32] {
	return func(yield func(uint32) bool) {
		for _, s := range t.pages {
			if t.gens[s.Ref.Page] < gen && !yield(s.Ref.Page) {
				return
			}
		}
	}
}

// countOlder is how many pages are of a generation below gen.
func (t *state) countOlder(gen uint32) int {
	out := 0
	for range t.older(gen) {
		out++
	}
	return out
}

// without are the pages but for the first n that are of a generation below gen.
func (t *state) without(n int, gen uint32) []api.Saved {
	left := map[uint32]struct{}{}
leaving:
	for p := range t.older(gen) {
		if len(left) == n {
			break leaving
		}
		left[p] = struct{}{}
	}
	return slices.DeleteFunc(slices.Clone(t.pages), func(s api.Saved) bool {
		_, is := left[s.Ref.Page]
		return is
	})
}
