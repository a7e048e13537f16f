// Package table: what is kept by keys, told in the order of the keys.
package table

import (
	"iter"
	"slices"
)

// Table keeps a value for each of its keys.
type Table[K, V any] struct {
	compare func(a, b K) int
	rows    []row[K, V] // by rising keys
}

type row[K, V any] struct {
	key   K
	value V
}

// New makes an empty table, whose keys are in the order of compare.
func New[K, V any](compare func(a, b K) int) *Table[K, V] {
	return &Table[K, V]{compare: compare}
}

// Copy makes a table of the same keys and values, that changes by itself.
func (t *Table[K, V]) Copy() *Table[K, V] {
	return &Table[K, V]{compare: t.compare, rows: slices.Clone(t.rows)}
}

// find tells where a key stands, or would stand, and whether it is there.
func (t *Table[K, V]) find(key K) (int, bool) {
	return slices.BinarySearchFunc(t.rows, key, func(r row[K, V], key K) int {
		return t.compare(r.key, key)
	})
}

// Len tells how many keys there are.
func (t *Table[K, V]) Len() int { return len(t.rows) }

// Has tells whether a key is there.
func (t *Table[K, V]) Has(key K) bool {
	_, there := t.find(key)
	return there
}

// Get tells the value of a key, and whether the key is there.
func (t *Table[K, V]) Get(key K) (V, bool) {
	at, there := t.find(key)
	if !there {
		var none V
		return none, false
	}
	return t.rows[at].value, true
}

// Put keeps a value for a key, in the place of the one that it had.
func (t *Table[K, V]) Put(key K, value V) {
	at, there := t.find(key)
	if there {
		t.rows[at].value = value
		return
	}
	t.rows = slices.Insert(t.rows, at, row[K, V]{key, value})
}

// Take takes a key out, and tells the value that it had, and whether it was there.
func (t *Table[K, V]) Take(key K) (V, bool) {
	at, there := t.find(key)
	if !there {
		var none V
		return none, false
	}
	value := t.rows[at].value
	t.rows = slices.Delete(t.rows, at, at+1)
	return value, true
}

// All goes through the keys and their values, by rising keys.
func (t *Table[K, V]) All() iter.Seq2[K, V] {
	return func(yield func(K, V) bool) {
		for _, r := range t.rows {
			if !yield(r.key, r.value) {
				return
			}
		}
	}
}

// Keys tells the keys in their order, as a new list (nil, if there are none).
func (t *Table[K, V]) Keys() []K {
	var l []K
	for key := range t.All() {
		l = append(l, key)
	}
	return l
}

// Values tells the values in the order of their keys, as a new list (nil, if there are none).
func (t *Table[K, V]) Values() []V {
	var l []V
	for _, value := range t.All() {
		l = append(l, value)
	}
	return l
}
