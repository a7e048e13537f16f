// Package list: what is asked of lists of any kind.
package list

// Find tells the first element that fits, and whether there is one.
func Find[E any](l []E, fits func(E) bool) (E, bool) {
	for _, e := range l {
		if fits(e) {
			return e, true
		}
	}
	var none E
	return none, false
}

// Every tells whether all elements fit.
func Every[E any](l []E, fits func(E) bool) bool {
	for _, e := range l {
		if !fits(e) {
			return false
		}
	}
	return true
}

// Rises tells whether each element is greater than the one ahead of it.
func Rises[E any](l []E, compare func(a, b E) int) bool {
	for i := 1; i < len(l); i++ {
		if compare(l[i-1], l[i]) >= 0 {
			return false
		}
	}
	return true
}

// Copy makes a new list of the same elements (nil, if there are none).
func Copy[E any](l []E) []E { return append([]E(nil), l...) }

// Map makes a new list of what each element becomes (nil, if there are none).
func Map[E, F any](l []E, become func(E) F) []F {
	var made []F
	for _, e := range l {
		made = append(made, become(e))
	}
	return made
}
