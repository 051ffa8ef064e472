package judge

import "slices"

// set is a set of whatever is compared.
type set[T comparable] struct {
	members []T
}

// alone is the set of one value.
func alone[T comparable](v T) set[T] { return set[T]{members: []T{v}} }

// has tells whether a value is in the set.
func (s *set[T]) has(v T) bool { return slices.Contains(s.members, v) }

// add puts a value into the set. One that is there already isn't kept twice, so that a set grows no further than its values differ.
func (s *set[T]) add(v T) {
	if !s.has(v) {
		s.members = append(s.members, v)
	}
}

// settle leaves a value alone in the set; false: it isn't there, and nothing changes.
func (s *set[T]) settle(v T) bool {
	if !s.has(v) {
		return false
	}
	*s = alone(v)
	return true
}
