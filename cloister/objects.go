package cloister

import "cloister/api"

// object is what may lie in a slot.
type object interface {
	place() int
	kindOf() int
	labelOf() int
}

// base is what objects of all kinds have; it stays as long as the object is there.
type base struct {
	slot, kind, label int
}

func (b base) place() int   { return b.slot }
func (b base) kindOf() int  { return b.kind }
func (b base) labelOf() int { return b.label }

type segment struct {
	base
	words [api.Words]int
}

type thread struct {
	base
	owns  int
	awake bool
}

type container struct {
	base
	slots, quanta span
}

// span is a range from its first number to the one before end; empty where both are the same.
type span struct {
	first, end int
}

func (s span) has(n int) bool { return s.first <= n && n < s.end }
func (s span) size() int      { return s.end - s.first }
