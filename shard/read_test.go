package shard

import "testing"

// panicOf answers what a call panics with.
func panicOf(call func()) (given any) {
	defer func() { given = recover() }()
	call()
	return nil
}

func TestTakeGivesUpWhereTheBytesEnd(t *testing.T) {
	r := &reader{rest: "abc"}
	if got := r.take(2); got != "ab" || r.rest != "c" {
		t.Errorf("take(2) = %q, and %q is left", got, r.rest)
	}
	if given := panicOf(func() { r.take(2) }); given != (tooShort{}) || r.rest != "c" {
		t.Errorf("take(2) of one byte gives up with %v, and %q is left", given, r.rest)
	}
	if got := r.take(1) + r.take(0); got != "c" || r.rest != "" {
		t.Errorf("the last byte is %q, and %q is left", got, r.rest)
	}
}

func TestUntilEndCatchesBytesThatEndAndNothingElse(t *testing.T) {
	ran := 0
	if given := panicOf(func() {
		untilEnd(func() {
			ran++
			(&reader{}).number(1)
			ran += 10
		})
	}); given != nil || ran != 1 {
		t.Errorf("panics with %v, having run %d", given, ran)
	}
	if given := panicOf(func() { untilEnd(func() { panic("another") }) }); given != "another" {
		t.Errorf("another panic comes out as %v", given)
	}
}
