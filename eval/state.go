package eval

import (
	"slices"

	"fulling/api"
)

// state is never changed after it has been made, because several others may be derived from it.
type state struct {
	arrays [][]int64
	output *outputs
	fuel   int
	// kind is api.Trapped (with the code) or api.OutOfFuel if the state has stopped, otherwise 0.
	kind, code int
	// callResult is that of the last call of the activation.
	callResult int64
}

// outputs is a list from the last word to the first, so that states can share what they have in common.
type outputs struct {
	word   int64
	before *outputs
}

// newState returns the state in which a run starts.
func newState(arrays []api.Array, fuel int) *state {
	s := &state{fuel: fuel}
	for _, a := range arrays {
		s.arrays = append(s.arrays, make([]int64, a.Len))
	}
	return s
}

func (s *state) hasStopped() bool {
	return s.kind != 0
}

func (s *state) tick() *state {
	next := *s
	if s.fuel == 0 {
		next.kind = api.OutOfFuel
	} else {
		next.fuel--
	}
	return &next
}

func (s *state) trap(code int64) *state {
	next := *s
	next.kind, next.code = api.Trapped, int(code)
	return &next
}

func (s *state) withOutput(word int64) *state {
	next := *s
	next.output = &outputs{word: word, before: s.output}
	return &next
}

func (s *state) withCallResult(value int64) *state {
	next := *s
	next.callResult = value
	return &next
}

func (s *state) hasCell(array, at int64) bool {
	return at >= 0 && at < int64(len(s.arrays[array]))
}

func (s *state) load(array, at int64) int64 {
	if !s.hasCell(array, at) {
		return 0
	}
	return s.arrays[array][at]
}

func (s *state) store(array, at, cell int64) *state {
	if !s.hasCell(array, at) {
		return s
	}
	next := *s
	next.arrays = slices.Clone(s.arrays)
	next.arrays[array] = slices.Clone(s.arrays[array])
	next.arrays[array][at] = cell
	return &next
}

// outcome returns that of a run which ends in this state; the value counts only if the state has not stopped.
func (s *state) outcome(value int64) api.Outcome {
	o := api.Outcome{Kind: s.kind, Code: s.code, Out: s.output.words()}
	if !s.hasStopped() {
		o.Kind, o.Value = api.Returned, value
	}
	return o
}

// words returns the output from the first word to the last.
func (last *outputs) words() []int64 {
	var words []int64
	for o := last; o != nil; o = o.before {
		words = append(words, o.word)
	}
	slices.Reverse(words)
	return words
}
