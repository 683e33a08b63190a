package seal

import "sync"

const (
	polynomial = 0xedb88320
	byteValues = 256
	byteBits   = 8
)

// sumOf is the sum of texts as if they stood one behind the other: a frame's need not be put together for it. It is worked out by steps alone, so that no answer hangs on what a table holds.
func sumOf(texts ...string) uint32 {
	register := ^uint32(0)
	for _, s := range texts {
		for i := range len(s) {
			register = eightSteps(register ^ uint32(s[i]))
		}
	}
	return ^register
}

// eightSteps shifts a byte out of the register, into which that byte was taken: a bit that goes in then counts as one that falls out.
func eightSteps(register uint32) uint32 {
	for range byteBits {
		fell := register & 1
		register >>= 1
		if fell == 1 {
			register ^= polynomial
		}
	}
	return register
}

// sumTable holds what eight steps make of a register that is a byte; it is filled when a sum is first asked for, by whomever.
type sumTable struct {
	once  sync.Once
	steps [byteValues]uint32
}

var table = sumTable{}

// sum is the same as sumOf by whole bytes: of the register only the lowest eight bits fall out meanwhile, so they alone choose what it is taken against.
func (t *sumTable) sum(s string) uint32 {
	t.once.Do(t.fill)
	register := ^uint32(0)
	for i := range len(s) {
		register = register>>byteBits ^ t.steps[byte(register)^s[i]]
	}
	return ^register
}

func (t *sumTable) fill() {
	for b := range t.steps {
		t.steps[b] = eightSteps(uint32(b))
	}
}
