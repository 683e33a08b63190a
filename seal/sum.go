package seal

import "sync"

const (
	polynomial = 0xedb88320
	byteValues = 256
)

// sumTable holds what eight steps make of a register that is a byte; it is filled when a sum is first asked for, by whomever.
type sumTable struct {
	once  sync.Once
	steps [byteValues]uint32
}

var table = sumTable{}

// sumOf is the sum of texts as if they stood one behind the other: a frame's need not be put together for it.
func sumOf(texts ...string) uint32 {
	table.once.Do(table.fill)
	register := ^uint32(0)
	for _, s := range texts {
		register = table.feed(register, s)
	}
	return ^register
}

func (t *sumTable) fill() {
	for b := range t.steps {
		t.steps[b] = eightSteps(uint32(b))
	}
}

// feed goes by whole bytes: of the register only the lowest eight bits fall out meanwhile, so they alone choose what it is taken against.
func (t *sumTable) feed(register uint32, s string) uint32 {
	for i := range len(s) {
		register = register>>8 ^ t.steps[byte(register)^s[i]]
	}
	return register
}

func eightSteps(register uint32) uint32 {
	for range 8 {
		fell := register & 1
		register >>= 1
		if fell == 1 {
			register ^= polynomial
		}
	}
	return register
}
