package vm

import (
	"auspice/api"
	"auspice/code"
	"auspice/value"
)

// machine is code that is run: what its registers and slots hold, all of it Clean, and what it is handed.
type machine struct {
	regs, slots    []api.Value
	inputs, consts []api.Value
}

// deed is what instructions of that Op do, but for InsTell.
func deed(op int) func(m *machine, i api.Ins) {
	switch code.Operands(op) {
	case 1:
		return (*machine).ofOne
	case 2:
		return (*machine).ofTwo
	}
	switch op {
	case api.InsInput:
		return (*machine).input
	case api.InsConst:
		return (*machine).constant
	case api.InsStore:
		return (*machine).store
	case api.InsLoad:
		return (*machine).load
	}
	return (*machine).nothing
}

func (m *machine) ofOne(i api.Ins) {
	write(m.regs, i.Dst, value.Apply(i.Op, []api.Value{read(m.regs, i.A)}))
}

func (m *machine) ofTwo(i api.Ins) {
	write(m.regs, i.Dst, value.Apply(i.Op, []api.Value{read(m.regs, i.A), read(m.regs, i.B)}))
}

func (m *machine) input(i api.Ins) {
	write(m.regs, i.Dst, value.Clean(read(m.inputs, i.A)))
}

func (m *machine) constant(i api.Ins) {
	write(m.regs, i.Dst, value.Clean(read(m.consts, i.A)))
}

func (m *machine) store(i api.Ins) {
	write(m.slots, i.A, read(m.regs, i.B))
}

func (m *machine) load(i api.Ins) {
	write(m.regs, i.Dst, read(m.slots, i.A))
}

func (m *machine) nothing(api.Ins) {}

// read is poison, where nothing stands.
func read(l []api.Value, at int) api.Value {
	if at < 0 || at >= len(l) {
		return api.Value{}
	}
	return l[at]
}

// write loses what it is handed, where nothing stands.
func write(l []api.Value, at int, v api.Value) {
	if at >= 0 && at < len(l) {
		l[at] = v
	}
}
