package alloc

import (
	"slices"

	"auspice/api"
	"auspice/code"
)

// none is a register, a slot or a result that isn't there.
const none = -1

// result is what an instruction of plain code writes: where it is, and at which places it is read yet, the nearest one first.
type result struct {
	reg, slot int
	reads     []int
}

// fitter writes code that does with few registers what plain code does. Results are numbered by the places of the instructions that write them. None is stored twice, and each is loaded at most once for each time that it is read, so that the answer is no longer than four times the plain code.
type fitter struct {
	few     int              // how many registers may be taken
	taken   int              // how many were
	regs    [api.MaxRegs]int // the results that they hold
	slots   []int            // likewise
	results []result
	list    []api.Ins
}

func newFitter(c api.Code, few int) *fitter {
	f := &fitter{few: few, results: make([]result, c.Regs)}
	for reg := range f.regs {
		f.regs[reg] = none
	}
	for at := range f.results {
		f.results[at] = result{reg: none, slot: none}
	}
	for at, i := range c.List {
		for _, r := range code.Reads(i) {
			f.results[r].reads = append(f.results[r].reads, at)
		}
	}
	return f
}

// put writes the instruction of plain code that stands at a place, behind what makes room and brings results for it.
func (f *fitter) put(at int, i api.Ins) {
	reads := code.Reads(i)
	for _, r := range reads {
		f.bring(r)
	}
	switch len(reads) {
	case 2:
		i.A, i.B = f.results[i.A].reg, f.results[i.B].reg
	case 1:
		i.A = f.results[i.A].reg
	}
	// from here on a register whose result isn't read behind this place may be written by it
	for _, r := range reads {
		f.results[r].reads = f.results[r].reads[1:]
	}
	if code.Writes(i.Op) {
		i.Dst = f.room(at)
	}
	f.list = append(f.list, i)
}

// bring sees to it that a result is in a register.
func (f *fitter) bring(r int) {
	if f.results[r].reg == none {
		reg := f.room(r) // ahead of the load, since it may write too
		f.list = append(f.list, api.Ins{Op: api.InsLoad, Dst: reg, A: f.results[r].slot})
	}
}

// room is a register that is a result's from now on. What it had, if it is read yet, waits in a slot.
func (f *fitter) room(r int) int {
	reg := f.freed()
	if had := f.regs[reg]; had != none {
		f.save(had)
		f.results[had].reg = none
	}
	f.regs[reg], f.results[r].reg = r, reg
	f.taken = max(f.taken, reg+1)
	return reg
}

// freed is a register whose result isn't read any more; without one that whose result is read again last. That is never one that was brought for the instruction at hand, as long as this one is to be read yet: it is read at once, and there are two registers at least.
func (f *fitter) freed() int {
	freed, last := none, none
search:
	for reg, r := range f.regs[:f.few] {
		switch {
		case f.isOver(r):
			freed = reg
			break search
		case f.results[r].reads[0] > last:
			freed, last = reg, f.results[r].reads[0]
		}
	}
	return freed
}

// isOver tells whether there is no such result, or it isn't read any more.
func (f *fitter) isOver(r int) bool {
	return r == none || len(f.results[r].reads) == 0
}

// save stores a result that is in a register, unless it is over or in a slot already.
func (f *fitter) save(r int) {
	if f.isOver(r) || f.results[r].slot != none {
		return
	}
	slot := slices.IndexFunc(f.slots, f.isOver)
	if slot < 0 {
		slot = len(f.slots)
		f.slots = append(f.slots, r)
	}
	f.slots[slot], f.results[r].slot = r, slot
	f.list = append(f.list, api.Ins{Op: api.InsStore, A: slot, B: f.results[r].reg})
}
