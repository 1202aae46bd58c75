package rxprog

import "weir/api"

// maxRune: of programs' runes, unlike those of texts, none is left out below it.
const maxRune = 0x10FFFF

// isPlace: is there an instruction number i, of so many?
func isPlace(i, insts int) bool { return 0 <= i && i < insts }

// isSound: whether an instruction is as its Op asks, in a program of so many instructions and groups.
func isSound(i api.Inst, insts, groups int) bool {
	return api.OpMatch <= i.Op && i.Op <= api.OpFail && hasSoundPlaces(i, insts) && hasSoundArg(i, groups) && hasSoundRanges(i)
}

func hasSoundPlaces(i api.Inst, insts int) bool {
	switch i.Op {
	case api.OpMatch, api.OpFail:
		return i.Out == 0 && i.Alt == 0
	case api.OpSplit:
		return isPlace(i.Out, insts) && isPlace(i.Alt, insts)
	}
	return isPlace(i.Out, insts) && i.Alt == 0
}

// hasSoundArg: slots 0 and 1 are those of the whole text, which no instruction notes.
func hasSoundArg(i api.Inst, groups int) bool {
	switch i.Op {
	case api.OpSave:
		return 2 <= i.Arg && i.Arg <= 2*groups+1
	case api.OpWord:
		return i.Arg == 0 || i.Arg == 1
	}
	return i.Arg == 0
}

func hasSoundRanges(i api.Inst) bool {
	if i.Op != api.OpRune {
		return len(i.Ranges) == 0
	}
	least := rune(0) // what the next Lo must not be below
	for _, r := range i.Ranges {
		if r.Lo < least || r.Lo > r.Hi || r.Hi > maxRune {
			return false
		}
		least = r.Hi + 1
	}
	return len(i.Ranges) > 0
}
