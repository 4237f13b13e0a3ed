package expr

import (
	"grommet/api"
	"grommet/leb"
	"grommet/op"
	"grommet/tree"
)

// Put writes an expression: P6.1.
func Put(l []api.Ins) ([]byte, error) {
	if !tree.May(l) {
		return nil, api.ErrArg
	}
	return append(putList(nil, l), end), nil
}

// putList, like all that follow, is of instructions that may be, and appends to what is written already: nested lists aren't copied level by level.
func putList(b []byte, l []api.Ins) []byte {
	for _, x := range l {
		b = putIns(b, x)
	}
	return b
}

func putIns(b []byte, x api.Ins) []byte {
	o, _ := op.Look(x.Op)
	b = append(b, byte(x.Op))
	switch behind(o) {
	case block:
		return putBlock(b, x)
	case number:
		return putNumber(b, x.A)
	case numberAndZero:
		return append(putNumber(b, x.A), zero)
	case twoNumbers:
		return putNumber(putNumber(b, x.A), x.B)
	case labels:
		return putLabels(b, x.L)
	case onlyZero:
		return append(b, zero)
	case constant:
		return append(b, leb.PutS(signed(x.V, o.Gives))...)
	}
	return b
}

func putBlock(b []byte, x api.Ins) []byte {
	b = putList(append(b, resultByte(x.T)), x.Body)
	if x.HasElse {
		b = putList(append(b, startElse), x.Else)
	}
	return append(b, end)
}

func resultByte(t int) byte {
	switch t {
	case api.I32:
		return result32
	case api.I64:
		return result64
	}
	return noResult
}

// putLabels doesn't count the last one, which is always there.
func putLabels(b []byte, l []int) []byte {
	b = putNumber(b, len(l)-1)
	for _, n := range l {
		b = putNumber(b, n)
	}
	return b
}

func putNumber(b []byte, n int) []byte { return append(b, leb.PutU(uint64(n))...) }

// signed takes a constant's highest bit for its sign, of an I32 that of the lower 32.
func signed(v uint64, t int) int64 {
	if t == api.I32 {
		return int64(int32(v))
	}
	return int64(v)
}
