package tree

import (
	"bytes"
	"slices"

	"grommet/api"
)

// Same tells whether two modules are the same: P5.2.
func Same(a, b api.Module) bool {
	return a.Start == b.Start &&
		slices.EqualFunc(a.Types, b.Types, sameType) &&
		slices.Equal(a.Imports, b.Imports) &&
		slices.EqualFunc(a.Funcs, b.Funcs, sameFunc) &&
		slices.Equal(a.Tables, b.Tables) &&
		slices.Equal(a.Mems, b.Mems) &&
		slices.EqualFunc(a.Globals, b.Globals, sameGlobal) &&
		slices.Equal(a.Exports, b.Exports) &&
		slices.EqualFunc(a.Elems, b.Elems, sameElem) &&
		slices.EqualFunc(a.Datas, b.Datas, sameData) &&
		slices.EqualFunc(a.Customs, b.Customs, sameCustom)
}

func sameType(a, b api.FuncType) bool {
	return slices.Equal(a.Params, b.Params) && slices.Equal(a.Results, b.Results)
}

func sameFunc(a, b api.Func) bool {
	return a.Type == b.Type && slices.Equal(a.Locals, b.Locals) && sameCode(a.Body, b.Body)
}

func sameGlobal(a, b api.Global) bool {
	return a.Type == b.Type && a.Mut == b.Mut && sameIns(a.Init, b.Init)
}

func sameElem(a, b api.Elem) bool {
	return sameIns(a.Offset, b.Offset) && slices.Equal(a.Funcs, b.Funcs)
}

func sameData(a, b api.Data) bool {
	return sameIns(a.Offset, b.Offset) && bytes.Equal(a.Bytes, b.Bytes)
}

func sameCustom(a, b api.Custom) bool {
	return a.Name == b.Name && bytes.Equal(a.Bytes, b.Bytes)
}

func sameCode(a, b []api.Ins) bool { return slices.EqualFunc(a, b, sameIns) }

// sameIns holds all fields against each other, those that don't count, too.
func sameIns(a, b api.Ins) bool {
	return a.Op == b.Op && a.A == b.A && a.B == b.B && a.V == b.V && a.T == b.T && a.HasElse == b.HasElse &&
		slices.Equal(a.L, b.L) && sameCode(a.Body, b.Body) && sameCode(a.Else, b.Else)
}
