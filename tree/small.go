package tree

import "grommet/api"

// maxResults is the chapter's own: api has no name for it.
const maxResults = 64

// Small tells whether a module is small: P5.2.
func Small(m api.Module) bool {
	return fewItems(m) &&
		all(m.Types, smallType) &&
		all(m.Imports, smallImport) &&
		all(m.Funcs, smallFunc) &&
		all(m.Globals, smallGlobal) &&
		all(m.Exports, smallExport) &&
		all(m.Elems, smallElem) &&
		all(m.Datas, smallData) &&
		all(m.Customs, smallCustom)
}

func fewItems(m api.Module) bool {
	items := max(len(m.Imports), len(m.Funcs), len(m.Tables), len(m.Mems), len(m.Globals),
		len(m.Exports), len(m.Elems), len(m.Datas), len(m.Customs))
	return len(m.Types) <= api.MaxTypes && items <= api.MaxItems
}

func smallType(t api.FuncType) bool {
	return len(t.Params) <= api.MaxLocals && len(t.Results) <= maxResults
}

func smallImport(x api.Import) bool { return smallName(x.Module) && smallName(x.Name) }

// smallFunc counts the function's own locals alone: its parameters are its type's.
func smallFunc(f api.Func) bool { return len(f.Locals) <= api.MaxLocals && smallCode(f.Body) }

func smallGlobal(g api.Global) bool { return smallIns(g.Init) }

func smallExport(x api.Export) bool { return smallName(x.Name) }

func smallElem(e api.Elem) bool { return len(e.Funcs) <= api.MaxList && smallIns(e.Offset) }

func smallData(d api.Data) bool { return len(d.Bytes) <= api.MaxBytes && smallIns(d.Offset) }

func smallCustom(c api.Custom) bool { return smallName(c.Name) && len(c.Bytes) <= api.MaxBytes }

func smallName(s string) bool { return len(s) <= api.MaxName }

func smallIns(x api.Ins) bool { return smallCode([]api.Ins{x}) }

func smallCode(l []api.Ins) bool {
	count, depth := Count(l)
	return count <= api.MaxIns && depth <= api.MaxDepth && shortLists(l)
}

// shortLists goes wherever Count goes, so that no L is passed over, whoever has it.
func shortLists(l []api.Ins) bool {
	return all(l, func(x api.Ins) bool {
		return len(x.L) <= api.MaxList && shortLists(x.Body) && shortLists(x.Else)
	})
}
