package lang

import (
	"slices"

	"sextant/api"
)

func sameShared(a, b api.Shared) bool { return a.Name == b.Name && a.Size == b.Size }

func sameStmts(a, b []api.Stmt) bool { return slices.EqualFunc(a, b, sameStmt) }

func sameStmt(a, b api.Stmt) bool {
	return a.Kind == b.Kind && a.Let == b.Let && a.Name == b.Name && a.Mode == b.Mode &&
		a.Place.Name == b.Place.Name && sameExprs(a.Place.Index, b.Place.Index) &&
		sameExprs(a.Args, b.Args) && sameStmts(a.Body, b.Body) && sameStmts(a.Else, b.Else)
}

func sameExprs(a, b []api.Expr) bool { return slices.EqualFunc(a, b, sameExpr) }

func sameExpr(a, b api.Expr) bool {
	return a.Op == b.Op && a.Val == b.Val && a.Name == b.Name && sameExprs(a.Args, b.Args)
}
