package lang

import (
	"sextant/api"
	"sextant/lex"
)

func wholeStmts(list []api.Stmt) bool {
	for _, s := range list {
		if !wholeStmt(s) {
			return false
		}
	}
	return true
}

func wholeStmt(s api.Stmt) bool {
	if s.Kind < api.SSet || s.Kind > api.SWhile {
		return false
	}
	f := forms[s.Kind]
	return wholeName(s, f) && wholePlace(s.Place, f) && wholeMode(s.Mode, f) &&
		len(s.Args) == f.args && wholeExprs(s.Args) &&
		(f.blocks > 0 || len(s.Body) == 0) && wholeStmts(s.Body) &&
		(f.blocks > 1 || len(s.Else) == 0) && wholeStmts(s.Else)
}

func wholeName(s api.Stmt, f form) bool {
	if f.sets {
		return lex.IsName(s.Name)
	}
	return s.Name == "" && !s.Let
}

func wholePlace(at api.Place, f form) bool {
	if f.place {
		return lex.IsName(at.Name) && len(at.Index) <= 1 && wholeExprs(at.Index)
	}
	return at.Name == "" && len(at.Index) == 0
}

func wholeMode(mode int, f form) bool {
	if f.mode {
		return api.Rlx <= mode && mode <= api.SC
	}
	return mode == 0
}

func wholeExprs(list []api.Expr) bool {
	for _, e := range list {
		if !wholeExpr(e) {
			return false
		}
	}
	return true
}

func wholeExpr(e api.Expr) bool {
	named := e.Name == ""
	if e.Op == api.OpLocal {
		named = lex.IsName(e.Name)
	}
	return named && (e.Val == 0 || e.Op == api.OpNum) && len(e.Args) == operands(e.Op) && wholeExprs(e.Args)
}
