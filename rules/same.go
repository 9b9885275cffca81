package rules

import (
	"slices"

	"levy/api"
)

func samePack(a, b api.Pack) bool {
	return a.Name == b.Name && a.Year == b.Year &&
		slices.EqualFunc(a.Options, b.Options, sameOptions) &&
		slices.EqualFunc(a.Tables, b.Tables, sameTable) &&
		slices.Equal(a.Groups, b.Groups) &&
		slices.EqualFunc(a.Lines, b.Lines, sameLine) &&
		slices.EqualFunc(a.Checks, b.Checks, sameCheck)
}

func sameOptions(a, b api.Options) bool {
	return a.Name == b.Name && slices.Equal(a.Names, b.Names)
}

func sameTable(a, b api.Table) bool {
	return a.Name == b.Name && slices.Equal(a.Bands, b.Bands)
}

func sameLine(a, b api.Line) bool {
	return a.Name == b.Name && a.Input == b.Input && a.Must == b.Must &&
		a.Type == b.Type && a.Options == b.Options && a.Group == b.Group &&
		slices.EqualFunc(a.Clauses, b.Clauses, sameClause)
}

func sameClause(a, b api.Clause) bool {
	return a.Priority == b.Priority && a.Guarded == b.Guarded && sameExpr(a.Guard, b.Guard) && sameExpr(a.Body, b.Body)
}

func sameCheck(a, b api.Check) bool {
	return a.Name == b.Name && a.Hard == b.Hard && a.Group == b.Group && a.Text == b.Text && sameExpr(a.When, b.When)
}

func sameExpr(a, b api.Expr) bool {
	return a.Op == b.Op && a.Num == b.Num && a.Den == b.Den && a.Mode == b.Mode && slices.EqualFunc(a.Args, b.Args, sameExpr)
}
