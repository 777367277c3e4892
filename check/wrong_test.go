package check_test

import (
	"math"
	"slices"
	"testing"

	"amanuensis/api"
)

// deepest is as deep as a term may be nested.
const deepest = 1 << 16

// odd are terms that may not be.
func odd() map[string]api.Term {
	ring := list(con(0))
	ring[0].Args = ring
	deep := zero
	for range deepest {
		deep = lam(deep)
	}
	return map[string]api.Term{
		"kind below 0":       node(-1, 0),
		"least kind":         node(math.MinInt, 0),
		"kind Kinds":         node(api.Kinds, 0),
		"greatest kind":      node(math.MaxInt, 0),
		"kind below":         succ(node(9, 0)),
		"kind in a type":     vec(node(-1, 0)),
		"Sort with a head":   node(api.Sort, 1),
		"Sort of one":        node(api.Sort, 0, nat),
		"Pi with a head":     node(api.Pi, 1, nat, nat),
		"Pi of none":         node(api.Pi, 0),
		"Pi of one":          node(api.Pi, 0, nat),
		"Pi of three":        node(api.Pi, 0, nat, nat, nat),
		"Lam with a head":    node(api.Lam, -1, vari(0)),
		"Lam of none":        node(api.Lam, 0),
		"Lam of two":         node(api.Lam, 0, zero, zero),
		"Var below 0":        vari(-1),
		"least Var":          vari(math.MinInt),
		"Var below 0, below": lam(succ(vari(-1))),
		"Const below 0":      con(-1),
		"Fam below 0":        fam(-1),
		"Meta below 0":       hole(-1),
		"Meta below 0 deep":  lam(hole(0, hole(-1))),
		"4001 nodes":         con(0, times(api.MaxSize, zero)...),
		"many nodes":         con(0, times(100000, zero)...),
		"61 deep":            lams(api.MaxDepth, zero),
		"as deep as can be":  deep,
		"a ring":             ring[0],
	}
}

// holdAll holds what all three tell, where m is checked as a kind, as a type, and as a term of a.
func holdAll(t *testing.T, name string, o over, m, a api.Term, e api.Errno) {
	t.Helper()
	if k, typ, term := o.kind(m), o.typ(m), o.term(m, a); k != e || typ != e || term != e {
		t.Errorf("%s: as a kind %v, a type %v, a term %v, not %v", name, k, typ, term, e)
	}
}

// holdArg holds that all three tell ErrArg, whatever is checked.
func holdArg(t *testing.T, name string, o over) {
	t.Helper()
	for _, m := range list(sort, nat, fun, pi(nat, sort), zero, vari(0), hole(0), lam(vari(0)), con(99), vari(99), hole(99), fam(99)) {
		holdAll(t, name, o, m, nat, api.ErrArg)
		holdAll(t, name, o, m, pi(nat, nat), api.ErrArg)
	}
}

// ErrArg: what may not be, handed in

func TestTermsThatMayNotBe(t *testing.T) {
	o := in(nat).with(unknown(nat))
	for name, x := range odd() {
		for at, y := range map[string]api.Term{
			"alone":          x,
			"in an Arg":      succ(x),
			"behind an Arg":  con(appC, zero, x),
			"behind scope":   con(appC, con(99), x),
			"of no such one": con(99, x),
			"of a Fam":       fam(vecF, x),
			"of a Var":       vari(9, x),
			"of a Meta":      hole(9, x),
			"in a Lam":       lam(x),
			"in a Pi":        pi(x, sort),
			"behind a Pi":    pi(nat, x),
			"behind no type": pi(zero, x),
			"in a wrong one": node(api.Sort, 0, x),
		} {
			holdAll(t, name+", "+at, o, y, nat, api.ErrArg)
			for _, m := range list(zero, self, con(99), vari(9), lam(vari(0)), sort, y) {
				if e := o.term(m, y); e != api.ErrArg {
					t.Errorf("%s, %s: %v against it: %v", name, at, m, e)
				}
			}
		}
	}
}

func TestDeclarationsThatMayNotBe(t *testing.T) {
	for name, x := range odd() {
		for at, y := range map[string]api.Term{"alone": x, "behind a Pi": pi(nat, x), "ahead of a Sort": pi(x, sort), "of a Fam": vec(x)} {
			for _, i := range []int{0, 5, declared} {
				o := in(nat).with(unknown(nat))
				o.sig = slices.Insert(o.sig, i, types(y)...)
				holdArg(t, name+", "+at, o)
			}
			holdArg(t, name+", "+at, over{sig: types(y)})
		}
	}
}

func TestMetasThatMayNotBe(t *testing.T) {
	right := unknown(nat, nat, tm)
	for name, x := range odd() {
		for at, y := range map[string]api.Term{"alone": x, "behind a Pi": pi(nat, x), "of a Fam": vec(x)} {
			for place, m := range map[string]api.MetaDecl{
				"the type":       unknown(y),
				"behind entries": unknown(y, nat, tm),
				"an entry":       unknown(nat, y),
				"the first one":  unknown(nat, y, nat, tm),
				"the last one":   unknown(nat, nat, tm, y),
				"all":            unknown(y, y, y),
				"of a Param":     {T: y, Param: true},
			} {
				name := name + ", " + at + ", " + place
				holdArg(t, name, in(nat).with(m))
				holdArg(t, name+", behind others", in(nat).with(right, right, m))
				holdArg(t, name+", ahead of others", in().with(m, right, right))
			}
		}
	}
}

func TestContextsThatMayNotBe(t *testing.T) {
	for name, x := range odd() {
		for at, y := range map[string]api.Term{"alone": x, "behind a Pi": pi(nat, x), "of a Fam": vec(x)} {
			for place, ctx := range map[string][]api.Term{
				"an entry":         list(y),
				"the first one":    list(y, nat, tm),
				"the last one":     list(nat, tm, y),
				"between":          list(nat, y, tm),
				"the 1000th one":   append(times(mostEntries-1, nat), y),
				"the 1001st one":   append(times(mostEntries, nat), y),
				"the first of all": append(list(y), times(mostEntries-1, nat)...),
			} {
				holdArg(t, name+", "+at+", "+place, in(ctx...).with(unknown(nat)))
			}
		}
	}
}

func TestHowManyEntriesThereAre(t *testing.T) {
	for _, n := range []int{1001, 1002, 1061, 100000} {
		holdArg(t, "too many", in(times(n, nat)...).with(unknown(nat)))
		holdArg(t, "too many, of nothing", over{ctx: times(n, nat)})
	}
	for _, n := range []int{0, 1, 999, mostEntries} {
		o := in(times(n, nat)...).with(unknown(nat))
		holdTerms(t,
			judge{"a constant", o, zero, nat, api.OK},
			judge{"a meta", o, hole(0), nat, api.OK},
			judge{"no such variable", o, vari(n), nat, api.ErrScope},
			// What nodes bind is no entry that is handed in: there may be more than 1000 then.
			judge{"below Lams", o, lams(50, vari(49)), pis(append(times(50, nat), nat)...), api.OK},
			judge{"below Lams, the first one", o, lams(50, vari(49+min(n, 1))), pis(append(times(50, nat), nat)...), api.OK},
			judge{"below Lams, a meta", o, lams(50, hole(0)), pis(append(times(50, nat), nat)...), api.OK},
		)
		holdFormed(t,
			formed{"below Pis", o, pis(append(times(50, nat), vec(vari(49)))...), api.OK, api.ErrType},
			formed{"below Pis, a kind", o, pis(append(times(50, nat), sort)...), api.ErrType, api.OK},
		)
	}
}

// Of declarations, of metas, and of entries of these, there may be any number.
func TestHowManyOthersThereAre(t *testing.T) {
	for _, n := range []int{1, 40, 41, 200, 201, 1000, 1001, 5000} {
		o := in(nat)
		o.sig = append(o.sig, types(times(n, vec(zero))...)...)
		o.metas = append(slices.Repeat([]api.MetaDecl{unknown(nat, nat)}, n), unknown(tm), unknown(nat, times(n, nat)...))
		holdTerms(t,
			judge{"the last constant", o, con(len(o.sig) - 1), vec(zero), api.OK},
			judge{"none", o, con(len(o.sig)), nat, api.ErrScope},
			judge{"the last meta but one", o, hole(n), tm, api.OK},
			judge{"no such meta", o, hole(n + 2), tm, api.ErrScope},
			judge{"all else", o, succ(vari(0)), nat, api.OK},
		)
	}
}

// What may be just so may be: 4000 nodes, 60 deep.
func TestTermsThatMayJustBe(t *testing.T) {
	many := con(declared, times(api.MaxSize-1, zero)...)
	deep := zero
	for range api.MaxDepth - 1 {
		deep = succ(deep)
	}
	o := in()
	holdTerms(t,
		judge{"4000 nodes", o, many, nat, api.ErrScope},
		judge{"4000 nodes, of a type", o, con(zeroC, many.Args...), nat, api.ErrType},
		judge{"60 deep", o, deep, nat, api.OK},
		judge{"60 deep, of another type", o, deep, tm, api.ErrType},
		judge{"60 Lams", o, lams(api.MaxDepth-1, vari(0)), pis(append(times(api.MaxDepth-1, tm), tm)...), api.OK},
		judge{"too great", o, doubled(10, self), tm, api.ErrArg},
		judge{"great", o, doubled(9, self), tm, api.OK},
	)
	holdFormed(t,
		formed{"4000 nodes", o, fam(vecF, many.Args...), api.ErrType, api.ErrType},
		formed{"60 deep", o, vec(deep.Args[0]), api.OK, api.ErrType},
	)
	// A type of 4000 nodes, asked of an entry of 4000 nodes.
	great := fam(vecF, con(appC, doubled(9, self), doubled(8, self)))
	o = in(great)
	holdTerms(t, judge{"a great type", o, vari(0), great, api.OK})
}

// R1: wrong calls

func TestOfNothing(t *testing.T) {
	for name, o := range map[string]over{"nil": {}, "empty": {[]api.Decl{}, []api.MetaDecl{}, []api.Term{}}} {
		holdFormed(t,
			formed{name + ", Sort", o, sort, api.ErrType, api.OK},
			formed{name + ", Fam", o, nat, api.ErrScope, api.ErrType},
			formed{name + ", Pi", o, pi(nat, sort), api.ErrScope, api.ErrScope},
		)
		for _, m := range list(vari(0), con(0), hole(0)) {
			holdTerms(t, judge{name, o, m, nat, api.ErrScope}, judge{name + ", of a Sort", o, m, sort, api.ErrType})
		}
		holdTerms(t,
			judge{name + ", Lam", o, lam(vari(0)), fun, api.OK},
			judge{name + ", Lam of nothing", o, lam(vari(1)), fun, api.ErrScope},
			judge{name + ", Sort of Sort", o, sort, sort, api.ErrType},
		)
	}
}

// What declarations, metas and entries come to need be no type: nothing but what is met on the way counts.
func TestWhatIsIllFormedItself(t *testing.T) {
	for name, x := range map[string]api.Term{
		"Lam": lam(vari(0)), "Lam of a type": lam(nat), "Var": vari(0), "Var of Args": vari(7, zero), "Const": zero, "Const of Args": con(99, nat),
		"Meta": hole(0), "Meta of Args": hole(9, sort), "no such Fam": fam(99), "Fam of wrong Args": vec(con(99)), "Fam of too many": fam(natF, zero), "no family": fam(zeroC),
	} {
		is := api.ErrType
		if x.Kind == api.Fam {
			is = api.OK
		}
		o := in(x, pi(nat, x), pi(x, nat)).with(unknown(x), unknown(x, nat), unknown(nat, x))
		o.sig = append(o.sig, types(x, pi(nat, x), pi(x, nat))...)
		for head := range 3 {
			// As a type of what has no Args, of what has one, and of what an Arg is to be.
			args := [][]api.Term{nil, list(zero), list(zero)}[head]
			want := []api.Errno{is, is, api.ErrType}[head]
			holdTerms(t,
				judge{name + ", a constant's", o, con(declared+head, args...), x, want},
				judge{name + ", a meta's", o, hole(head, args...), x, want},
			)
			holdFormed(t, formed{name + ", a Fam", o, fam(declared + head), api.ErrScope, api.ErrType})
		}
		holdTerms(t,
			judge{name + ", applied", o, con(declared, zero), nat, api.ErrType},
			judge{name + ", applied twice", o, con(declared+1, zero, zero), nat, api.ErrType},
			judge{name + ", a variable's", o, vari(2), nat, api.ErrType},
			judge{name + ", a variable's, applied", o, vari(2, zero), nat, api.ErrType},
			judge{name + ", what a variable is of", o, vari(0, con(99)), nat, map[bool]api.Errno{true: api.ErrScope, false: api.ErrType}[is == api.OK]},
		)
	}
}

// A kind is told by what it comes to alone: it may ask for what is none.
func TestAKindThatIsIllFormed(t *testing.T) {
	o := over{sig: types(sort, pi(fam(99), sort), pis(zero, nat, sort), pi(sort, sort), pis(fam(0), vari(5), sort), pi(fam(0), sort)), ctx: list(fam(99))}
	holdFormed(t,
		formed{"of what there is not", o, fam(1, vari(0)), api.OK, api.ErrType},
		formed{"of no type", o, fam(2, vari(0)), api.ErrType, api.ErrType},
		formed{"of a Sort", o, fam(3, sort), api.ErrType, api.ErrType},
		formed{"of a variable", o, fam(4, vari(0), vari(0)), api.ErrType, api.ErrType},
		formed{"with too few", o, fam(4), api.ErrType, api.ErrType},
		formed{"of another one", o, fam(5, vari(0)), api.ErrType, api.ErrType},
	)
}
