package parse_test

import (
	"errors"
	"math/rand"
	"reflect"
	"slices"
	"strings"
	"testing"

	"trammel/api"
	"trammel/parse"
	"trammel/scan"
)

func num(n int) api.Expr             { return api.Expr{N: n} }
func v(s string) api.Expr            { return api.Expr{Kind: api.EVar, Name: s} }
func add(a, b api.Expr) api.Expr     { return api.Expr{Kind: api.EAdd, Kids: []api.Expr{a, b}} }
func sub(a, b api.Expr) api.Expr     { return api.Expr{Kind: api.ESub, Kids: []api.Expr{a, b}} }
func mul(n int, a api.Expr) api.Expr { return api.Expr{Kind: api.EMul, N: n, Kids: []api.Expr{a}} }
func cmp(k int, a, b api.Expr) api.Cond {
	return api.Cond{Kind: k, E: []api.Expr{a, b}}
}
func con(k int, l ...api.Cond) api.Cond { return api.Cond{Kind: k, Kids: l} }
func pure(c api.Cond) api.Assn          { return api.Assn{Kind: api.APure, C: c} }
func sep(a, b api.Assn) api.Assn        { return api.Assn{Kind: api.ASep, Kids: []api.Assn{a, b}} }

// body wraps statements.
func body(s string) string { return "proc p(;) requires emp ensures emp {" + s + "}" }

func one(t *testing.T, src string) api.Proc {
	t.Helper()
	p, err := parse.Parse(src)
	if err != nil || len(p.Procs) != 1 {
		t.Fatal(src, p, err)
	}
	return p.Procs[0]
}

// tidy has nil for each list of no elements.
func tidy(x any) any {
	r := reflect.New(reflect.TypeOf(x)).Elem()
	r.Set(reflect.ValueOf(x))
	bare(r)
	return r.Interface()
}

func bare(r reflect.Value) {
	switch r.Kind() {
	case reflect.Struct:
		for i := 0; i < r.NumField(); i++ {
			bare(r.Field(i))
		}
	case reflect.Slice:
		if r.Len() == 0 {
			r.SetZero()
			return
		}
		n := reflect.MakeSlice(r.Type(), r.Len(), r.Len())
		reflect.Copy(n, r)
		r.Set(n)
		for i := 0; i < r.Len(); i++ {
			bare(r.Index(i))
		}
	}
}

func same(t *testing.T, src string, got, want any) {
	t.Helper()
	if !reflect.DeepEqual(tidy(got), tidy(want)) {
		t.Errorf("%s:\n%+v\n%+v", src, got, want)
	}
}

func TestExpressions(t *testing.T) { // P14.1
	for src, want := range map[string]api.Expr{
		"0": num(0), "-7": num(-7), "- 7": num(-7), "x": v("x"), "1073741824": num(1 << 30), "-0": num(0),
		"x+y-1": sub(add(v("x"), v("y")), num(1)), "x-(y-1)": sub(v("x"), sub(v("y"), num(1))), "x--1": sub(v("x"), num(-1)), "x-1-2+3": add(sub(sub(v("x"), num(1)), num(2)), num(3)),
		"2*x-1": sub(mul(2, v("x")), num(1)), "-2*x": mul(-2, v("x")), "2*3*x": mul(2, mul(3, v("x"))), "2*-3": mul(2, num(-3)), "2*-3*x": mul(2, mul(-3, v("x"))), "2*(x+1)": mul(2, add(v("x"), num(1))),
		"((x))": v("x"), "1+2*3": add(num(1), mul(2, num(3))), "0*x+y": add(mul(0, v("x")), v("y")),
	} {
		s := one(t, body("x := "+src+";")).Body
		same(t, src, s, []api.Stmt{{Kind: api.SSet, Name: "x", E: want}})
	}
}

func TestConditions(t *testing.T) { // P14.1
	a, b, c := cmp(api.CEq, v("a"), num(1)), cmp(api.CLt, v("b"), v("c")), con(api.CTrue)
	for src, want := range map[string]api.Cond{
		"true": c, "false": con(api.CFalse), "a==1": a, "b<c": b, "a!=1": cmp(api.CNe, v("a"), num(1)), "a<=-1": cmp(api.CLe, v("a"), num(-1)), "(a)==1": a, "[a==1]": a, "[[true]]": c,
		"!a==1": con(api.CNot, a), "!!true": con(api.CNot, con(api.CNot, c)), "![a==1||b<c]": con(api.CNot, con(api.COr, a, b)), "!a==1&&b<c": con(api.CAnd, con(api.CNot, a), b),
		"a==1&&b<c&&true": con(api.CAnd, con(api.CAnd, a, b), c), "a==1||b<c||true": con(api.COr, con(api.COr, a, b), c), "a==1||b<c&&true": con(api.COr, a, con(api.CAnd, b, c)),
		"a==1&&b<c||true": con(api.COr, con(api.CAnd, a, b), c), "a==1&&[b<c||true]": con(api.CAnd, a, con(api.COr, b, c)), "a==1||[b<c||true]": con(api.COr, a, con(api.COr, b, c)), "a==1&&[b<c&&true]": con(api.CAnd, a, con(api.CAnd, b, c)),
	} {
		s := one(t, body("assert "+src+";")).Body
		same(t, src, s, []api.Stmt{{Kind: api.SAssert, C: want}})
	}
}

func TestAssertions(t *testing.T) { // P14.1
	acc := api.Assn{Kind: api.AAcc, E: v("x"), Field: "f", N: 3}
	pts := api.Assn{Kind: api.APts, E: add(v("x"), num(1)), Field: "g", N: 64, V: mul(-2, v("u"))}
	for src, want := range map[string]api.Assn{
		"emp": {}, "[true]": pure(con(api.CTrue)), "[[x==0]||false]": pure(con(api.COr, cmp(api.CEq, v("x"), num(0)), con(api.CFalse))), "acc(x.f,3)": acc, "pts(x+1.g,64,-2*u)": pts, "acc(x.f,1073741824)": {Kind: api.AAcc, E: v("x"), Field: "f", N: 1 << 30},
		"acc(x.f,3)&emp&pts(x+1.g,64,-2*u)": sep(sep(acc, api.Assn{}), pts), "emp&(acc(x.f,3)&emp)": sep(api.Assn{}, sep(acc, api.Assn{})), "((emp))": {},
		"if x<0||true{emp}else{acc(x.f,3)&emp}": {Kind: api.AIf, C: con(api.COr, cmp(api.CLt, v("x"), num(0)), con(api.CTrue)), Kids: []api.Assn{{}, sep(acc, api.Assn{})}},
	} {
		p := one(t, "proc p(;)requires "+src+" ensures emp{}")
		same(t, src, p.Pre, want)
		p = one(t, "proc p(;)requires emp ensures "+src+"{while false invariant "+src+" {}}")
		same(t, src, p.Post, want)
		same(t, src, p.Body, []api.Stmt{{Kind: api.SWhile, C: con(api.CFalse), A: want}})
	}
}

func TestStatements(t *testing.T) { // P14.1
	skip := api.Stmt{Kind: api.SSkip}
	for src, want := range map[string][]api.Stmt{
		"": nil, "skip;": {skip}, "skip;skip;": {skip, skip}, "x:=get y+1.f;": {{Kind: api.SGet, Name: "x", E: add(v("y"), num(1)), Field: "f"}},
		"put x.f:=y-1;": {{Kind: api.SPut, E: v("x"), Field: "f", V: sub(v("y"), num(1))}}, "free x.f;": {{Kind: api.SFree, E: v("x"), Field: "f"}}, "x:=new(f);": {{Kind: api.SNew, Name: "x", Fields: []string{"f"}}}, "x:=new(f,g,f);": {{Kind: api.SNew, Name: "x", Fields: []string{"f", "g", "f"}}},
		"if true{skip;}else{}": {{Kind: api.SIf, C: con(api.CTrue), Body: []api.Stmt{skip}}}, "if true{}else{if false{}else{skip;}}": {{Kind: api.SIf, C: con(api.CTrue), Else: []api.Stmt{{Kind: api.SIf, C: con(api.CFalse), Else: []api.Stmt{skip}}}}},
		"while x<1 invariant emp{x:=1;}skip;": {{Kind: api.SWhile, C: cmp(api.CLt, v("x"), num(1)), Body: []api.Stmt{{Kind: api.SSet, Name: "x", E: num(1)}}}, skip},
		"call q(;);":                          {{Kind: api.SCall, Callee: "q"}}, "r:=call q(1,x;);": {{Kind: api.SCall, Name: "r", Callee: "q", Args: []api.Expr{num(1), v("x")}}}, "call q(;u+1,2);": {{Kind: api.SCall, Callee: "q", Ghosts: []api.Expr{add(v("u"), num(1)), num(2)}}},
	} {
		same(t, src, one(t, body(src)).Body, want)
	}
}

func TestPrograms(t *testing.T) { // P14.1
	for _, src := range []string{"", " // nothing"} {
		if p, err := parse.Parse(src); err != nil || len(p.Procs) != 0 {
			t.Error(p, err)
		}
	}
	p, err := parse.Parse("proc p(x; ) requires emp ensures emp { x := 2 * x - 1; } proc p(;u) requires emp ensures [true] {} proc q(a,b;c,d) requires [false] ensures emp {}")
	same(t, "procs", p, api.Program{Procs: []api.Proc{
		{Name: "p", Params: []string{"x"}, Body: []api.Stmt{{Kind: api.SSet, Name: "x", E: sub(mul(2, v("x")), num(1))}}},
		{Name: "p", Ghosts: []string{"u"}, Post: pure(con(api.CTrue))},
		{Name: "q", Params: []string{"a", "b"}, Ghosts: []string{"c", "d"}, Pre: pure(con(api.CFalse))},
	}})
	if err != nil {
		t.Error(err)
	}
}

func spot(err error) (int, error) {
	var s *api.Spot
	if errors.As(err, &s) {
		return s.At, s.Err
	}
	return -1, err
}

func TestErrors(t *testing.T) { // P14.1, R1, R3; ^ stands ahead of the token at fault
	for _, x := range []string{
		"proc p^", "^p", "proc ^1", "proc ^get", "proc p^{", "proc p(^", "proc p(^)", "proc p(x^)", "proc p(x,^;)", "proc p(x^ y;)", "proc p(;^;)", "proc p(;u,^)", "proc p(;)^ensures", "proc p(;)requires^", "proc p(;)requires ^ensures", "proc p(;)requires emp^{", "proc p(;) requires emp ensures emp^",
		"proc p(;) requires emp ensures emp {} ^x", "proc p(;) requires emp ensures emp {} proc q^  ", "proc p(;) requires emp ensures emp {^", "proc p(;) requires emp ensures emp {} ^}",
		"A^", "A^true", "A^x==1", "A[^]", "A[true^", "A[true^)", "A[x^]", "A[x==1^==2]", "A[^emp]", "A[x<1^&emp]", "Aacc^[", "Aacc(^)", "Aacc(x^,1)", "Aacc(x.^1,1)", "Aacc(x.f^)", "Aacc(x.f,^-1)", "Aacc(x.f,^y)", "Aacc(x.f,1^*1)", "Aacc(x.f,1^,2)", "Apts(x.f,1^)", "Apts(x.f,1,^)", "Apts(x.f,1,2^,", "A(emp^]", "A(^)", "A(emp&^)", "Aemp& ^&", "Aemp^&&emp", "Aif true ^emp", "Aif true{^}", "Aif true{emp}^ensures", "Aif true{emp}else ^emp", "Aif ^{emp}else{emp}", "Aif true{emp}else{emp}^else", "Aif [true^}",
		"S^;", "Sskip^}", "Sskip ^skip", "S^1:=1;", "Sx^;", "Sx^==1;", "Sx:=^;", "Sx:=1^}", "Sx:=1 ^x;", "Sx:=x^*2;", "Sx:=-^x;", "Sx:=-^-1;", "Sx:=2*^;", "Sx:=2*^+", "Sx:=1+^;", "Sx:=(1^;", "Sx:=(^);", "Sx:=get ^;", "Sx:=get y^;", "Sx:=get y.^get;", "Sx:=get y.f^.g;", "Sx:=^true;", "Sx:=new ^f;", "Sx:=new(^);", "Sx:=new(f^ g);", "Sx:=new(f,^);", "Sx:=new(f^;", "Sx:=call ^(;);", "Sx:=call q^;", "Sx:=call q(^);", "Sx:=call q(1^);", "Sx:=call q(1,^;);", "Sx:=call q(;1,^);", "Sx:=call q(;)^+1;", "Scall q(;)^}", "S^get x.f;", "S^new(f);", "Sfree ^.f;", "Sfree x^;", "Sfree x.f^:=1;", "Sput x.f^;", "Sput x.f:=^get y.f;", "Sput x.f:=1^.", "Sif true^;", "Sif true{}^}", "Sif true{}^skip;", "Sif true{}else^;", "Sif ^{}", "Sif x^{}else{}", "Swhile true^{}", "Swhile true invariant^{}", "Swhile true invariant emp^;", "Swhile true invariant emp{^", "Sassert^;", "Sassert true^}", "Sassert x^;", "Sassert !^;", "Sassert true||^;", "Sassert true&&^&&", "Sassert true^&true;", "Sassert [true^;", "Sassert x<y^<z;", "Sassert x<^<=", "Sassert (^true)==1;", "Sassert true^==1;", "Sassert ^emp;", "S^{}", "S^emp;",
	} {
		src := strings.Replace(x, "^", "", 1)
		want := strings.Index(x, "^")
		shift := 0
		switch src[0] {
		case 'A':
			src = "proc p(;) requires " + src[1:]
			shift = len("proc p(;) requires ") - 1
		case 'S':
			src = "proc p(;) requires emp ensures emp {" + src[1:]
			shift = len("proc p(;) requires emp ensures emp {") - 1
		}
		at := want + shift
		for at < len(src) && src[at] == ' ' {
			at++
		}
		p, err := parse.Parse(src)
		if got, code := spot(err); got != at || code != error(api.ErrDue) || len(p.Procs) != 0 {
			t.Error(src, at, got, code)
		}
	}
	for i, x := range []struct {
		src string
		at  int
		err api.Code
	}{
		{"proc # p", 5, api.ErrByte}, {"x y 01", 4, api.ErrForm}, {"x " + strings.Repeat("a", 33), 2, api.ErrLong}, {strings.Repeat("x", 70000), -1, api.ErrLong}, {"proc p \n\t", 9, api.ErrDue}, {"proc p// x", 10, api.ErrDue},
	} {
		_, err := parse.Parse(x.src)
		if at, code := spot(err); at != x.at || code != error(x.err) {
			t.Error(i, at, code)
		}
	}
}

func TestDeep(t *testing.T) { // P14.1: what stands within 49 things isn't deep, what stands within 50 is
	rep := strings.Repeat
	pre := "proc p(;) requires "
	in := "proc p(;) requires emp ensures emp {" // one thing
	for i, x := range []struct{ head, unit, inner, back, tail string }{
		{pre, "(", "emp", ")", " ensures emp {}"}, {pre + "acc(", "(", "x", ")", ".f,1) ensures emp {}"}, {pre, "if true{", "emp", "}else{emp}", " ensures emp {}"}, {pre + "if ", "[", "true", "]", "{emp}else{emp} ensures emp {}"},
		{pre + "if ", "!", "true", "", "{emp}else{emp} ensures emp {}"}, {pre + "acc(", "2*", "x", "", ".f,1) ensures emp {}"}, {pre + "acc(", "-2*", "-3", "", ".f,1) ensures emp {}"}, {pre + "if ", "![", "true", "]", "{emp}else{emp} ensures emp {}"},
		{"proc p(;) requires emp ensures emp ", "{if true", "{}", "else{}}", ""}, {in + "x:=", "(", "x", ")", ";}"}, {in + "x:=", "2*(", "x", ")", ";}"}, {in, "while true invariant emp{", "skip;", "}", "}"},
	} {
		per := strings.Count(x.unit, "(") + strings.Count(x.unit, "[") + strings.Count(x.unit, "{") + strings.Count(x.unit, "!") + strings.Count(x.unit, "*")
		had := strings.Count(x.head, "{") // things that are open already
		if strings.HasPrefix(x.inner, "{") {
			had++
		}
		n := (50 - had) / per
		fits := x.head + rep(x.unit, n) + x.inner + rep(x.back, n) + x.tail
		if _, err := parse.Parse(fits); err != nil {
			t.Error(i, "isn't deep", err)
		}
		deep := x.head + rep(x.unit, n+2) + x.inner
		at := deepAt(deep)
		_, err := parse.Parse(deep)
		if got, code := spot(err); code != error(api.ErrDepth) || got != at {
			t.Error(i, got, at, code)
		}
	}
	wide := in + "x:=" + rep("(1)+", 200) + "1;assert " + rep("!true&&", 200) + "[true];y:=" + rep("2*x+", 200) + "1;" + rep("if true{}else{}", 100) + "call p(;);}"
	if _, err := parse.Parse(wide); err != nil {
		t.Error("side by side isn't deep", err)
	}
	calls := in + rep("if true{", 49) + "call q(1;2);x:=new(f);" + rep("}else{}", 49) + "}"
	if _, err := parse.Parse(calls); err != nil {
		t.Error("these brackets don't count", err)
	}
	for i, x := range []struct {
		tail string
		code api.Code
		at   int
	}{{"assert 2*x==1;", api.ErrDepth, 7}, {"assert 2;", api.ErrDue, 8}, {"assert x == 2*;", api.ErrDepth, 12}, {"skip skip (", api.ErrDue, 5}, {"x:=-2*x;", api.ErrDepth, 4}, {"x:=-2 2*x", api.ErrDue, 6}, {"assert !;", api.ErrDepth, 7}} {
		head := in + rep("if true{", 49)
		_, err := parse.Parse(head + x.tail)
		if at, code := spot(err); code != error(x.code) || at != len(head)+x.at {
			t.Error(i, at-len(head), code)
		}
	}
}

// deepAt is the first place that is deep, where nothing ends and no bracket is one of those that don't count but those behind acc and a procedure's name.
func deepAt(src string) int {
	nest := 0
	for i := 0; i < len(src); i++ {
		c := src[i]
		if c == '(' && (strings.HasSuffix(src[:i], "acc") || strings.HasSuffix(src[:i], "proc p")) {
			continue
		}
		if c == '}' {
			nest--
		}
		number := i+1 < len(src) && src[i+1] == '*'
		if strings.IndexByte("([{!", c) >= 0 || number {
			if nest >= 50 {
				return i
			}
			nest++
		}
	}
	return -1
}

// The grammar of the chapter, for a recognizer that knows nothing of how the parser goes: rules by name, alternatives of symbols.
var grammar = map[string][]string{
	"program": {"", "proc program"},
	"proc":    {"'proc' name '(' names? ';' names? ')' 'requires' assn 'ensures' assn block"},
	"names?":  {"", "names"}, "names": {"name", "name ',' names"},
	"block": {"'{' stmts '}'"}, "stmts": {"", "stmt stmts"},
	"stmt": {"'skip' ';'", "'put' expr '.' name ':=' expr ';'", "'free' expr '.' name ';'", "'if' cond block 'else' block", "'while' cond 'invariant' assn block", "'assert' cond ';'", "call ';'", "name ':=' what ';'"},
	"what": {"'get' expr '.' name", "'new' '(' names ')'", "call", "expr"},
	"call": {"'call' name '(' exprs? ';' exprs? ')'"}, "exprs?": {"", "exprs"}, "exprs": {"expr", "expr ',' exprs"},
	"expr": {"prod", "prod '+' expr", "prod '-' expr"},
	"prod": {"number '*' prod", "'-' number '*' prod", "number", "'-' number", "name", "'(' expr ')'"},
	"cond": {"all", "all '||' cond"}, "all": {"one", "one '&&' all"},
	"one":  {"'!' one", "'[' cond ']'", "'true'", "'false'", "expr '==' expr", "expr '!=' expr", "expr '<' expr", "expr '<=' expr"},
	"assn": {"item", "item '&' assn"},
	"item": {"'emp'", "'[' cond ']'", "'acc' '(' expr '.' name ',' number ')'", "'pts' '(' expr '.' name ',' number ',' expr ')'", "'if' cond '{' assn '}' 'else' '{' assn '}'", "'(' assn ')'"},
}

type state struct {
	head string
	alt  string
	dot  int
	from int
}

// stuck is the first of the tokens that can't stand there, or how many there are, if they aren't a program; -1, if they are.
func stuck(tokens []api.Token) int {
	sets := make([][]state, len(tokens)+1)
	put := func(i int, s state) {
		if !slices.Contains(sets[i], s) {
			sets[i] = append(sets[i], s)
		}
	}
	put(0, state{"", "program", 0, 0})
	for i := range sets {
		if len(sets[i]) == 0 {
			return i - 1
		}
		for k := 0; k < len(sets[i]); k++ {
			s := sets[i][k]
			syms := strings.Fields(s.alt)
			if s.dot == len(syms) {
				for _, o := range slices.Clone(sets[s.from]) {
					if f := strings.Fields(o.alt); o.dot < len(f) && f[o.dot] == s.head {
						put(i, state{o.head, o.alt, o.dot + 1, o.from})
					}
				}
				continue
			}
			sym := syms[s.dot]
			if alts, ok := grammar[sym]; ok {
				for _, a := range alts {
					put(i, state{sym, a, 0, i})
					if a == "" { // nothing is enough
						put(i, state{s.head, s.alt, s.dot + 1, s.from})
					}
				}
				continue
			}
			if i < len(tokens) && (sym == "'"+tokens[i].Text+"'" || sym == "name" && tokens[i].Kind == api.TkName || sym == "number" && tokens[i].Kind == api.TkNumber) {
				put(i+1, state{s.head, s.alt, s.dot + 1, s.from})
			}
		}
	}
	if slices.Contains(sets[len(tokens)], state{"", "program", 1, 0}) {
		return -1
	}
	return len(tokens)
}

func TestFirstTokenAtFault(t *testing.T) { // P14.1
	r := rand.New(rand.NewSource(17))
	sample := "proc p(x,y;u) requires acc(x.f,3)&[!x<1&&true||[x==-2*y]] ensures if x!=1{emp}else{pts(x.f,1,2)} {skip;put x.f:=(1)-y;x:=get y.f;x:=new(f,g);free x.f;if x<=1{}else{skip;}while true invariant emp{assert false;}x:=call q(1;);call q(;y);}"
	all, _ := scan.Scan(sample)
	for i := 0; i < 3000; i++ {
		words := []string{}
		for _, t := range all {
			words = append(words, t.Text)
		}
		for n := r.Intn(3); n >= 0; n-- {
			if len(words) == 0 {
				break
			}
			at := r.Intn(len(words))
			o := all[r.Intn(len(all))].Text
			switch r.Intn(4) {
			case 0:
				words = slices.Insert(words, at, o)
			case 1:
				words = slices.Delete(words, at, at+1)
			case 2:
				words[at] = o
			case 3:
				words = words[:at]
			}
		}
		src := strings.Join(words, " ")
		tokens, _ := scan.Scan(src)
		want := -1
		if n := stuck(tokens); n == len(tokens) {
			want = len(src)
		} else if n >= 0 {
			want = tokens[n].At
		}
		_, err := parse.Parse(src)
		if at, _ := spot(err); at != want || (err == nil) != (want < 0) {
			t.Fatal(src, at, want, err)
		}
	}
}

func TestBlanks(t *testing.T) { // P14.2
	src := "proc p(x;u) requires acc(x.f,3)&[!x<1] ensures if x!=1{emp}else{pts(x.f,1,-2*u)} {put x.f:=(1)-x;y:=call p(1;2);}"
	tokens, _ := scan.Scan(src)
	var apart []string
	for _, t := range tokens {
		apart = append(apart, t.Text)
	}
	same(t, src, one(t, src), one(t, strings.Join(apart, "\n\t// x\n")))
}
