package scan_test

import (
	"errors"
	"math/rand"
	"slices"
	"strings"
	"testing"

	"trammel/api"
	"trammel/scan"
)

var words = strings.Fields("proc requires ensures skip put get new free if else while invariant assert call true false emp acc pts")
var ops = strings.Fields(":= == != <= && || ( ) { } [ ] , ; . + - * < ! &")

// told writes tokens as kinds and texts and places: n2@4 is the name 2 at 4.
func told(l []api.Token) string {
	var b []string
	for _, t := range l {
		b = append(b, []string{"?", "n", "k", "d", "o"}[t.Kind]+t.Text+"@"+string(rune('0'+t.At)))
	}
	return strings.Join(b, " ")
}

func TestScan(t *testing.T) { // P13.1
	long := strings.Repeat("a", 32)
	for i, x := range []struct{ src, want string }{
		{"", ""}, {" \t\n", ""}, {"// x", ""}, {"//", ""}, {"//\n//\n", ""}, {"x:=get y.f;", "nx@0 o:=@1 kget@3 ny@7 o.@8 nf@9 o;@:"},
		{"x", "nx@0"}, {"_", "n_@0"}, {"_9Z", "n_9Z@0"}, {"getx", "ngetx@0"}, {"get", "kget@0"}, {"Get", "nGet@0"}, {"proc1", "nproc1@0"},
		{"0", "d0@0"}, {"7", "d7@0"}, {"0 0", "d0@0 d0@2"}, {"1073741824", "d1073741824@0"}, {"12+3", "d12@0 o+@2 d3@3"}, {"-5", "o-@0 d5@1"},
		{"<=<", "o<=@0 o<@2"}, {"<==", ""}, {"!=!", "o!=@0 o!@2"}, {"!==", ""}, {"&&&", "o&&@0 o&@2"}, {"====", "o==@0 o==@2"}, {"||||", "o||@0 o||@2"}, {":=:=", "o:=@0 o:=@2"}, {"<!&", "o<@0 o!@1 o&@2"},
		{"a//b\nc", "na@0 nc@5"}, {"a// \x00\xff#\n", "na@0"}, {"a //b", "na@0"}, {"1//1\n+", "d1@0 o+@5"}, {"a\tb\n\nc", "na@0 nb@2 nc@5"},
		{long, "n" + long + "@0"}, {"()[]{}", "o(@0 o)@1 o[@2 o]@3 o{@4 o}@5"}, {",;.+-*", "o,@0 o;@1 o.@2 o+@3 o-@4 o*@5"}, {"x.1", "nx@0 o.@1 d1@2"},
	} {
		l, err := scan.Scan(x.src)
		if strings.HasSuffix(x.src, "==") && len(x.src) == 3 { // a single = begins nothing
			if at(err) != 2 || !errors.Is(err, api.ErrByte) {
				t.Error(i, err)
			}
			continue
		}
		if err != nil || told(l) != x.want {
			t.Error(i, told(l), err)
		}
	}
	for _, w := range words {
		if l, err := scan.Scan(w); err != nil || len(l) != 1 || l[0] != (api.Token{Kind: api.TkKey, Text: w}) {
			t.Error(w, l, err)
		}
	}
	for _, w := range ops {
		if l, err := scan.Scan(" " + w + " "); err != nil || len(l) != 1 || l[0] != (api.Token{Kind: api.TkOp, At: 1, Text: w}) {
			t.Error(w, l, err)
		}
	}
}

func at(err error) int {
	var s *api.Spot
	if errors.As(err, &s) {
		return s.At
	}
	return -1
}

func TestErrors(t *testing.T) { // P13.1, R1, R3
	long := strings.Repeat("a", 33)
	for i, x := range []struct {
		src string
		at  int
		err api.Code
	}{
		{"01", 0, api.ErrForm}, {"1a", 0, api.ErrForm}, {"#", 0, api.ErrByte}, {"00", 0, api.ErrForm}, {"x 0_", 2, api.ErrForm}, {"1Z", 0, api.ErrForm}, {"1073741825", 0, api.ErrForm}, {"99999999999999999999999999", 0, api.ErrForm}, {"2000000000", 0, api.ErrForm},
		{"1_#", 0, api.ErrForm}, {long, 0, api.ErrLong}, {"x " + long + " #", 2, api.ErrLong}, {"x #" + long, 2, api.ErrByte}, {strings.Repeat("get", 11), 0, api.ErrLong}, {"proc" + long, 0, api.ErrLong},
		{":", 0, api.ErrByte}, {": =", 0, api.ErrByte}, {"=", 0, api.ErrByte}, {"|", 0, api.ErrByte}, {"x |y", 2, api.ErrByte}, {"/", 0, api.ErrByte}, {"a/b", 1, api.ErrByte}, {">", 0, api.ErrByte}, {">=", 0, api.ErrByte}, {"/*", 0, api.ErrByte}, {"===", 2, api.ErrByte},
		{"a\r\n", 1, api.ErrByte}, {"a\x00", 1, api.ErrByte}, {"a\v", 1, api.ErrByte}, {"é", 0, api.ErrByte}, {"aé", 1, api.ErrByte}, {"x\xff", 1, api.ErrByte}, {"1é", 1, api.ErrByte}, {"a \u00a0", 2, api.ErrByte}, {"٣", 0, api.ErrByte},
		{"// ok\n#", 6, api.ErrByte}, {"'", 0, api.ErrByte}, {"\"", 0, api.ErrByte}, {"%", 0, api.ErrByte}, {"^", 0, api.ErrByte}, {"~", 0, api.ErrByte}, {"?", 0, api.ErrByte}, {"@", 0, api.ErrByte}, {"$", 0, api.ErrByte}, {"\\", 0, api.ErrByte}, {"`", 0, api.ErrByte},
		{strings.Repeat(" ", 65537), -1, api.ErrLong}, {"#" + strings.Repeat(" ", 65536), -1, api.ErrLong}, {strings.Repeat(" ", 65535) + "#", 65535, api.ErrByte},
	} {
		l, err := scan.Scan(x.src)
		if !errors.Is(err, x.err) || at(err) != x.at || x.at < 0 && err != error(x.err) || len(l) != 0 {
			t.Error(i, l, err)
		}
	}
	if l, err := scan.Scan(strings.Repeat("x;", 32768)); err != nil || len(l) != 65536 {
		t.Error(len(l), err)
	}
}

func TestKeyAndName(t *testing.T) { // P13.2
	for _, w := range words {
		if !scan.Key(w) || scan.Name(w) {
			t.Error(w)
		}
		for _, o := range []string{w + "s", "_" + w, w[:1] + w, strings.ToUpper(w)} {
			if scan.Key(o) || !scan.Name(o) {
				t.Error(o)
			}
		}
	}
	for _, w := range []string{"a", "_", "z9", "A_b", "Z", "res", strings.Repeat("_", 32)} {
		if scan.Key(w) || !scan.Name(w) {
			t.Error(w)
		}
	}
	for _, w := range []string{"", "1", "1a", "a b", " a", "a ", "a.", "+", "é", "aé", "a\xff", "a\x00", strings.Repeat("_", 33), "a-b"} {
		if scan.Key(w) || scan.Name(w) {
			t.Error(w)
		}
	}
}

func TestAgain(t *testing.T) { // P13.3
	r := rand.New(rand.NewSource(16))
	all := slices.Concat(words, ops, strings.Fields("x y1 _ getx 0 7 10 1073741824"))
	for i := 0; i < 500; i++ {
		var l []string
		for n := r.Intn(30); n > 0; n-- {
			l = append(l, all[r.Intn(len(all))])
		}
		first, err := scan.Scan(strings.Join(l, "\n//\n\t "))
		again, err2 := scan.Scan(strings.Join(l, " "))
		if err != nil || err2 != nil || len(first) != len(l) || len(again) != len(l) {
			t.Fatal(l, err, err2)
		}
		place := 0
		for k := range l {
			if first[k].Text != l[k] || again[k].Text != l[k] || first[k].Kind != again[k].Kind || again[k].At != place {
				t.Fatal(l, first, again)
			}
			place += len(l[k]) + 1
		}
	}
}
