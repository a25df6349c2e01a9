package clause

import (
	"math"
	"reflect"
	"regexp"
	"strings"
	"testing"

	"gaoler/api"
)

// one is a list of one clause.
func one(who int, acts ...Act) []Clause { return []Clause{{Who: who, Acts: acts}} }

var (
	clauseForm = regexp.MustCompile(`^([ugoa]*)((?:[-+=](?:[ugo]|[rwxXst]*))+)$`)
	actForm    = regexp.MustCompile(`[-+=][^-+=]*`)
)

// parseSlowly says word by word what P2.1 says, to hold Parse against it.
func parseSlowly(s string) ([]Clause, api.Errno) {
	var l []Clause
	for _, text := range strings.Split(s, ",") {
		m := clauseForm.FindStringSubmatch(text)
		if m == nil {
			return nil, api.EINVAL
		}
		c := Clause{Who: sumOf(m[1], "u", 1, "g", 2, "o", 4)}
		if strings.Contains(m[1], "a") {
			c.Who = 7
		}
		for _, a := range actForm.FindAllString(m[2], -1) {
			act := Act{Op: a[0]}
			switch a[1:] {
			case "u":
				act.Copy = 1
			case "g":
				act.Copy = 2
			case "o":
				act.Copy = 3
			default:
				act.Perms = sumOf(a[1:], "r", 4, "w", 2, "x", 1, "X", 8, "s", 16, "t", 32)
			}
			c.Acts = append(c.Acts, act)
		}
		l = append(l, c)
	}
	return l, api.OK
}

// sumOf adds the numbers whose letters, each ahead of its own, are in s.
func sumOf(s string, pairs ...any) int {
	n := 0
	for i := 0; i < len(pairs); i += 2 {
		if strings.Contains(s, pairs[i].(string)) {
			n += pairs[i+1].(int)
		}
	}
	return n
}

// eachText hands over all texts of at most n letters.
func eachText(letters string, n int, f func(string)) {
	var grow func(string)
	grow = func(s string) {
		f(s)
		if len(s) == n {
			return
		}
		for i := range len(letters) {
			grow(s + letters[i:i+1])
		}
	}
	grow("")
}

// eachAct is all acts that may be.
func eachAct() []Act {
	var acts []Act
	for _, op := range []byte("+-=") {
		for perms := range 64 {
			acts = append(acts, Act{Op: op, Perms: perms})
		}
		for class := 1; class <= 3; class++ {
			acts = append(acts, Act{Op: op, Copy: class})
		}
	}
	return acts
}

// wrongActs is acts of which each has one thing that may not be.
var wrongActs = []Act{
	{}, {Perms: 1}, {Copy: 1}, {Op: '*'}, {Op: ','}, {Op: 'u'}, {Op: 'r'}, {Op: ' '}, {Op: '+' + 128}, {Op: 255}, {Op: '*', Perms: 4},
	{Op: '+', Perms: -1}, {Op: '-', Perms: 64}, {Op: '=', Perms: 65}, {Op: '+', Perms: 127}, {Op: '+', Perms: -64}, {Op: '+', Perms: math.MaxInt}, {Op: '+', Perms: math.MinInt},
	{Op: '+', Copy: -1}, {Op: '-', Copy: 4}, {Op: '=', Copy: 5}, {Op: '=', Copy: math.MaxInt}, {Op: '=', Copy: math.MinInt},
	{Op: '+', Perms: 1, Copy: 1}, {Op: '-', Perms: 63, Copy: 3}, {Op: '=', Perms: 32, Copy: 2}, {Op: '=', Perms: -1, Copy: -1}, {Op: '+', Perms: 64, Copy: 4},
	{Op: '+', Perms: -1, Copy: 1}, {Op: '+', Perms: 1, Copy: -1},
}

var wrongWhos = []int{-1, -2, -7, -8, 8, 9, 15, 16, 4096, math.MaxInt, math.MinInt}

func wantParse(t *testing.T, s string, want []Clause) {
	t.Helper()
	if l, e := Parse(s); e != api.OK || !reflect.DeepEqual(l, want) {
		t.Errorf("Parse(%q) = %v, %v, want %v", s, l, e, want)
	}
}

func wantEinval(t *testing.T, s string) {
	t.Helper()
	if l, e := Parse(s); e != api.EINVAL || len(l) != 0 {
		t.Errorf("Parse(%q) = %v, %v, want EINVAL", s, l, e)
	}
}

func wantWrong(t *testing.T, l []Clause) {
	t.Helper()
	if Right(l) {
		t.Errorf("Right(%v) is true", l)
	}
	if s := Show(l); s != "" {
		t.Errorf("Show(%v) = %q, want nothing", l, s)
	}
}

// P2.1

func TestParseExamples(t *testing.T) {
	wantParse(t, "ug+rX,o=", []Clause{{3, []Act{{'+', 12, 0}}}, {4, []Act{{'=', 0, 0}}}})
	wantParse(t, "u=g-x", one(1, Act{'=', 0, 2}, Act{'-', 1, 0}))
	wantEinval(t, "+rg")
}

func TestParseWho(t *testing.T) {
	for who, want := range map[string]int{
		"": 0, "u": 1, "g": 2, "ug": 3, "o": 4, "uo": 5, "go": 6, "ugo": 7, "a": 7,
		"gu": 3, "ou": 5, "og": 6, "ogu": 7, "gou": 7,
		"uu": 1, "ggg": 2, "oo": 4, "ugug": 3, "guug": 3, "aa": 7,
		"au": 7, "ua": 7, "ga": 7, "oa": 7, "uag": 7, "augo": 7, "uguguguguguguo": 7,
	} {
		wantParse(t, who+"+r", one(want, Act{'+', 4, 0}))
		wantParse(t, who+"=", one(want, Act{'=', 0, 0}))
	}
}

func TestParsePerms(t *testing.T) {
	for perms, want := range map[string]int{
		"": 0, "r": 4, "w": 2, "x": 1, "X": 8, "s": 16, "t": 32,
		"rw": 6, "wr": 6, "rx": 5, "xX": 9, "Xx": 9, "st": 48, "ts": 48, "rwx": 7, "xwr": 7,
		"rwxXst": 63, "tsXxwr": 63, "rr": 4, "xxx": 1, "XX": 8, "ss": 16, "tt": 32, "ww": 2, "rwrwrw": 6, "tsXxwrrwxXst": 63,
	} {
		for _, op := range []byte("+-=") {
			wantParse(t, string(op)+perms, one(0, Act{op, want, 0}))
			wantParse(t, "go"+string(op)+perms, one(6, Act{op, want, 0}))
		}
	}
}

func TestParseCopy(t *testing.T) {
	for _, op := range []byte("+-=") {
		for i, class := range []string{"u", "g", "o"} {
			wantParse(t, string(op)+class, one(0, Act{op, 0, i + 1}))
			wantParse(t, "a"+string(op)+class, one(7, Act{op, 0, i + 1}))
			wantParse(t, class+string(op)+class, one(1<<i, Act{op, 0, i + 1}))
		}
	}
}

func TestParseSeveralActs(t *testing.T) {
	wantParse(t, "u+r-w=x", one(1, Act{'+', 4, 0}, Act{'-', 2, 0}, Act{'=', 1, 0}))
	wantParse(t, "+-=", one(0, Act{'+', 0, 0}, Act{'-', 0, 0}, Act{'=', 0, 0}))
	wantParse(t, "++", one(0, Act{'+', 0, 0}, Act{'+', 0, 0}))
	wantParse(t, "g=u+g-o", one(2, Act{'=', 0, 1}, Act{'+', 0, 2}, Act{'-', 0, 3}))
	wantParse(t, "o=u+x=", one(4, Act{'=', 0, 1}, Act{'+', 1, 0}, Act{'=', 0, 0}))
	wantParse(t, "a=+rt-g", one(7, Act{'=', 0, 0}, Act{'+', 36, 0}, Act{'-', 0, 2}))
}

func TestParseSeveralClauses(t *testing.T) {
	wantParse(t, "u+r,g-w,o=x", []Clause{{1, []Act{{'+', 4, 0}}}, {2, []Act{{'-', 2, 0}}}, {4, []Act{{'=', 1, 0}}}})
	wantParse(t, "=,=", []Clause{{0, []Act{{'=', 0, 0}}}, {0, []Act{{'=', 0, 0}}}})
	wantParse(t, "a=r+X,+t,u-s=o", []Clause{{7, []Act{{'=', 4, 0}, {'+', 8, 0}}}, {0, []Act{{'+', 32, 0}}}, {1, []Act{{'-', 16, 0}, {'=', 0, 3}}}})
}

func TestParseWrong(t *testing.T) {
	for _, s := range []string{
		"", ",", ",,", ",u+r", "u+r,", "u+r,,o+r", ",+", "+,", "+,,+", "u+r,,", ",,u+r",
		"u", "g", "o", "a", "ugoa", "u,g", "u,g+r", "u+r,g", "+r,a",
		"r", "x", "rwx", "755", "0", "u755", "+7", "r+u", "ur+x", "x+x", "uX+r", "t=",
		"q", "q+r", "uq+r", "qu+r", "u+q", "u+rq", "u+qr", "+R", "+W", "+S", "+T", "U+r", "G+r", "O+r", "A+r", "+U",
		"+a", "=a", "u=a", "u=ra", "u=ar", "+ua",
		"+rg", "+gr", "u+ur", "u+ru", "u=gg", "u=uo", "u=ugo", "+tu", "+Xo", "+os", "u+r=gx", "u+r=xg-w", "u=g,g=ux", "u=gg,+r",
		" ", " u+r", "u+r ", "u +r", "u+ r", "u+r, g+r", "u+r ,g+r", "u r", "u+r;g+r", "u+r\n", "\tu+r", "u*r", "u/r", "u+r.", "u:r", "u+\x00", "\x00+r",
		"u+\u00e9", "\u00e9+r", "u\u00e9+r", "u\u2212r", "\uff35+r", "u+\uff52", "u+\xff", "\xff", "\xff+r", "u\xff+r", "u+r\xff", "u=g\xff", "\ufffd", "u+\ufffd", "\u012b", "u\u012br", "u+\u0172",
		"\u0175+r",
	} {
		wantEinval(t, s)
	}
}

// TestParseOfEachShortText holds each short text, right or wrong, against the words.
func TestParseOfEachShortText(t *testing.T) {
	right := 0
	check := func(s string) {
		want, wantErr := parseSlowly(s)
		got, err := Parse(s)
		if err != wantErr || len(got) != len(want) || len(want) > 0 && !reflect.DeepEqual(got, want) {
			t.Fatalf("Parse(%q) = %v, %v, want %v, %v", s, got, err, want, wantErr)
		}
		if err == api.OK {
			right++
		}
	}
	eachText("ugoa+-=rwxXst,q", 4, check)
	eachText("ua+=rX,", 6, check)
	if right < 10000 {
		t.Errorf("only %d texts of clauses among them", right)
	}
}

// TestParseOfEachByte puts each byte at each place of some texts.
func TestParseOfEachByte(t *testing.T) {
	for _, s := range []string{"ug+rX,o=", "u=g-x", "a+rwxXst", "=", "u,+", "o-t=u"} {
		for at := range len(s) {
			for b := range 256 {
				raw := []byte(s)
				raw[at] = byte(b)
				want, wantErr := parseSlowly(string(raw))
				if l, e := Parse(string(raw)); e != wantErr || len(l)+len(want) > 0 && !reflect.DeepEqual(l, want) {
					t.Errorf("Parse(%q) = %v, %v, want %v, %v", raw, l, e, want, wantErr)
				}
			}
		}
	}
}

func TestParseLong(t *testing.T) {
	const n = 20000
	l, e := Parse(strings.Repeat("ugo", n) + strings.Repeat("+rwxXst", n) + strings.Repeat("=o", n) + strings.Repeat(",a-X", n))
	if e != api.OK || len(l) != n+1 || len(l[0].Acts) != 2*n || l[0].Who != 7 {
		t.Fatalf("%v, %d clauses", e, len(l))
	}
	if l[0].Acts[n-1] != (Act{'+', 63, 0}) || l[0].Acts[n] != (Act{'=', 0, 3}) || !reflect.DeepEqual(l[n], Clause{7, []Act{{'-', 8, 0}}}) {
		t.Error(l[0].Acts[n-1], l[0].Acts[n], l[n])
	}
	wantEinval(t, strings.Repeat("u+r,", n))
	wantEinval(t, strings.Repeat("u", n))
}

func TestParseAnswersNewMemory(t *testing.T) {
	const s = "u+r-w,g=x+t,o=u"
	l, _ := Parse(s)
	for i := range l {
		acts := append(l[i].Acts, Act{'=', 63, 0})
		for k := range acts {
			acts[k] = Act{'-', 9, 0}
		}
		for other := i + 1; other < len(l); other++ {
			if want, _ := parseSlowly(s); !reflect.DeepEqual(l[other], want[other]) {
				t.Errorf("clause %d changed with clause %d: %v", other, i, l[other])
			}
		}
	}
	want, _ := parseSlowly(s)
	wantParse(t, s, want)
}

// P2.2

func TestRightOfEachClause(t *testing.T) {
	for who := range 8 {
		for _, act := range eachAct() {
			if l := one(who, act); !Right(l) {
				t.Fatalf("Right(%v) is false", l)
			}
		}
		if l := one(who, eachAct()...); !Right(l) {
			t.Errorf("all acts, Who %d: Right is false", who)
		}
	}
}

func TestWrongLists(t *testing.T) {
	good := Clause{Who: 1, Acts: []Act{{'+', 4, 0}}}
	wantWrong(t, nil)
	wantWrong(t, []Clause{})
	for _, bad := range wrongClauses() {
		wantWrong(t, []Clause{bad})
		wantWrong(t, []Clause{bad, good})
		wantWrong(t, []Clause{good, bad})
		wantWrong(t, []Clause{good, bad, good})
	}
}

// wrongClauses is clauses of which each has one thing that may not be.
func wrongClauses() []Clause {
	l := []Clause{{}, {Who: 7}, {Who: 1, Acts: []Act{}}}
	for _, who := range wrongWhos {
		l = append(l, Clause{who, []Act{{'+', 4, 0}}}, Clause{who, nil})
	}
	for _, act := range wrongActs {
		for who := range 8 {
			l = append(l, Clause{who, []Act{act}})
		}
		l = append(l, Clause{3, []Act{act, {'+', 4, 0}}}, Clause{3, []Act{{'=', 0, 2}, act}}, Clause{0, []Act{{'-', 1, 0}, act, {'=', 0, 0}}})
	}
	return l
}

func TestRightOfEachOp(t *testing.T) {
	for op := range 256 {
		want := strings.IndexByte("+-=", byte(op)) >= 0
		for _, act := range []Act{{Op: byte(op)}, {Op: byte(op), Perms: 63}, {Op: byte(op), Copy: 3}} {
			if Right(one(2, act)) != want {
				t.Errorf("Right of Op %d is %v", op, !want)
			}
		}
	}
}

func TestRightOfEachNumber(t *testing.T) {
	for n := -70; n <= 140; n++ {
		if got, want := Right(one(n, Act{'+', 1, 0})), n >= 0 && n <= 7; got != want {
			t.Errorf("Who %d: %v", n, got)
		}
		for class := -2; class <= 5; class++ {
			got := Right(one(1, Act{'=', n, class}))
			want := n == 0 && class >= 0 && class <= 3 || class == 0 && n >= 0 && n <= 63
			if got != want {
				t.Errorf("Perms %d, Copy %d: %v", n, class, got)
			}
		}
	}
}

func TestShow(t *testing.T) {
	for _, c := range []struct {
		l    []Clause
		want string
	}{
		{[]Clause{{3, []Act{{'+', 12, 0}}}, {4, []Act{{'=', 0, 0}}}}, "ug+rX,o="},
		{one(1, Act{'=', 0, 2}, Act{'-', 1, 0}), "u=g-x"},
		{one(0, Act{'=', 0, 0}), "="}, {one(0, Act{'+', 0, 0}), "+"}, {one(0, Act{'-', 0, 0}), "-"},
		{one(0, Act{'+', 4, 0}), "+r"}, {one(1, Act{'+', 2, 0}), "u+w"}, {one(2, Act{'+', 1, 0}), "g+x"}, {one(3, Act{'+', 8, 0}), "ug+X"},
		{one(4, Act{'+', 16, 0}), "o+s"}, {one(5, Act{'+', 32, 0}), "uo+t"}, {one(6, Act{'+', 63, 0}), "go+rwxXst"}, {one(7, Act{'+', 6, 0}), "a+rw"},
		{one(7, Act{'=', 0, 1}), "a=u"}, {one(7, Act{'=', 0, 2}), "a=g"}, {one(7, Act{'=', 0, 3}), "a=o"},
		{one(0, Act{'-', 9, 0}), "-xX"}, {one(0, Act{'-', 48, 0}), "-st"}, {one(0, Act{'-', 37, 0}), "-rxt"}, {one(0, Act{'-', 26, 0}), "-wXs"},
		{one(6, Act{'+', 0, 0}, Act{'+', 0, 0}, Act{'-', 0, 3}, Act{'=', 4, 0}), "go++-o=r"},
		{[]Clause{{7, []Act{{'=', 4, 0}, {'+', 8, 0}}}, {0, []Act{{'+', 32, 0}}}, {1, []Act{{'-', 16, 0}, {'=', 0, 3}}}}, "a=r+X,+t,u-s=o"},
	} {
		if got := Show(c.l); got != c.want {
			t.Errorf("Show(%v) = %q, want %q", c.l, got, c.want)
		}
	}
}

// TestShowOfEachClause builds each text by the words alone.
func TestShowOfEachClause(t *testing.T) {
	letters := []struct {
		bit    int
		letter string
	}{{4, "r"}, {2, "w"}, {1, "x"}, {8, "X"}, {16, "s"}, {32, "t"}}
	for who, head := range []string{"", "u", "g", "ug", "o", "uo", "go", "a"} {
		for _, act := range eachAct() {
			want := head + string(act.Op) + []string{"", "u", "g", "o"}[act.Copy]
			for _, p := range letters {
				if act.Perms&p.bit != 0 {
					want += p.letter
				}
			}
			if got := Show(one(who, act)); got != want {
				t.Fatalf("Show(%d, %v) = %q, want %q", who, act, got, want)
			}
		}
	}
}

func TestArgumentsStay(t *testing.T) {
	make3 := func() []Clause {
		return []Clause{{3, []Act{{'+', 12, 0}, {'=', 0, 1}}}, {7, []Act{{'=', 0, 0}}}, {0, []Act{{'-', 33, 0}}}}
	}
	l := make3()
	Right(l)
	Show(l)
	if !reflect.DeepEqual(l, make3()) {
		t.Errorf("changed to %v", l)
	}
}

// P2.3

func TestWhatIsParsedIsRight(t *testing.T) {
	check := func(s string) {
		l, e := Parse(s)
		if Right(l) != (e == api.OK) {
			t.Fatalf("Parse(%q) = %v, %v: Right is %v", s, l, e, Right(l))
		}
		if e != api.OK {
			return
		}
		if again, e := Parse(Show(l)); e != api.OK || !reflect.DeepEqual(again, l) {
			t.Fatalf("Parse(Show(Parse(%q))) = %v, %v, want %v", s, again, e, l)
		}
	}
	eachText("ugoa+-=rwxXst,q", 4, check)
	eachText("go-=xs,", 6, check)
}

func TestWhatIsShownIsParsed(t *testing.T) {
	acts := eachAct()
	check := func(l []Clause) {
		if got, e := Parse(Show(l)); e != api.OK || !reflect.DeepEqual(got, l) {
			t.Fatalf("Parse(Show(%v)) = %v, %v", l, got, e)
		}
	}
	for who := range 8 {
		for i, act := range acts {
			next := acts[(i*7+who)%len(acts)]
			check(one(who, act))
			check(one(who, act, next))
			check([]Clause{{who, []Act{act}}, {7 - who, []Act{next, act}}, {who, []Act{next}}})
		}
		check(one(who, acts...))
	}
}
