package opts

import (
	"fmt"
	"math/rand"
	"slices"
	"strings"
	"testing"

	"gaoler/api"
)

type parsed struct {
	may  string
	args []string
}

func (p parsed) String() string { return fmt.Sprintf("Parse(%q, %q)", p.may, p.args) }

func flag(letter byte) Flag { return Flag{Letter: letter} }

func same(a, b Opts) bool {
	return slices.Equal(a.Flags, b.Flags) && slices.Equal(a.Rest, b.Rest)
}

func wantOpts(t *testing.T, p parsed, want Opts) {
	t.Helper()
	if got, err := Parse(p.may, p.args...); err != api.OK || !same(got, want) {
		t.Errorf("%v = %q, %v, want %q", p, got, err, want)
	}
}

func wantRefused(t *testing.T, p parsed) {
	t.Helper()
	if got, err := Parse(p.may, p.args...); err != api.EINVAL || got.Flags != nil || got.Rest != nil {
		t.Errorf("%v = %q, %v, want nothing and EINVAL", p, got, err)
	}
}

// P6.1

func TestExamples(t *testing.T) {
	wantOpts(t, parsed{"Rm:", []string{"-Rm755", "a"}}, Opts{[]Flag{flag('R'), {'m', "755"}}, []string{"a"}})
	wantRefused(t, parsed{"Rm:", []string{"-m"}})
	wantOpts(t, parsed{"Rm:", []string{"--", "-R"}}, Opts{nil, []string{"-R"}})
}

func TestOperands(t *testing.T) {
	for _, args := range [][]string{
		nil, {}, {""}, {"-"}, {"a"}, {"a", "b", "a"}, {"", ""}, {"-", "-"}, {"R"}, {"m755"}, {" "}, {" -R"}, {"+R"}, {"\x00"}, {"é"}, {"a-"}, {":"},
		// Behind the first one all are operands, whatever they are.
		{"a", "-R"}, {"a", "--"}, {"a", "--", "-R"}, {"a", "-x"}, {"a", "-m"}, {"a", "-"}, {"", "-R"}, {"", "--", "-R"}, {"-", "-R", "-x"}, {"-", "--"}, {"-", "", "a"}, {"u+x", "-m", "-R"},
	} {
		wantOpts(t, parsed{"Rm:", args}, Opts{nil, args})
		wantOpts(t, parsed{"", args}, Opts{nil, args})
	}
}

func TestLetters(t *testing.T) {
	r, h, l := flag('R'), flag('H'), flag('L')
	for _, c := range []struct {
		args []string
		want Opts
	}{
		{[]string{"-R"}, Opts{[]Flag{r}, nil}},
		{[]string{"-RH"}, Opts{[]Flag{r, h}, nil}},
		{[]string{"-HR"}, Opts{[]Flag{h, r}, nil}},
		{[]string{"-R", "-H"}, Opts{[]Flag{r, h}, nil}},
		{[]string{"-RR", "-R"}, Opts{[]Flag{r, r, r}, nil}},
		{[]string{"-RHL", "-LH", "a"}, Opts{[]Flag{r, h, l, l, h}, []string{"a"}}},
		{[]string{"-R", "a", "-H"}, Opts{[]Flag{r}, []string{"a", "-H"}}},
		{[]string{"-R", "", "-H"}, Opts{[]Flag{r}, []string{"", "-H"}}},
		{[]string{"-R", "-", "-H"}, Opts{[]Flag{r}, []string{"-", "-H"}}},
		{[]string{"-R", "--", "-H"}, Opts{[]Flag{r}, []string{"-H"}}},
		{[]string{"-R", "--"}, Opts{[]Flag{r}, nil}},
		{[]string{"-R", "--", "--", "a"}, Opts{[]Flag{r}, []string{"--", "a"}}},
	} {
		wantOpts(t, parsed{"RHL", c.args}, c.want)
	}
}

func TestValues(t *testing.T) {
	r := flag('R')
	m := func(value string) Flag { return Flag{'m', value} }
	o := func(value string) Flag { return Flag{'o', value} }
	for _, c := range []struct {
		args []string
		want Opts
	}{
		{[]string{"-m7"}, Opts{[]Flag{m("7")}, nil}},
		{[]string{"-m", "7"}, Opts{[]Flag{m("7")}, nil}},
		{[]string{"-m", "7", "8"}, Opts{[]Flag{m("7")}, []string{"8"}}},
		{[]string{"-m7", "8"}, Opts{[]Flag{m("7")}, []string{"8"}}},
		{[]string{"-Rm", "7", "-R"}, Opts{[]Flag{r, m("7"), r}, nil}},
		{[]string{"-mR"}, Opts{[]Flag{m("R")}, nil}},
		{[]string{"-mR", "-R"}, Opts{[]Flag{m("R"), r}, nil}},
		{[]string{"-mm", "-mo", "-om"}, Opts{[]Flag{m("m"), m("o"), o("m")}, nil}},
		{[]string{"-m", "-m", "-o", "-o"}, Opts{[]Flag{m("-m"), o("-o")}, nil}},
		{[]string{"-m", "-x"}, Opts{[]Flag{m("-x")}, nil}},
		{[]string{"-mx-:", "-oy"}, Opts{[]Flag{m("x-:"), o("y")}, nil}},
		{[]string{"-m-", "-o:", "-R"}, Opts{[]Flag{m("-"), o(":"), r}, nil}},
		{[]string{"-m--", "-R"}, Opts{[]Flag{m("--"), r}, nil}},
		{[]string{"-m:7"}, Opts{[]Flag{m(":7")}, nil}},
		{[]string{"-m=7"}, Opts{[]Flag{m("=7")}, nil}},
		{[]string{"-m", ""}, Opts{[]Flag{m("")}, nil}},
		{[]string{"-m", "", "-R"}, Opts{[]Flag{m(""), r}, nil}},
		{[]string{"-m", "-", "-R"}, Opts{[]Flag{m("-"), r}, nil}},
		{[]string{"-m", "--", "-R"}, Opts{[]Flag{m("--"), r}, nil}},
		{[]string{"-m", "--", "--", "-R"}, Opts{[]Flag{m("--")}, []string{"-R"}}},
		{[]string{"-m", "7", "--", "-m"}, Opts{[]Flag{m("7")}, []string{"-m"}}},
		{[]string{"-m", "a", "b", "-m"}, Opts{[]Flag{m("a")}, []string{"b", "-m"}}},
		{[]string{"-m1", "-m2", "-o3", "-m4"}, Opts{[]Flag{m("1"), m("2"), o("3"), m("4")}, nil}},
	} {
		wantOpts(t, parsed{"Rm:o:", c.args}, c.want)
	}
}

func TestRefused(t *testing.T) {
	for _, args := range [][]string{
		{"-x"}, {"-Rx"}, {"-xR"}, {"-RRRx"}, {"-R", "-x"}, {"-r"}, {"-M7"}, {"-R "}, {"- R"}, {"-\x00"}, {"-é"}, {"-R\n"},
		{"-:"}, {"-R:"}, {"-:R"}, {"-R-"}, {"---"}, {"--R"}, {"--m"}, {"--m=7"}, {"--R", "--"}, {"-R-R"},
		{"-m"}, {"-Rm"}, {"-m7", "-m"}, {"-m", "7", "-m"}, {"-m", "--", "-m"}, {"-RRm"}, {"-R", "-Rm"},
		// What came ahead of the fault, and what stands behind it, plays no part.
		{"-x", "a"}, {"-Rm7", "-x", "a"}, {"-R", "-x", "--", "a"}, {"-m7", "-:", "a", "b"}, {"-x", "-m"},
	} {
		wantRefused(t, parsed{"Rm:", args})
	}
	for _, args := range [][]string{{"-R"}, {"-:"}, {"---"}, {"-a", "b"}} {
		wantRefused(t, parsed{"", args})
	}
}

// TestMay: which letters may be, and have values, by where they stand in may.
func TestMay(t *testing.T) {
	for _, may := range []string{"a", "aa", "aa:", "aba:", "ba", "b:a", ":a", "::a", "-a", "a-", "a-:", "a\x00:", "ab:", "b::a", "a\xff:"} {
		wantOpts(t, parsed{may, []string{"-aa", "x"}}, Opts{[]Flag{flag('a'), flag('a')}, []string{"x"}})
	}
	for _, may := range []string{"a:", "a::", "a:a", "ba:", ":a:", "::a:", "-a:", "a:b", "a:ba", "a:-", "b:a:", "a:a:"} {
		wantOpts(t, parsed{may, []string{"-aa", "x"}}, Opts{[]Flag{{'a', "a"}}, []string{"x"}})
		wantOpts(t, parsed{may, []string{"-a", "x"}}, Opts{[]Flag{{'a', "x"}}, nil})
		wantRefused(t, parsed{may, []string{"-a"}})
	}
	for _, may := range []string{"", ":", "::", "-", "--", "A", "b", "b:", "A:", ":b", "b-:", "\x00", "é"} {
		wantRefused(t, parsed{may, []string{"-a"}})
		wantRefused(t, parsed{may, []string{"-aa", "x"}})
		wantOpts(t, parsed{may, []string{"--", "-a"}}, Opts{nil, []string{"-a"}})
		wantOpts(t, parsed{may, []string{"a"}}, Opts{nil, []string{"a"}})
	}
	for _, may := range []string{"-", "--", "-:", ":", "::", ":-", ":-:", "-a:", "a-", "a:-:", ":::"} {
		for _, word := range []string{"-:", "---", "--:", "-:-", "--a", "-::"} {
			wantRefused(t, parsed{may, []string{word, "x", "y"}})
		}
		wantOpts(t, parsed{may, []string{"--", "-:"}}, Opts{nil, []string{"-:"}})
		wantOpts(t, parsed{may, []string{"-", "-:"}}, Opts{nil, []string{"-", "-:"}})
	}
}

// TestEachLetter: a letter is a byte, whatever byte it is, and isn't any other one.
func TestEachLetter(t *testing.T) {
	for a := range 256 {
		letter := string([]byte{byte(a)})
		for b := range 256 {
			other := string([]byte{byte(b)})
			plain := parsed{letter, []string{"-" + other + other, "x"}}
			valued := parsed{letter + ":", []string{"-" + other, "x", "y"}}
			if a != b || b == '-' || b == ':' {
				wantRefused(t, plain)
			} else {
				wantOpts(t, plain, Opts{[]Flag{flag(byte(b)), flag(byte(b))}, []string{"x"}})
			}
			switch {
			case b == '-': // the word that ends options
				wantOpts(t, valued, Opts{nil, []string{"x", "y"}})
			case a != b || b == ':':
				wantRefused(t, valued)
			default:
				wantOpts(t, valued, Opts{[]Flag{{byte(b), "x"}}, []string{"y"}})
			}
		}
	}
}

// secondReading is P6.1 in other words: the letters that may be as a map, and the words taken from the front.
func secondReading(may string, args []string) (Opts, api.Errno) {
	hasValue := map[byte]bool{}
	for i := len(may) - 1; i >= 0; i-- {
		if may[i] != '-' && may[i] != ':' {
			hasValue[may[i]] = strings.HasPrefix(may[i+1:], ":")
		}
	}
	var o Opts
	for i := 0; i < len(args); i++ {
		letters, begins := strings.CutPrefix(args[i], "-")
		if letters == "-" && begins {
			o.Rest = args[i+1:]
			return o, api.OK
		}
		if !begins || letters == "" {
			o.Rest = args[i:]
			return o, api.OK
		}
		for letters != "" {
			letter := letters[0]
			letters = letters[1:]
			valued, known := hasValue[letter]
			if !known {
				return Opts{}, api.EINVAL
			}
			if valued && letters == "" {
				if i++; i == len(args) {
					return Opts{}, api.EINVAL
				}
				o.Flags = append(o.Flags, Flag{letter, args[i]})
			} else if valued {
				o.Flags = append(o.Flags, Flag{letter, letters})
				letters = ""
			} else {
				o.Flags = append(o.Flags, Flag{letter, ""})
			}
		}
	}
	return o, api.OK
}

func holdAgainstSecondReading(t *testing.T, p parsed) {
	t.Helper()
	want, wantErr := secondReading(p.may, p.args)
	if got, err := Parse(p.may, p.args...); err != wantErr || !same(got, want) {
		t.Fatalf("%v = %q, %v, want %q, %v", p, got, err, want, wantErr)
	}
}

// TestEachShortList: all lists of up to four of some words.
func TestEachShortList(t *testing.T) {
	words := []string{"", "-", "--", "---", "a", "m", ":", "-a", "-m", "-x", "-:", "-aa", "-am", "-ma", "-mm", "-a-", "-m-", "--a", "-ax", "-m:"}
	for _, may := range []string{"am:", "m:a", "ma", "a:m:", "-a:m", ""} {
		var try func(args []string, more int)
		try = func(args []string, more int) {
			holdAgainstSecondReading(t, parsed{may, args})
			if more > 0 {
				for _, word := range words {
					try(append(slices.Clone(args), word), more-1)
				}
			}
		}
		try(nil, 4)
	}
}

// TestEachShortMay: all texts of up to five signs as what may be.
func TestEachShortMay(t *testing.T) {
	lists := [][]string{{"-a"}, {"-b"}, {"-ab"}, {"-ba", "-b"}, {"-aa", "b", "-a"}, {"-b", "--", "--", "-a"}, {"--", "-a"}, {"---", "a"}, {"-:", "a"}, {"-a:", "b"}, {"-a-", "b"}, {"a", "-a"}, {"-ab", "-a", "-b", "-ba", ""}}
	var try func(may string, more int)
	try = func(may string, more int) {
		for _, args := range lists {
			holdAgainstSecondReading(t, parsed{may, args})
		}
		if more > 0 {
			for _, sign := range []string{"a", "b", ":", "-"} {
				try(may+sign, more-1)
			}
		}
	}
	try("", 5)
}

// TestManyLists: long lists of words of any of some signs, with a seed that stays.
func TestManyLists(t *testing.T) {
	chance := rand.New(rand.NewSource(6))
	text := func(signs string, most int) string {
		b := make([]byte, chance.Intn(most+1))
		for i := range b {
			b[i] = signs[chance.Intn(len(signs))]
		}
		return string(b)
	}
	for range 50000 {
		p := parsed{may: text("abRm:\xc3\xa9\x00-", 9)}
		for range chance.Intn(9) {
			word := text("abRm\xc3\xa9\x00", 4)
			if chance.Intn(5) > 0 {
				word = "-" + word
			}
			if chance.Intn(20) == 0 {
				word += text("-:", 1)
			}
			p.args = append(p.args, word)
		}
		holdAgainstSecondReading(t, p)
	}
}

func TestLongLists(t *testing.T) {
	const many = 20000
	letters := strings.Repeat("R", many)
	got, err := Parse("R", "-"+letters, letters)
	if err != api.OK || len(got.Flags) != many || len(got.Rest) != 1 || got.Rest[0] != letters {
		t.Error("a long word", len(got.Flags), len(got.Rest), err)
	}
	words := append(slices.Repeat([]string{"-m", "--"}, many), "--")
	got, err = Parse("m:", append(words, words...)...)
	if err != api.OK || len(got.Flags) != many || !slices.Equal(got.Rest, words) {
		t.Error("many words", len(got.Flags), len(got.Rest), err)
	}
	wantRefused(t, parsed{"R", []string{"-" + letters + "x"}})
}

// TestNewMemory: the list that is handed in isn't changed, and isn't what is answered.
func TestNewMemory(t *testing.T) {
	args := []string{"-Rm", "7", "a", "b", "behind"}
	before := slices.Clone(args)
	handed := args[:4]
	got, _ := Parse("Rm:", handed...)
	got.Rest = append(got.Rest, "c")
	got.Rest[0], got.Flags[1].Value = "x", "y"
	if !slices.Equal(args, before) {
		t.Errorf("the words became %q", args)
	}
	got, _ = Parse("Rm:", handed...)
	for i := range args {
		args[i] = "changed"
	}
	if want := (Opts{[]Flag{flag('R'), {'m', "7"}}, []string{"a", "b"}}); !same(got, want) {
		t.Errorf("the answer became %q", got)
	}
	one, _ := Parse("R", "-R", "a")
	other, _ := Parse("R", "-R", "a")
	one.Flags[0].Letter, one.Rest[0] = 'x', "x"
	if want := (Opts{[]Flag{flag('R')}, []string{"a"}}); !same(other, want) {
		t.Errorf("another answer became %q", other)
	}
}

// P6.2

func TestAsked(t *testing.T) {
	o, err := Parse("RHLPm:o:", "-RH", "-m1", "-L", "-m", "2", "-o", "", "P", "-P")
	if err != api.OK {
		t.Fatal(err)
	}
	for _, letter := range []byte("RHLmo") {
		if !o.Has(letter) {
			t.Errorf("Has(%q) is false", letter)
		}
	}
	for _, letter := range []byte("PrhMx:-\x00") {
		if o.Has(letter) {
			t.Errorf("Has(%q) is true", letter)
		}
	}
	for letters, want := range map[string]byte{
		"": 0, "P": 0, "x": 0, "\x00": 0, ":-": 0, "rhl": 0, "R": 'R', "RH": 'H', "HR": 'H', "HLP": 'L', "LPH": 'L', "PR": 'R', "RHLPm": 'm', "mo": 'o', "om": 'o', "xRx": 'R', "HHR": 'H',
	} {
		if got := o.Last(letters); got != want {
			t.Errorf("Last(%q) = %q, want %q", letters, got, want)
		}
	}
	for letter, want := range map[byte]string{'m': "2", 'o': "", 'R': "", 'H': "", 'L': ""} {
		if got, ok := o.Value(letter); got != want || !ok {
			t.Errorf("Value(%q) = %q, %v, want %q", letter, got, ok, want)
		}
	}
	for _, letter := range []byte("PMx:\x00") {
		if got, ok := o.Value(letter); got != "" || ok {
			t.Errorf("Value(%q) = %q, %v", letter, got, ok)
		}
	}
}

// anyOpts is options as no Parse makes them, too.
var anyOpts = []Opts{
	{},
	{Flags: []Flag{}, Rest: []string{}},
	{Rest: []string{"-R", "R", "--"}},
	{Flags: []Flag{{0, "nought"}}},
	{Flags: []Flag{{0, ""}, {'R', ""}}},
	{Flags: []Flag{{'R', ""}, {0, "nought"}}},
	{Flags: []Flag{{'-', "dash"}, {':', "colon"}, {'-', ""}}},
	{Flags: []Flag{{'m', "1"}, {'R', "2"}, {'m', "3"}}, Rest: []string{"m"}},
	{Flags: []Flag{{'m', "1"}, {'m', ""}}},
	{Flags: []Flag{{'m', ""}, {'m', "1"}}},
	{Flags: []Flag{{'H', ""}, {'L', ""}, {'P', ""}, {'L', ""}}},
	{Flags: []Flag{{0xc3, "one"}, {0xa9, "two"}, {0xff, "three"}, {0xe9, "four"}}},
	{Flags: []Flag{{0xe9, "one"}, {0xa9, "two"}, {0xc3, "three"}, {0x80, "four"}}},
}

// TestAskedOfAny: each letter, and each two of them, of any options.
func TestAskedOfAny(t *testing.T) {
	for _, o := range anyOpts {
		// Where each letter stands last, counted from 1 on.
		last := map[byte]int{}
		for i, f := range o.Flags {
			last[f.Letter] = i + 1
		}
		for a := range 256 {
			letter := byte(a)
			at := last[letter]
			want := ""
			if at > 0 {
				want = o.Flags[at-1].Value
			}
			if got := o.Has(letter); got != (at > 0) {
				t.Errorf("%q: Has(%q) = %v", o, letter, got)
			}
			if got, ok := o.Value(letter); got != want || ok != (at > 0) {
				t.Errorf("%q: Value(%q) = %q, %v, want %q", o, letter, got, ok, want)
			}
			for b := range 256 {
				later := max(at, last[byte(b)])
				var want byte
				if later > 0 {
					want = o.Flags[later-1].Letter
				}
				if got := o.Last(string([]byte{letter, byte(b)})); got != want {
					t.Errorf("%q: Last of %q and %q = %q, want %q", o, letter, byte(b), got, want)
				}
			}
		}
		if got := o.Last(""); got != 0 {
			t.Errorf("%q: Last of none = %q", o, got)
		}
	}
}

// TestAskingChanges nothing, and the same is answered again.
func TestAskingChanges(t *testing.T) {
	for _, o := range anyOpts {
		before := Opts{slices.Clone(o.Flags), slices.Clone(o.Rest)}
		for range 2 {
			o.Has('m')
			o.Last("mRHLP")
			o.Value('m')
		}
		if !same(o, before) {
			t.Errorf("%q became %q", before, o)
		}
	}
}

// P6.3

func TestBehindDashes(t *testing.T) {
	words := []string{"", "-", "--", "---", "-R", "-m", "-m7", "-x", "-:", "-R-", "a", "--R", "-\x00", "é"}
	ahead := []struct {
		args  []string
		flags []Flag
	}{
		{nil, nil},
		{[]string{"-R"}, []Flag{flag('R')}},
		{[]string{"-Rm7", "-R"}, []Flag{flag('R'), {'m', "7"}, flag('R')}},
		{[]string{"-m", "--"}, []Flag{{'m', "--"}}},
	}
	for _, c := range ahead {
		for _, one := range words {
			for _, other := range words {
				rest := []string{one, other, one}
				wantOpts(t, parsed{"Rm:", slices.Concat(c.args, []string{"--"}, rest)}, Opts{c.flags, rest})
			}
			wantOpts(t, parsed{"Rm:", slices.Concat(c.args, []string{"--", one})}, Opts{c.flags, []string{one}})
		}
		wantOpts(t, parsed{"Rm:", slices.Concat(c.args, []string{"--"})}, Opts{c.flags, nil})
	}
}
