package paths

import (
	"math/rand"
	"regexp"
	"slices"
	"strings"
	"testing"
)

// asked is a path, and what the chapter asks of it.
type asked struct {
	path  string
	root  bool
	split string // the names that Split tells, with a space between
	base  string
	up    string
	steps string // with a space between
}

var table = []asked{
	{"", false, "", "", ".", ""},
	{"/", true, "", "/", "/", ""},
	{"//", true, "", "/", "/", ""},
	{"///", true, "", "/", "/", ""},
	{"a", false, "a", "a", ".", "a"},
	{"/a", true, "a", "a", "/", "/a"},
	{"//a", true, "a", "a", "/", "//a"},
	{"a/", false, "a .", "a", ".", "a"},
	{"a//", false, "a .", "a", ".", "a"},
	{"/a/", true, "a .", "a", "/", "/a"},
	{"///a///", true, "a .", "a", "/", "///a"},
	{"a/b", false, "a b", "b", "a", "a a/b"},
	{"a//b", false, "a b", "b", "a", "a a//b"},
	{"a///b//", false, "a b .", "b", "a", "a a///b"},
	{"/a/b/", true, "a b .", "b", "/a", "/a /a/b"},
	{"/a//b/", true, "a b .", "b", "/a", "/a /a//b"},
	{"//a//b", true, "a b", "b", "//a", "//a //a//b"},
	{"/a/b/c", true, "a b c", "c", "/a/b", "/a /a/b /a/b/c"},
	{"a//b//c", false, "a b c", "c", "a//b", "a a//b a//b//c"},
	{"aa/aa/aa", false, "aa aa aa", "aa", "aa/aa", "aa aa/aa aa/aa/aa"},
	{"abc/de/f/", false, "abc de f .", "f", "abc/de", "abc abc/de abc/de/f"},
	{".", false, ".", ".", ".", "."},
	{"..", false, "..", "..", ".", ".."},
	{"./", false, ". .", ".", ".", "."},
	{"/.", true, ".", ".", "/", "/."},
	{"/..", true, "..", "..", "/", "/.."},
	{"../", false, ".. .", "..", ".", ".."},
	{"./..", false, ". ..", "..", ".", ". ./.."},
	{"../..", false, ".. ..", "..", "..", ".. ../.."},
	{"a/.", false, "a .", ".", "a", "a a/."},
	{"a/./", false, "a . .", ".", "a", "a a/."},
	{"a/../b", false, "a .. b", "b", "a/..", "a a/.. a/../b"},
	{"/./a/..//b", true, ". a .. b", "b", "/./a/..", "/. /./a /./a/.. /./a/..//b"},
	{"...", false, "...", "...", ".", "..."},
	{"-", false, "-", "-", ".", "-"},
	{`a\b`, false, `a\b`, `a\b`, ".", `a\b`},
	{"\x00/\x00", false, "\x00 \x00", "\x00", "\x00", "\x00 \x00/\x00"},
	{"\xff/\xc3/", false, "\xff \xc3 .", "\xc3", "\xff", "\xff \xff/\xc3"},
	{"é/∕/ü", false, "é ∕ ü", "ü", "é/∕", "é é/∕ é/∕/ü"},
	{"\u002f\u012f", true, "\u012f", "\u012f", "/", "/\u012f"},
}

// words is what stands between single spaces; none of an empty text.
func words(s string) []string {
	if s == "" {
		return nil
	}
	return strings.Split(s, " ")
}

func wantSplit(t *testing.T, path string, wantRoot bool, want []string) {
	t.Helper()
	if root, names := Split(path); root != wantRoot || !slices.Equal(names, want) {
		t.Errorf("Split(%q) = %v, %q, want %v, %q", path, root, names, wantRoot, want)
	}
}

func wantText(t *testing.T, what string, f func(string) string, path, want string) {
	t.Helper()
	if got := f(path); got != want {
		t.Errorf("%s(%q) = %q, want %q", what, path, got, want)
	}
}

func wantSteps(t *testing.T, path string, want []string) {
	t.Helper()
	if got := Steps(path); !slices.Equal(got, want) {
		t.Errorf("Steps(%q) = %q, want %q", path, got, want)
	}
}

// eachText hands over all texts of up to some of the signs.
func eachText(signs string, most int, f func(string)) {
	var add func(s string, more int)
	add = func(s string, more int) {
		f(s)
		if more > 0 {
			for i := range len(signs) {
				add(s+signs[i:i+1], more-1)
			}
		}
	}
	add("", most)
}

// A second reading of the chapter: names by a pattern.

var namePattern = regexp.MustCompile(`[^/]+`)

func secondNames(path string) []string { return namePattern.FindAllString(path, -1) }

func secondSplit(path string) (bool, []string) {
	names := secondNames(path)
	if strings.HasSuffix(path, "/") && len(names) > 0 {
		names = append(names, ".")
	}
	return strings.HasPrefix(path, "/"), names
}

func secondBase(path string) string {
	if names := secondNames(path); len(names) > 0 {
		return names[len(names)-1]
	}
	if strings.HasPrefix(path, "/") {
		return "/"
	}
	return ""
}

func secondUp(path string) string {
	trimmed := strings.TrimRight(path, "/")
	ahead := strings.TrimRight(trimmed[:strings.LastIndex(trimmed, "/")+1], "/")
	if ahead != "" {
		return ahead
	}
	if strings.HasPrefix(path, "/") {
		return "/"
	}
	return "."
}

func secondSteps(path string) []string {
	var steps []string
	for _, place := range namePattern.FindAllStringIndex(path, -1) {
		steps = append(steps, path[:place[1]])
	}
	return steps
}

func holdAgainstSecondReading(t *testing.T, path string) {
	t.Helper()
	root, names := secondSplit(path)
	wantSplit(t, path, root, names)
	wantText(t, "Base", Base, path, secondBase(path))
	wantText(t, "Up", Up, path, secondUp(path))
	wantSteps(t, path, secondSteps(path))
	if t.Failed() {
		t.FailNow()
	}
}

// P7.1

func TestSplit(t *testing.T) {
	for _, a := range table {
		wantSplit(t, a.path, a.root, words(a.split))
	}
}

// TestEachSplit: all paths of up to ten signs.
func TestEachSplit(t *testing.T) {
	eachText("/a.", 10, func(path string) { holdAgainstSecondReading(t, path) })
}

// TestEachByteSplit: no byte but a slash parts names.
func TestEachByteSplit(t *testing.T) {
	for b := range 256 {
		sign := string([]byte{byte(b)})
		if sign == "/" {
			continue
		}
		wantSplit(t, sign, false, []string{sign})
		wantSplit(t, "/x"+sign+"y/"+sign+"/", true, []string{"x" + sign + "y", sign, "."})
		wantSplit(t, sign+"//"+sign+sign, false, []string{sign, sign + sign})
		wantText(t, "Base", Base, "x/"+sign+"/", sign)
		wantText(t, "Up", Up, "x"+sign+"//y", "x"+sign)
		wantText(t, "Up", Up, sign+"y", ".")
		wantSteps(t, sign+"/"+sign+"y", []string{sign, sign + "/" + sign + "y"})
	}
}

// TestManyPaths: longer paths of any of some signs, with a seed that stays.
func TestManyPaths(t *testing.T) {
	const signs = "///ab..\x00\xc3\xa9\xff \n"
	chance := rand.New(rand.NewSource(7))
	for range 50000 {
		path := make([]byte, chance.Intn(90))
		for i := range path {
			path[i] = signs[chance.Intn(len(signs))]
		}
		holdAgainstSecondReading(t, string(path))
	}
}

func TestLongPaths(t *testing.T) {
	const many = 20000
	names := slices.Repeat([]string{"ab"}, many)
	long := strings.Repeat("ab/", many)
	wantSplit(t, "/"+long, true, append(names, "."))
	wantSplit(t, strings.TrimSuffix(long, "/"), false, names)
	wantSplit(t, strings.Repeat("/", many), true, nil)
	wantSplit(t, strings.Repeat("/", many)+"ab", true, []string{"ab"})
	if steps := Steps(long); len(steps) != many || steps[many-1]+"/" != long || Up(long) != steps[many-2] {
		t.Error("the steps of a long path", len(steps))
	}
	if one := strings.Repeat("a", many); Base(one+"/"+one+"b") != one+"b" || Up(one+"/b") != one {
		t.Error("long names")
	}
}

func TestName(t *testing.T) {
	for _, s := range []string{"a", "-", " ", "...", "....", ".a", "a.", "..a", "a..", ". ", " .", "~", `\`, "\n", "\xff", "\x01", "é", "∕", strings.Repeat(".", 12), strings.Repeat("a", 11), strings.Repeat("a", 12), strings.Repeat("é", 6)} {
		if !Name(s) {
			t.Errorf("Name(%q) is false", s)
		}
	}
	for _, s := range []string{"", ".", "..", "/", "//", "a/", "/a", "a/b", "./", "../", "/.", "\x00", "a\x00", "\x00a", "a\x00b", ".\x00", "..\x00", "...........\x00", "...........\x2f", strings.Repeat("a", 13), strings.Repeat(".", 13), strings.Repeat("é", 7), strings.Repeat("a", 12) + "\x00", strings.Repeat("a", 70000)} {
		if Name(s) {
			t.Errorf("Name(%.20q) is true", s)
		}
	}
}

func TestFits(t *testing.T) {
	for _, s := range []string{"a", "/", ".", "..", "//", "a/b", "a/", " ", "\n", "\xff", "\x01", strings.Repeat("a", 13), strings.Repeat("a", 63), strings.Repeat("a", 64), strings.Repeat("/", 64), strings.Repeat("é", 32), strings.Repeat("ab/d", 16)} {
		if !Fits(s) {
			t.Errorf("Fits(%q) is false", s)
		}
	}
	for _, s := range []string{"", "\x00", "a\x00", "\x00a", "a\x00b", "/\x00", "a/\x00/b", strings.Repeat("a", 63) + "\x00", "\x00" + strings.Repeat("a", 63), strings.Repeat("a", 65), strings.Repeat("/", 65), strings.Repeat("é", 32) + "a", strings.Repeat("a", 64) + "\x00", strings.Repeat("a", 70000)} {
		if Fits(s) {
			t.Errorf("Fits(%.20q) is true", s)
		}
	}
}

// TestEachByteAndLength: each byte at each place of texts of each length around the limits.
func TestEachByteAndLength(t *testing.T) {
	for length := 1; length <= 70; length++ {
		for at := range length {
			for b := range 256 {
				s := []byte(strings.Repeat("x", length))
				s[at] = byte(b)
				if want := length <= 12 && b != 0 && b != '/' && !(length == 1 && b == '.'); Name(string(s)) != want {
					t.Fatalf("Name(%q) isn't %v", s, want)
				}
				if want := length <= 64 && b != 0; Fits(string(s)) != want {
					t.Fatalf("Fits(%q) isn't %v", s, want)
				}
			}
		}
	}
}

// TestEachShortName: all texts of up to five signs.
func TestEachShortName(t *testing.T) {
	eachText("./a\x00", 5, func(s string) {
		if want := s != "" && s != "." && s != ".." && !strings.ContainsAny(s, "/\x00"); Name(s) != want {
			t.Errorf("Name(%q) isn't %v", s, want)
		}
		if want := s != "" && !strings.Contains(s, "\x00"); Fits(s) != want {
			t.Errorf("Fits(%q) isn't %v", s, want)
		}
	})
}

// P7.2

func TestJoin(t *testing.T) {
	for _, c := range [][3]string{
		{"", "", ""}, {"", "x", "x"}, {"", "/x", "/x"}, {"", "a/b", "a/b"}, {"", "/", "/"},
		{"/", "x", "/x"}, {"//", "x", "//x"}, {"/", "", "/"}, {"/", "/x", "//x"},
		{"a", "x", "a/x"}, {"a", "", "a/"}, {"a", "/x", "a//x"}, {"a", "..", "a/.."}, {"a", "x/", "a/x/"},
		{"a/", "x", "a/x"}, {"a//", "x", "a//x"}, {"a/", "", "a/"}, {"a/", "/", "a//"},
		{"/a", "x", "/a/x"}, {"/a/b", "x", "/a/b/x"}, {"/a/b/", "x", "/a/b/x"},
		{".", "x", "./x"}, {"..", "x", "../x"}, {".", ".", "./."}, {"\x00", "\xff", "\x00/\xff"}, {"∕", "x", "∕/x"},
	} {
		if got := Join(c[0], c[1]); got != c[2] {
			t.Errorf("Join(%q, %q) = %q, want %q", c[0], c[1], got, c[2])
		}
	}
}

// TestEachJoin: all texts of up to four signs below all such ones.
func TestEachJoin(t *testing.T) {
	eachText("/a.", 4, func(dir string) {
		eachText("/a.", 4, func(name string) {
			want := dir + "/" + name
			if dir == "" || strings.HasSuffix(dir, "/") {
				want = dir + name
			}
			if got := Join(dir, name); got != want {
				t.Errorf("Join(%q, %q) = %q, want %q", dir, name, got, want)
			}
		})
	})
}

func TestBase(t *testing.T) {
	for _, a := range table {
		wantText(t, "Base", Base, a.path, a.base)
	}
}

func TestUp(t *testing.T) {
	for _, a := range table {
		wantText(t, "Up", Up, a.path, a.up)
	}
}

// P7.3

func TestSteps(t *testing.T) {
	for _, a := range table {
		wantSteps(t, a.path, words(a.steps))
	}
}

// TestNewMemory: what is answered once isn't changed by who changes what is answered again.
func TestNewMemory(t *testing.T) {
	const path = "/a/b/"
	_, names := Split(path)
	steps := Steps(path)
	for _, list := range [][]string{names, steps} {
		for i := range list {
			list[i] = "changed"
		}
	}
	wantSplit(t, path, true, []string{"a", "b", "."})
	wantSteps(t, path, []string{"/a", "/a/b"})
}

// P7.4

func TestBaseAndUpOfJoin(t *testing.T) {
	names := []string{"x", ".", "..", "...", "xy", "\x00", "\xff", " ", "a", strings.Repeat("x", 12), strings.Repeat("x", 100)}
	eachText("/a.", 7, func(dir string) {
		for _, name := range names {
			joined := Join(dir, name)
			wantText(t, "Base", Base, joined, name)
			if strings.Trim(dir, "/") != "" && !strings.HasSuffix(dir, "/") {
				wantText(t, "Up", Up, joined, dir)
			}
		}
	})
}
