package modes

import (
	"fmt"
	"math"
	"strings"
	"testing"

	"gaoler/api"
)

// noModes pairs numbers that are no mode with the mode that counts for them.
var noModes = map[int]int{
	-1: 4095, -2: 4094, -4095: 1, -4096: 0, -4097: 4095,
	4096: 0, 4097: 1, 8191: 4095, 8192 + 0o4755: 0o4755, -4096 + 0o640: 0o640,
	math.MaxInt: 4095, math.MinInt: 0, math.MinInt + 5: 5,
}

var noClasses = []int{-1, -2, -3, 3, 4, 5, 64, -64, math.MaxInt, math.MinInt}

var noKinds = []int{0, -1, 4, 5, 45, 100, math.MaxInt, math.MinInt}

// showSlowly says word by word what P1.3 says, to hold Show against it.
func showSlowly(kind, mode int) string {
	s := "?"
	switch kind {
	case api.File:
		s = "-"
	case api.Dir:
		s = "d"
	case api.Link:
		s = "l"
	}
	pick := func(bit int, set, clear string) string {
		if mode&bit != 0 {
			return set
		}
		return clear
	}
	s += pick(256, "r", "-") + pick(128, "w", "-") + pick(api.Suid, pick(64, "s", "S"), pick(64, "x", "-"))
	s += pick(32, "r", "-") + pick(16, "w", "-") + pick(api.Sgid, pick(8, "s", "S"), pick(8, "x", "-"))
	s += pick(4, "r", "-") + pick(2, "w", "-") + pick(api.Sticky, pick(1, "t", "T"), pick(1, "x", "-"))
	return s
}

// P1.1

func TestClass(t *testing.T) {
	for mode := 0; mode <= api.All; mode++ {
		want := [3]int{mode / 64 % 8, mode / 8 % 8, mode % 8}
		for k, w := range want {
			if got := Class(mode, k); got != w {
				t.Fatalf("Class(%o, %d) = %d, want %d", mode, k, got, w)
			}
		}
		for _, k := range noClasses {
			if got := Class(mode, k); got != 0 {
				t.Fatalf("Class(%o, %d) = %d, want 0", mode, k, got)
			}
		}
	}
}

func TestClassOfNoMode(t *testing.T) {
	for mode, is := range noModes {
		for k := range 3 {
			if got, want := Class(mode, k), Class(is, k); got != want {
				t.Errorf("Class(%d, %d) = %d, want %d", mode, k, got, want)
			}
		}
		for _, k := range noClasses {
			if got := Class(mode, k); got != 0 {
				t.Errorf("Class(%d, %d) = %d, want 0", mode, k, got)
			}
		}
	}
}

func TestWithKnown(t *testing.T) {
	for _, c := range []struct{ mode, k, bits, want int }{
		{0o644, 0, 7, 0o744}, {0o644, 1, 7, 0o674}, {0o644, 2, 7, 0o647},
		{0o7777, 0, 0, 0o7077}, {0o7777, 1, 0, 0o7707}, {0o7777, 2, 0, 0o7770},
		{0, 0, 5, 0o500}, {0, 1, 5, 0o050}, {0, 2, 5, 0o005},
		{0o644, 0, 8, 0o044}, {0o644, 1, 9, 0o614}, {0o644, 2, 15, 0o647},
		{0o644, 0, -1, 0o744}, {0o644, 1, -8, 0o604}, {0o644, 2, -7, 0o641},
		{0o644, 2, math.MaxInt, 0o647}, {0o644, 2, math.MinInt, 0o640},
		{0o644, 3, 7, 0o644}, {0o644, -1, 7, 0o644},
		{-1, 0, 0, 0o7077}, {-1, 3, 0, 0o7777}, {4096, 1, 2, 0o020}, {4096 + 0o755, -1, 0, 0o755},
	} {
		if got := With(c.mode, c.k, c.bits); got != c.want {
			t.Errorf("With(%o, %d, %d) = %o, want %o", c.mode, c.k, c.bits, got, c.want)
		}
	}
}

func TestWithChangesOneClassAlone(t *testing.T) {
	for mode := 0; mode <= api.All; mode++ {
		for k := range 3 {
			for bits := -9; bits <= 17; bits++ {
				got := With(mode, k, bits)
				if got < 0 || got > api.All || got&^api.Perm != mode&^api.Perm {
					t.Fatalf("With(%o, %d, %d) = %o: bits above the classes", mode, k, bits, got)
				}
				for other := range 3 {
					want := Class(mode, other)
					if other == k {
						want = ((bits % 8) + 8) % 8
					}
					if Class(got, other) != want {
						t.Fatalf("With(%o, %d, %d) = %o: class %d", mode, k, bits, got, other)
					}
				}
			}
		}
		for _, k := range noClasses {
			if got := With(mode, k, 5); got != mode {
				t.Fatalf("With(%o, %d, 5) = %o, want the mode", mode, k, got)
			}
		}
	}
}

func TestWithOfNoMode(t *testing.T) {
	for mode, is := range noModes {
		for _, k := range append([]int{0, 1, 2}, noClasses...) {
			if got, want := With(mode, k, 5), With(is, k, 5); got != want {
				t.Errorf("With(%d, %d, 5) = %o, want %o", mode, k, got, want)
			}
		}
	}
}

// P1.2

func TestOctal(t *testing.T) {
	for mode := 0; mode <= api.All; mode++ {
		if got, want := Octal(mode), fmt.Sprintf("%04o", mode); got != want {
			t.Fatalf("Octal(%d) = %q, want %q", mode, got, want)
		}
	}
	for mode, is := range noModes {
		if got, want := Octal(mode), fmt.Sprintf("%04o", is); got != want {
			t.Errorf("Octal(%d) = %q, want %q", mode, got, want)
		}
	}
}

func TestReadOctalOfEachLength(t *testing.T) {
	for mode := 0; mode <= api.All; mode++ {
		for s := fmt.Sprintf("%o", mode); len(s) <= 8; s = "0" + s {
			if n, e := ReadOctal(s); n != mode || e != api.OK {
				t.Fatalf("ReadOctal(%q) = %d, %v, want %d", s, n, e, mode)
			}
		}
		long := fmt.Sprintf("%09o", mode)
		if n, e := ReadOctal(long); n != 0 || e != api.EINVAL {
			t.Fatalf("ReadOctal(%q) = %d, %v, want EINVAL", long, n, e)
		}
	}
}

func TestReadOctalAboveAll(t *testing.T) {
	for _, n := range []int{4096, 4097, 5000, 32767, 32768, 0o77777, 0o100755, 0o1000000, 0o7777777, 0o10000000, 0o77777777} {
		for s := fmt.Sprintf("%o", n); len(s) <= 8; s = "0" + s {
			if got, e := ReadOctal(s); got != 0 || e != api.EINVAL {
				t.Errorf("ReadOctal(%q) = %d, %v, want EINVAL", s, got, e)
			}
		}
	}
}

func TestReadOctalOfNoDigits(t *testing.T) {
	for _, s := range []string{
		"", " ", "0 ", " 0", "+7", "-1", "-0", "0o7", "0x7", "7_7", "7.", "u+x", "\x00", "0\x00", "0\n",
		"8", "9", "08", "80", "0788", "7778", "/", ":", "a", "755a", "\u00e9", "\u0663", "\uff17", "\xff", "7\xff", "0\x800",
		"000000644", "0000000000000000", strings.Repeat("0", 1000), strings.Repeat("7", 22),
	} {
		if n, e := ReadOctal(s); n != 0 || e != api.EINVAL {
			t.Errorf("ReadOctal(%q) = %d, %v, want EINVAL", s, n, e)
		}
	}
}

func TestReadOctalOfEachByte(t *testing.T) {
	for b := range 256 {
		for at := range 4 {
			raw := []byte("0644")
			raw[at] = byte(b)
			n, e := ReadOctal(string(raw))
			if b < '0' || b > '7' {
				if n != 0 || e != api.EINVAL {
					t.Errorf("ReadOctal(%q) = %d, %v, want EINVAL", raw, n, e)
				}
			} else if e != api.OK || Octal(n) != string(raw) {
				t.Errorf("ReadOctal(%q) = %d, %v", raw, n, e)
			}
		}
	}
}

// P1.3

func TestShowKnown(t *testing.T) {
	for _, c := range []struct {
		kind, mode int
		want       string
	}{
		{api.Dir, 1021, "drwxrwxr-t"}, {api.File, 0o644, "-rw-r--r--"}, {api.Link, 0o777, "lrwxrwxrwx"},
		{api.File, 0, "----------"}, {api.Dir, 0o7777, "drwsrwsrwt"}, {api.Dir, 0o7666, "drwSrwSrwT"},
		{api.File, 0o4000, "---S------"}, {api.File, 0o4100, "---s------"}, {api.File, 0o4011, "---S--x--x"},
		{api.File, 0o2000, "------S---"}, {api.File, 0o2010, "------s---"}, {api.File, 0o2101, "---x--S--x"},
		{api.File, 0o1000, "---------T"}, {api.File, 0o1001, "---------t"}, {api.File, 0o1110, "---x--x--T"},
		{0, 0o755, "?rwxr-xr-x"}, {4, 0o755, "?rwxr-xr-x"}, {-1, 0, "?---------"},
		{api.File, -1, "-rwsrwsrwt"}, {api.Dir, 4096, "d---------"}, {api.Link, 4096 + 0o421, "lr---w---x"},
	} {
		if got := Show(c.kind, c.mode); got != c.want {
			t.Errorf("Show(%d, %o) = %q, want %q", c.kind, c.mode, got, c.want)
		}
	}
}

func TestShowOfEachMode(t *testing.T) {
	for _, kind := range append([]int{api.File, api.Dir, api.Link}, noKinds...) {
		for mode := 0; mode <= api.All; mode++ {
			if got, want := Show(kind, mode), showSlowly(kind, mode); got != want {
				t.Fatalf("Show(%d, %o) = %q, want %q", kind, mode, got, want)
			}
		}
		for mode, is := range noModes {
			if got, want := Show(kind, mode), showSlowly(kind, is); got != want {
				t.Errorf("Show(%d, %d) = %q, want %q", kind, mode, got, want)
			}
		}
	}
}

func TestReadOfEachMode(t *testing.T) {
	for kind := range 4 {
		for mode := 0; mode <= api.All; mode++ {
			s := showSlowly(kind, mode)
			if k, m, is := Read(s); k != kind || m != mode || !is {
				t.Fatalf("Read(%q) = %d, %o, %v, want %d, %o", s, k, m, is, kind, mode)
			}
		}
	}
}

func TestReadOfNone(t *testing.T) {
	for _, s := range []string{
		"", "-", "drwxrwxr-", "drwxrwxr-t-", " rwxrwxr-t", "rwxrwxr-t", "drwxrwxr-t\n", strings.Repeat("-", 9), strings.Repeat("-", 11),
		"xrwxr-xr-x", "Drwxr-xr-x", "brwxr-xr-x", "0rwxr-xr-x", "\x00rwxr-xr-x",
		"-wr-------", "-xwr------", "--r-------", "-w--------", "-R--------", "--W-------", "---X------", "-rw?r--r--",
		"---t------", "---T------", "------t---", "------T---", "---------s", "---------S", "-s--------", "--s-------", "-t--------", "--x-------",
		"-rwxr-xr-\u00e9", "\u00e9---------", "\u00e9--------", "\xff---------", "---------\xff", "----------------------",
	} {
		if k, m, is := Read(s); k != 0 || m != 0 || is {
			t.Errorf("Read(%q) = %d, %o, %v, want nothing", s, k, m, is)
		}
	}
}

// TestReadOfEachByte puts each byte at each place of some texts: what is read
// is just what some kind and mode are shown as.
func TestReadOfEachByte(t *testing.T) {
	shown := map[string][2]int{}
	for kind := range 4 {
		for mode := 0; mode <= api.All; mode++ {
			shown[showSlowly(kind, mode)] = [2]int{kind, mode}
		}
	}
	for _, s := range []string{"----------", "drwxrwxrwx", "lrwsrwsrwt", "?rwSrwSrwT", "-rw-r--r--"} {
		for at := range len(s) {
			for b := range 256 {
				raw := []byte(s)
				raw[at] = byte(b)
				want, there := shown[string(raw)]
				if k, m, is := Read(string(raw)); k != want[0] || m != want[1] || is != there {
					t.Errorf("Read(%q) = %d, %o, %v, want %v, %v", raw, k, m, is, want, there)
				}
			}
		}
	}
}

// P1.4

func TestWhatIsShownIsRead(t *testing.T) {
	for kind := range 4 {
		for mode := 0; mode <= api.All; mode++ {
			if k, m, is := Read(Show(kind, mode)); k != kind || m != mode || !is {
				t.Fatalf("Read(Show(%d, %o)) = %d, %o, %v", kind, mode, k, m, is)
			}
			if n, e := ReadOctal(Octal(mode)); n != mode || e != api.OK {
				t.Fatalf("ReadOctal(Octal(%o)) = %o, %v", mode, n, e)
			}
		}
	}
	for _, kind := range noKinds {
		if k, m, is := Read(Show(kind, 0o4755)); k != 0 || m != 0o4755 || !is {
			t.Errorf("Read(Show(%d, 4755)) = %d, %o, %v", kind, k, m, is)
		}
	}
	for mode, want := range noModes {
		if k, m, is := Read(Show(api.File, mode)); k != api.File || m != want || !is {
			t.Errorf("Read(Show(File, %d)) = %d, %o, %v", mode, k, m, is)
		}
		if n, e := ReadOctal(Octal(mode)); n != want || e != api.OK {
			t.Errorf("ReadOctal(Octal(%d)) = %o, %v", mode, n, e)
		}
	}
}
