package ops_test

import (
	"strings"
	"testing"

	"nostos/names"
	"nostos/ops"
)

// isNamed tells whether two names are the same but for the case of the letters A to Z, byte by byte.
func isNamed(a, b string) bool {
	if len(a) != len(b) {
		return false
	}
	for at := range len(a) {
		low, high := min(a[at], b[at]), max(a[at], b[at])
		if low != high && (low < 'A' || low > 'Z' || high-low != 'a'-'A') {
			return false
		}
	}
	return true
}

// meant is the number of the table's word that a name finds, gone through one by one.
func meant(name string) int {
	for _, w := range table {
		if isNamed(w.name, name) && !strings.Contains(w.kinds, "inner") {
			return w.op
		}
	}
	return 0
}

// TestFindShort has all names of one byte, and of two (P8.1).
func TestFindShort(t *testing.T) {
	for first := range 256 {
		short := []string{string([]byte{byte(first)})}
		for second := range 256 {
			short = append(short, string([]byte{byte(first), byte(second)}))
		}
		for _, name := range short {
			if op := ops.Find(name); op != meant(name) {
				t.Fatalf("%q: %d", name, op)
			}
		}
	}
}

// near are names that differ from a name by one byte: changed to one at the edges of what letters and signs are, left out, laid ahead, or laid behind.
func near(name string) []string {
	edges := "\x00 !'(),/09:<>@AZ[`az{\x7f\x80\xc3\xff"
	var l []string
	for at := range len(name) + 1 {
		for c := range len(edges) {
			l = append(l, name[:at]+edges[c:c+1]+name[at:])
			if at < len(name) {
				l = append(l, name[:at]+edges[c:c+1]+name[at+1:])
			}
		}
		if at < len(name) {
			l = append(l, name[:at]+name[at+1:], name[:at]+string([]byte{name[at] ^ 32})+name[at+1:])
		}
	}
	return l
}

// TestFindNear has names that differ from each word's by one byte (P8.1).
func TestFindNear(t *testing.T) {
	for _, w := range table {
		for _, name := range near(w.name) {
			if op := ops.Find(name); op != meant(name) {
				t.Fatalf("%q: %d", name, op)
			}
		}
	}
}

// TestFindPairs has each two words' names, one right behind the other, and with a blank between (P8.1).
func TestFindPairs(t *testing.T) {
	for _, first := range table {
		for _, second := range table {
			for _, name := range []string{first.name + second.name, first.name + " " + second.name} {
				if op := ops.Find(name); op != meant(name) {
					t.Fatalf("%q: %d", name, op)
				}
			}
		}
	}
}

// TestNamesDiffer has no two words of the same name, whatever its letters' case, and no name that a source, or a dictionary, can't have (P8.1).
func TestNamesDiffer(t *testing.T) {
	seen := map[string]int{}
	for op := 1; op <= 137; op++ {
		name := ops.Name(op)
		if other := seen[names.Fold(name)]; other != 0 {
			t.Errorf("%q: %d and %d", name, other, op)
		}
		seen[names.Fold(name)] = op
		if names.Fold(name) != name {
			t.Errorf("%q: isn't in capital letters", name)
		}
		if thrown := names.May(name); thrown != 0 {
			t.Errorf("%q: %d", name, thrown)
		}
		for at := range len(name) {
			if name[at] <= ' ' || name[at] > '~' {
				t.Errorf("%q: has a byte of %d", name, name[at])
			}
		}
	}
}

// TestThereAndBack tells each number its name, and finds it by that, or no word by it, if it is inner (P8.1, P8.2).
func TestThereAndBack(t *testing.T) {
	for op := -1000; op <= 1000; op++ {
		want := op
		if !ops.Is(op) || ops.Inner(op) {
			want = 0
		}
		if found := ops.Find(ops.Name(op)); found != want {
			t.Errorf("%d, %q: %d", op, ops.Name(op), found)
		}
	}
}

// TestAround has all numbers around those of words: just those of the table are some (P8.1, P8.2).
func TestAround(t *testing.T) {
	for op := -70000; op <= 70000; op++ {
		name, kind := "", ""
		if op >= 1 && op <= 137 {
			name, kind = table[op-1].name, table[op-1].kinds
		}
		if is := ops.Is(op); is != (name != "") {
			t.Fatalf("%d: is: %v", op, is)
		}
		if told := ops.Name(op); told != name {
			t.Fatalf("%d: %q", op, told)
		}
		for _, k := range kinds() {
			if is := k.is(op); is != strings.Contains(kind, k.name) {
				t.Fatalf("%d: %s: %v", op, k.name, is)
			}
		}
	}
}

// TestSameAgain asks twice, with other questions between: nothing is kept from call to call (R4).
func TestSameAgain(t *testing.T) {
	for _, w := range table {
		first := ops.Find(w.name)
		ops.Find("SQ")
		ops.Name(w.op % 137)
		if second := ops.Find(w.name); second != first {
			t.Errorf("%q: %d, then %d", w.name, first, second)
		}
	}
}
