package helper_test

import (
	"math/rand"
	"slices"
	"strings"
	"testing"

	"coldplug/api"
	"coldplug/helper"
)

// P14.3: the chapter's example, and others; items keep their order and are not joined.
func TestItems(t *testing.T) {
	itemsAre(t, "A=1;b=2;C=;D==", "A", "1", "D", "=")
	itemsAre(t, "")
	itemsAre(t, ";;;")
	itemsAre(t, "A")
	itemsAre(t, "A=")
	itemsAre(t, "=")
	itemsAre(t, "=1")
	itemsAre(t, "A=1", "A", "1")
	itemsAre(t, ";A=1;", "A", "1")
	itemsAre(t, "B=2;A=1;B=3;A=1", "B", "2", "A", "1", "B", "3", "A", "1")
	itemsAre(t, "A=b=c;B==;C===", "A", "b=c", "B", "=", "C", "==")
	itemsAre(t, "A= ;B=  x y ;C=;D", "A", " ", "B", "  x y ")
	itemsAre(t, " A=1;B =2; =3;C=4", "C", "4")
	itemsAre(t, "A=1,B=2", "A", "1,B=2")
	itemsAre(t, "A=1\nB=2;C=\x00;D=é", "A", "1\nB=2", "C", "\x00", "D", "é")
	itemsAre(t, `A="1;2";B=\;C=3`, "A", `"1`, "B", `\`, "C", "3")
}

// P14.3: keys as layer 1 has them, base properties among them.
func TestItemsKeys(t *testing.T) {
	itemsAre(t, "A1_=1;_A=2;1A=3;AB=4;Ab=5;aB=6;A-B=7;A.=8;A+=9", "A1_", "1", "AB", "4")
	itemsAre(t, "DEVNAME=x;ID=y", "DEVNAME", "x", "ID", "y")
	long := strings.Repeat("K", api.MaxName)
	itemsAre(t, long+"=1;"+long+"K=2;"+long[1:]+"=3", long, "1", long[1:], "3")
	for b := range 256 {
		s := string([]byte{byte(b)})
		letter, more := "A" <= s && s <= "Z", "0" <= s && s <= "9" || s == "_"
		var first, second []string
		if letter {
			first = []string{s + "X", "v"}
		}
		if letter || more {
			second = []string{"X" + s, "v"}
		}
		switch s {
		case ";":
			first = []string{"X", "v"}
		case "=":
			second = []string{"X", "=v"}
		}
		itemsAre(t, s+"X=v", first...)
		itemsAre(t, "X"+s+"=v", second...)
	}
}

// P14.3: each byte but ";" is one that a value may have, also alone; values of any length.
func TestItemsValues(t *testing.T) {
	for b := range 256 {
		if s := string([]byte{byte(b)}); b != ';' {
			itemsAre(t, "A="+s+";B=x"+s+"y", "A", s, "B", "x"+s+"y")
		}
	}
	for _, n := range []int{1, 254, 256, 257, 1 << 16} {
		value := strings.Repeat("v", n)
		itemsAre(t, "x;A="+value+";B=1", "A", value, "B", "1")
	}
	var want []string
	for range 128 {
		want = append(want, "A", "1")
	}
	itemsAre(t, strings.Repeat("A=1;", 128), want...)
}

// outputs returns all texts of so many bytes out of some.
func outputs(bytes string, length int) []string {
	level := []string{""}
	for range length {
		var next []string
		for _, s := range level {
			for i := range len(bytes) {
				next = append(next, s+bytes[i:i+1])
			}
		}
		level = next
	}
	return level
}

// P14.3: all short outputs, and longer ones of random parts, against a second reading of the chapter.
func TestAllItems(t *testing.T) {
	var l []string
	for length := range 8 {
		l = append(l, outputs("A1b=;", length)...)
	}
	r := rand.New(rand.NewSource(17))
	for range 20000 {
		var s strings.Builder
		for range r.Intn(20) {
			s.WriteString(pick(r, "A", "B_2", "c", "=", "=", "1", ";", ";", " ", "\n", "é", strings.Repeat("Z", 31), "-"))
		}
		l = append(l, s.String())
	}
	for _, s := range l {
		if got, want := helper.Items(s), refItems(s); !slices.Equal(got, want) {
			t.Fatalf("Items of %q: got %q, want %q", s, got, want)
		}
	}
}

// R4: two results share no memory.
func TestItemsShare(t *testing.T) {
	first, second := helper.Items("A=1;B=2;C=3"), helper.Items("A=1;B=2;C=3")
	first = first[:cap(first)]
	for i := range first {
		first[i] = api.Attr{Name: "X", Value: "X"}
	}
	if want := attrs("A", "1", "B", "2", "C", "3"); !slices.Equal(second, want) {
		t.Errorf("got %q, want %q", second, want)
	}
	itemsAre(t, "A=1;B=2;C=3", "A", "1", "B", "2", "C", "3")
}
