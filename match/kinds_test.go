package match_test

import (
	"testing"

	"coldplug/api"
	"coldplug/match"
)

// P12.1: all keys and ops, and numbers that are none.
func TestKinds(t *testing.T) {
	static, upward := 0, 0
	for _, x := range someTerms() {
		if got := match.Static(x); got != isMatch(x, staticKeys) {
			t.Errorf("Static of %+v is %v", x, got)
		}
		if got := match.Upward(x); got != isMatch(x, upwardKeys) {
			t.Errorf("Upward of %+v is %v", x, got)
		}
		if match.Static(x) {
			static++
		}
		if match.Upward(x) {
			upward++
		}
	}
	if static != 4*2*3 || upward != 4*2*3 {
		t.Errorf("%d terms are static and %d upward", static, upward)
	}
}

// P12.1: neither the name nor the value counts, be they right or not.
func TestKindsOfAnyTexts(t *testing.T) {
	for _, s := range []string{"", "size", "no name", "[", "\x00\xff"} {
		for _, key := range deviceKeys {
			x := named(is(key, s), s)
			if match.Static(x) != isMatch(x, staticKeys) || match.Upward(x) != isMatch(x, upwardKeys) {
				t.Errorf("%+v is static: %v, upward: %v", x, match.Static(x), match.Upward(x))
			}
		}
		for _, key := range draftKeys {
			if x := named(is(key, s), s); match.Static(x) || match.Upward(x) {
				t.Errorf("%+v is static or upward", x)
			}
		}
	}
	if x := (api.Term{}); match.Static(x) || match.Upward(x) {
		t.Error("the zero term is static or upward")
	}
}
