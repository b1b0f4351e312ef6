package match_test

import (
	"strings"
	"testing"

	"coldplug/api"
	"coldplug/match"
)

// P12.2: the chapter's examples.
func TestDeviceExamples(t *testing.T) {
	sda := example().Devices[1]
	deviceIs(t, true, named(is(api.KeyAttr, "[0-9]"), "size"), sda)
	deviceIs(t, true, not(api.KeyDriver, "?*"), sda)
	deviceIs(t, true, named(is(api.KeyAttr, ""), "none"), sda)
}

// P12.2: each key looks at its own value, the upward ones as the static ones.
func TestValuesOfDevices(t *testing.T) {
	// All texts of the device are different, so that no value can stand in for another one.
	d := driven(iface(7, 3, "eth0", "lan0", "address", "aa:bb", "mtu", "1500"), "e1000")
	d.Alias = "pci:d2"
	texts := []string{"eth0", "lan0", "net", "e1000", "pci:d2", "aa:bb", "1500", "address", "mtu", "7", "3", "4", ""}
	for i := range staticKeys {
		for _, key := range []int{staticKeys[i], upwardKeys[i]} {
			for _, s := range texts {
				switch staticKeys[i] {
				case api.KeyKernel:
					deviceIs(t, s == "eth0", is(key, s), d)
				case api.KeySubsystem:
					deviceIs(t, s == "net", is(key, s), d)
				case api.KeyDriver:
					deviceIs(t, s == "e1000", is(key, s), d)
				case api.KeyAttr:
					deviceIs(t, s == "aa:bb", named(is(key, s), "address"), d)
					deviceIs(t, s == "1500", named(is(key, s), "mtu"), d)
				}
			}
		}
	}
}

// P12.2: a device without a driver has the empty text there.
func TestNoDriver(t *testing.T) {
	for _, key := range []int{api.KeyDriver, api.KeyDrivers} {
		for _, pattern := range []string{"", "*", "a|", "|a", "*|?"} {
			deviceIs(t, true, is(key, pattern), block(1, 0, "sda"))
		}
		for _, pattern := range []string{"?", "?*", "a", "a|b", "[!a]", " "} {
			deviceIs(t, true, not(key, pattern), block(1, 0, "sda"))
		}
	}
}

// P12.2: an attribute that the device does not have is the empty text, whatever the name is.
func TestNoSuchAttribute(t *testing.T) {
	d := block(1, 0, "sda", "size", "5", "sizes", "6")
	for _, key := range []int{api.KeyAttr, api.KeyAttrs} {
		for _, name := range []string{"", "none", "Size", "siz", "sizes1", "size ", " size", "s*", "[a-z]ize", "5", "KERNEL", "size\x00"} {
			for _, x := range []api.Device{d, block(1, 0, "sda"), {}} {
				deviceIs(t, true, named(is(key, ""), name), x)
				deviceIs(t, true, named(is(key, "*"), name), x)
				deviceIs(t, false, named(is(key, "?*"), name), x)
				deviceIs(t, false, named(is(key, "5|6"), name), x)
			}
		}
		deviceIs(t, true, named(is(key, "5"), "size"), d)
		deviceIs(t, true, named(is(key, "6"), "sizes"), d)
	}
}

// P12.2: a name in braces says nothing beside the keys of attributes.
func TestNamesWithoutMeaning(t *testing.T) {
	d := driven(block(1, 0, "sda", "size", "5"), "sd")
	for _, name := range []string{"", "size", "none", "driver"} {
		for _, key := range []int{api.KeyKernel, api.KeyKernels} {
			deviceIs(t, true, named(is(key, "sda"), name), d)
		}
		for _, key := range []int{api.KeySubsystem, api.KeySubsystems} {
			deviceIs(t, true, named(is(key, "block"), name), d)
		}
		for _, key := range []int{api.KeyDriver, api.KeyDrivers} {
			deviceIs(t, true, named(is(key, "sd"), name), d)
		}
	}
}

// P12.2: a renamed interface is matched by its Original alone.
func TestRenamedInterface(t *testing.T) {
	d := iface(1, 0, "eth0", "lan0")
	for _, key := range []int{api.KeyKernel, api.KeyKernels} {
		deviceIs(t, true, is(key, "eth*"), d)
		deviceIs(t, false, is(key, "lan*"), d)
	}
}

// P12.2: globs in all their forms.
func TestGlobs(t *testing.T) {
	for _, key := range []int{api.KeyKernel, api.KeyKernels} {
		for pattern, want := range map[string]bool{
			"sda1": true, "sda": false, "sda12": false, "SDA1": false, "sd?1": true, "sd?": false, "sd*": true, "*1": true, "*a*": true,
			"sd[a-c]1": true, "sd[!a-c]1": false, "sd[b]1": false, "x|sda1": true, "sda1|x": true, "x|y": false, "": false, "*": true,
		} {
			deviceIs(t, want, is(key, pattern), block(1, 0, "sda1"))
		}
	}
}

// P12.2: what is no pattern matches nothing, so that its != holds; the same goes for a value with other bytes than those of a text.
func TestWrongPatterns(t *testing.T) {
	for _, key := range []int{api.KeyKernel, api.KeyKernels} {
		for _, pattern := range []string{"[", "sda|[", "[]", "[b-a]", "\x00", "sda\n", "é", strings.Repeat("*", api.MaxText+1)} {
			deviceIs(t, true, not(key, pattern), block(1, 0, "sda"))
		}
		deviceIs(t, true, is(key, strings.Repeat("*", api.MaxText)), block(1, 0, "sda"))
		for _, value := range []string{"\x1f", "a\x7f", "é", "\x00\xff"} {
			deviceIs(t, true, not(key, "*"), block(1, 0, value))
		}
		deviceIs(t, true, is(key, "a*"), block(1, 0, strings.Repeat("a", 1<<16)))
	}
}

// P12.2: of several attributes with one name the first one counts, also where they do not ascend.
func TestDisorderedAttributes(t *testing.T) {
	d := block(1, 0, "sda", "z", "1", "a", "2", "z", "3", "a", "")
	for _, key := range []int{api.KeyAttr, api.KeyAttrs} {
		deviceIs(t, true, named(is(key, "1"), "z"), d)
		deviceIs(t, true, named(is(key, "2"), "a"), d)
	}
}

// P12.2: all other terms do not hold, whatever their globs match.
func TestOtherTermsAtDevices(t *testing.T) {
	for _, x := range someTerms() {
		for _, d := range []api.Device{{}, driven(block(1, 0, "sda", "size", "5"), "sd")} {
			want := isMatch(x, deviceKeys) && (x.Op == api.OpIs) == (x.Value == "*")
			if got := match.Device(x, d); got != want {
				t.Errorf("Device of %+v at %+v is %v", x, d, got)
			}
		}
	}
}
