package builtin_test

import (
	"strings"
	"testing"

	"coldplug/api"
	"coldplug/builtin"
)

// baseKeys are the keys that P11.1 lists.
const baseKeys = "DEVNAME DEVPATH DRIVER INTERFACE MODALIAS NUMBER SUBSYSTEM"

// P11.1: the base keys, and keys that are nearly one.
func TestKeys(t *testing.T) {
	listed := strings.Fields(baseKeys)
	for i, key := range listed {
		if !builtin.Key(key) {
			t.Errorf("%s is no base key", key)
		}
		for _, other := range []string{strings.ToLower(key), key[1:], key[:len(key)-1], key + "S", "X" + key, " " + key, key + " ", key + listed[(i+1)%len(listed)], key + "\x00"} {
			if builtin.Key(other) {
				t.Errorf("%q is a base key", other)
			}
		}
	}
	for _, other := range []string{"", " ", baseKeys, "ACTION", "KERNEL", "NAME", "ID_PATH", "ID_PATH_TAG", "ID_FS_USAGE", "ID_FS_UUID", "ID_FS_LABEL", "ID_NET_NAME_ONBOARD", "ID_NET_NAME_SLOT", "ID_NET_NAME_MAC", "path", "ALIAS", "DEVNUM", "TAGS"} {
		if builtin.Key(other) {
			t.Errorf("%q is a base key", other)
		}
	}
}

// P11.1: the example, and devices of all kinds that have everything.
func TestBases(t *testing.T) {
	found(t, "the example", builtin.Base(example(), 9), map[string]string{"DEVNAME": "sda1", "DEVPATH": "/pci0/sda1", "NUMBER": "9", "SUBSYSTEM": "block"})
	disk, tty, bridge, lan := block(12, 1, "cciss!c0!d0"), char(3, 12, "tty!S0"), iface(4, 1, "br0", "bridge"), iface(5, 4, "eth0", "lan0")
	root := plain(1, 0, "pci!0")
	for _, d := range []*api.Device{&root, &disk, &tty, &bridge, &lan} {
		d.Driver, d.Alias = "drv", "a: b"
	}
	tty.Number, disk.Number = api.MaxNumber, 1
	x := treeOf(root, bridge, lan, disk, tty)
	for index, want := range map[int]map[string]string{
		1:  {"DEVPATH": "/pci!0"},
		12: {"DEVPATH": "/pci!0/cciss!c0!d0", "DEVNAME": "cciss/c0/d0", "NUMBER": "1"},
		3:  {"DEVPATH": "/pci!0/cciss!c0!d0/tty!S0", "DEVNAME": "tty/S0", "NUMBER": "1073741824"},
		4:  {"DEVPATH": "/pci!0/br0", "INTERFACE": "br0"},
		5:  {"DEVPATH": "/pci!0/br0/eth0", "INTERFACE": "eth0"},
	} {
		want["DRIVER"], want["MODALIAS"], want["SUBSYSTEM"] = "drv", "a: b", "s"
		found(t, want["DEVPATH"], builtin.Base(x, index), want)
	}
}

// P11.1: DRIVER and MODALIAS are there if they are not empty, each of them for itself.
func TestDriverAndAlias(t *testing.T) {
	for _, d := range []api.Device{plain(1, 0, "a"), block(1, 0, "a"), char(1, 0, "a"), iface(1, 0, "a", "a")} {
		for _, driver := range []string{"", "drv"} {
			for _, alias := range []string{"", "al:*"} {
				d.Driver, d.Alias = driver, alias
				foundAll(t, treeOf(d), 1)
			}
		}
	}
}

// P11.1: all base properties have base keys, and each base key occurs.
func TestBasesHaveBaseKeys(t *testing.T) {
	seen := map[string]bool{}
	disk, lan := block(1, 0, "a"), iface(2, 0, "b", "c")
	disk.Driver, lan.Alias = "d", "e"
	for index := range 3 {
		for _, a := range builtin.Base(treeOf(disk, lan), index) {
			seen[a.Name] = true
			if !builtin.Key(a.Name) {
				t.Errorf("%s is no base key", a.Name)
			}
		}
	}
	if len(seen) != len(strings.Fields(baseKeys)) {
		t.Errorf("there are %v", seen)
	}
}
