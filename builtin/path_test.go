package builtin_test

import (
	"strings"
	"testing"

	"coldplug/api"
	"coldplug/builtin"
)

// P11.2: the example; the parts have the Originals, the root first.
func TestPaths(t *testing.T) {
	found(t, "the example", builtin.Path(example(), 9), map[string]string{"ID_PATH": "pci:pci0-block:sda1", "ID_PATH_TAG": "pci_pci0_block_sda1"})
	found(t, "its root", builtin.Path(example(), 1), map[string]string{"ID_PATH": "pci:pci0", "ID_PATH_TAG": "pci_pci0"})
	x := treeOf(iface(4, 0, "br0", "bridge"), iface(2, 4, "eth0", "lan0"), char(7, 2, "a!b"))
	found(t, "three", builtin.Path(x, 7), map[string]string{"ID_PATH": "s:br0-s:eth0-s:a!b", "ID_PATH_TAG": "s_br0_s_eth0_s_a_b"})
}

// P11.2: every byte that a name may have, in the Subsystem and in the Original.
func TestTagBytes(t *testing.T) {
	const kept = "ABCDEFGHIJKLMNOPQRSTUVWXYZabcdefghijklmnopqrstuvwxyz0123456789"
	for _, b := range kept + "_.:+-!" {
		tagged := "_"
		if strings.ContainsRune(kept, b) {
			tagged = string(b)
		}
		d := plain(1, 0, "x"+string(b)+"y")
		d.Subsystem = "p" + string(b) + "q"
		found(t, string(b), builtin.Path(treeOf(d), 1), map[string]string{"ID_PATH": d.Subsystem + ":" + d.Original, "ID_PATH_TAG": "p" + tagged + "q_x" + tagged + "y"})
	}
}

// P11.2: paths of about the greatest length; what is cut can be any part.
func TestCuts(t *testing.T) {
	// Seven parts of up to 65 bytes, with "-" between them, of which the first three have 3*66 = 198.
	for length := 1; length <= api.MaxName; length++ {
		for subsystem := 1; subsystem <= api.MaxName; subsystem++ {
			var devices []api.Device
			for i := range api.MaxDepth {
				d := plain(i+1, i, strings.Repeat(string(rune('a'+i)), api.MaxName))
				d.Subsystem = strings.Repeat("S", api.MaxName)
				if i > 2 {
					d = plain(i+1, i, strings.Repeat("n", length))
					d.Subsystem = strings.Repeat("s", subsystem)
				}
				devices = append(devices, d)
			}
			for index := range api.MaxDepth + 2 {
				found(t, "cut", builtin.Path(treeOf(devices...), index), refPath(treeOf(devices...), index))
			}
		}
	}
}

// P11.2: the greatest length that is not cut, and one byte more.
func TestGreatestPath(t *testing.T) {
	ahead := "s:" + strings.Repeat("a", 30) + "-s:" + strings.Repeat("b", 30) + "-s:" + strings.Repeat("c", 30) + "-s:" + strings.Repeat("d", 30) + "-s:" + strings.Repeat("e", 30) + "-s:" + strings.Repeat("f", 30) + "-"
	devices := []api.Device{}
	for i, letter := range strings.Split("abcdef", "") {
		devices = append(devices, plain(i+1, i, strings.Repeat(letter, 30)))
	}
	if len(ahead) != 198 {
		t.Fatalf("%d bytes", len(ahead))
	}
	for n := 20; n <= 32; n++ {
		last := plain(7, 6, strings.Repeat("x", n))
		last.Subsystem = strings.Repeat("y", 32)
		path := (ahead + last.Subsystem + ":" + last.Original)[:min(231+n, 256)]
		found(t, path, builtin.Path(treeOf(append(devices[:6:6], last)...), 7), map[string]string{"ID_PATH": path, "ID_PATH_TAG": strings.NewReplacer(":", "_", "-", "_").Replace(path)})
	}
}
