package builtin_test

import (
	"strings"
	"testing"

	"coldplug/api"
	"coldplug/builtin"
)

// netKeys are the properties of P11.4 by the attributes that they are made of.
var netKeys = map[string][2]string{"index": {"ID_NET_NAME_ONBOARD", "eno"}, "slot": {"ID_NET_NAME_SLOT", "ens"}, "address": {"ID_NET_NAME_MAC", "enx"}}

// P11.4: each attribute alone, and all of them, on devices of all kinds.
func TestNets(t *testing.T) {
	all := []string{"address", "52:54:00:12:34:56", "index", "1", "slot", "2s3"}
	found(t, "all", builtin.Net(treeOf(iface(1, 0, "eth0", "lan0", all...)), 1), map[string]string{"ID_NET_NAME_MAC": "enx525400123456", "ID_NET_NAME_ONBOARD": "eno1", "ID_NET_NAME_SLOT": "ens2s3"})
	found(t, "none", builtin.Net(treeOf(iface(1, 0, "eth0", "lan0")), 1), nil)
	for attr, key := range netKeys {
		found(t, attr, builtin.Net(treeOf(iface(1, 0, "eth0", "lan0", attr, "7")), 1), map[string]string{key[0]: key[1] + "7"})
		for _, other := range []string{attr + "es", strings.ToUpper(attr), attr[1:], "x" + attr} {
			found(t, other, builtin.Net(treeOf(iface(1, 0, "eth0", "lan0", other, "7")), 1), nil)
		}
	}
	for _, d := range []api.Device{plain(1, 0, "a"), block(1, 0, "a", all...), char(1, 0, "a", all...)} {
		d.Attrs = attrsOf(all...)
		d.Subsystem = "net"
		found(t, "no interface", builtin.Net(treeOf(d), 1), nil)
	}
	found(t, "attributes of the parent", builtin.Net(treeOf(iface(1, 0, "br0", "br0", all...), iface(2, 1, "eth0", "eth0")), 2), nil)
}

// P11.4: every byte of a text; a colon is left out of an address alone.
func TestNetBytes(t *testing.T) {
	for b := byte(' '); b <= '~'; b++ {
		may := strings.IndexByte("ABCDEFGHIJKLMNOPQRSTUVWXYZabcdefghijklmnopqrstuvwxyz0123456789_.+-", b) >= 0
		for attr, key := range netKeys {
			for _, value := range []string{string(rune(b)), "a" + string(rune(b)) + "b", "12" + string(rune(b))} {
				want := map[string]string{key[0]: key[1] + value}
				if attr == "address" && b == ':' {
					want[key[0]] = key[1] + strings.Replace(value, ":", "", 1)
				} else if !may {
					want = nil
				}
				found(t, attr+" "+value, builtin.Net(treeOf(iface(1, 0, "eth0", "lan0", attr, value)), 1), want)
			}
		}
	}
}

// P11.4: the greatest length of the name of an interface, for which colons of an address do not count.
func TestNetLengths(t *testing.T) {
	for n := 1; n <= 40; n++ {
		value := strings.Repeat("d", n)
		for attr, key := range netKeys {
			want := map[string]string{key[0]: key[1] + value}
			if n > 12 {
				want = nil
			}
			found(t, attr, builtin.Net(treeOf(iface(1, 0, "eth0", "lan0", attr, value)), 1), want)
			if attr == "address" {
				found(t, "with colons", builtin.Net(treeOf(iface(1, 0, "eth0", "lan0", attr, strings.Repeat("d::", n))), 1), want)
			}
		}
	}
	found(t, "nothing but colons", builtin.Net(treeOf(iface(1, 0, "eth0", "lan0", "address", "::", "index", "::", "slot", "::")), 1), map[string]string{"ID_NET_NAME_MAC": "enx"})
}

// P11.4: an attribute whose name would not be right keeps no other one away.
func TestNetOneWrong(t *testing.T) {
	for attr, key := range netKeys {
		values := map[string]string{"address": "a", "index": "b", "slot": "c"}
		want := map[string]string{"ID_NET_NAME_MAC": "enxa", "ID_NET_NAME_ONBOARD": "enob", "ID_NET_NAME_SLOT": "ensc"}
		values[attr] = "a b"
		delete(want, key[0])
		x := treeOf(iface(1, 0, "eth0", "lan0", "address", values["address"], "index", values["index"], "slot", values["slot"]))
		found(t, attr, builtin.Net(x, 1), want)
	}
}
