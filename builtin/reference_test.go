package builtin_test

import (
	"fmt"
	"maps"
	"math/rand"
	"regexp"
	"slices"
	"strings"
	"testing"

	"coldplug/api"
	"coldplug/builtin"
	"coldplug/device"
	"coldplug/tree"
)

// What the chapter says of bytes, as patterns.
var (
	tagBytes   = regexp.MustCompile(`[^A-Za-z0-9]`)
	ifaceNames = regexp.MustCompile(`^[A-Za-z0-9_.+-]{1,15}$`)
)

// contentSample is a text with the properties that Content finds if it is on a block device.
type contentSample struct {
	text  string
	props map[string]string
}

// contentSamples are contents of all kinds, and texts that are none.
var contentSamples = []contentSample{
	{"", nil},
	{"fs:u1:root", map[string]string{"ID_FS_USAGE": "filesystem", "ID_FS_UUID": "u1", "ID_FS_LABEL": "root"}},
	{"fs:u1:", map[string]string{"ID_FS_USAGE": "filesystem", "ID_FS_UUID": "u1"}},
	{"raid:r.1:1/2/1(fs:a:inner)", map[string]string{"ID_FS_USAGE": "raid", "ID_FS_UUID": "r.1"}},
	{"crypt:c_1(fs:a:inner)", map[string]string{"ID_FS_USAGE": "crypto", "ID_FS_UUID": "c_1"}},
	{"pv:g-1:2/3(fs:a:inner,)", map[string]string{"ID_FS_USAGE": "member", "ID_FS_UUID": "g-1"}},
	{"table:t(fs:a:inner,fs:b:)", map[string]string{"ID_FS_USAGE": "table", "ID_FS_UUID": "t"}},
	{"raid:r:3/2/1()", nil},
	{"fs:a", nil},
	{"none", nil},
}

// refFind returns the device with an Index.
func refFind(t api.Tree, index int) (api.Device, bool) {
	for _, d := range t.Devices {
		if d.Index == index {
			return d, true
		}
	}
	return api.Device{}, false
}

// refTrail returns a device behind its ancestors, the root first.
func refTrail(t api.Tree, d api.Device) []api.Device {
	if parent, ok := refFind(t, d.Parent); ok {
		return append(refTrail(t, parent), d)
	}
	return []api.Device{d}
}

// refBase returns what P11.1 says of the base properties.
func refBase(t api.Tree, index int) map[string]string {
	d, ok := refFind(t, index)
	if !ok {
		return nil
	}
	origin := ""
	for _, a := range refTrail(t, d) {
		origin += "/" + a.Original
	}
	props := map[string]string{"DEVPATH": origin, "SUBSYSTEM": d.Subsystem}
	if d.Driver != "" {
		props["DRIVER"] = d.Driver
	}
	if d.Alias != "" {
		props["MODALIAS"] = d.Alias
	}
	switch d.Kind {
	case api.KindBlock, api.KindChar:
		props["DEVNAME"] = strings.Join(strings.Split(d.Original, "!"), "/")
		props["NUMBER"] = fmt.Sprint(d.Number)
	case api.KindNet:
		props["INTERFACE"] = d.Original
	}
	return props
}

// refPath returns what P11.2 says of ID_PATH and ID_PATH_TAG.
func refPath(t api.Tree, index int) map[string]string {
	d, ok := refFind(t, index)
	if !ok {
		return nil
	}
	path := ""
	for _, a := range refTrail(t, d) {
		path += "-" + a.Subsystem + ":" + a.Original
	}
	path = path[1:]
	if len(path) > 256 {
		path = path[:256]
	}
	return map[string]string{"ID_PATH": path, "ID_PATH_TAG": tagBytes.ReplaceAllString(path, "_")}
}

// refContent returns what P11.3 says of devices that have one of the samples, or no content.
func refContent(t api.Tree, index int) map[string]string {
	d, ok := refFind(t, index)
	if !ok || d.Kind != api.KindBlock {
		return nil
	}
	for _, a := range d.Attrs {
		for _, sample := range contentSamples {
			if a.Name == "content" && a.Value == sample.text {
				return sample.props
			}
		}
	}
	return nil
}

// refNet returns what P11.4 says of the names of interfaces.
func refNet(t api.Tree, index int) map[string]string {
	d, ok := refFind(t, index)
	if !ok || d.Kind != api.KindNet {
		return nil
	}
	props := map[string]string{}
	for _, a := range d.Attrs {
		switch a.Name {
		case "index":
			props["ID_NET_NAME_ONBOARD"] = "eno" + a.Value
		case "slot":
			props["ID_NET_NAME_SLOT"] = "ens" + a.Value
		case "address":
			props["ID_NET_NAME_MAC"] = "enx" + strings.Join(strings.Split(a.Value, ":"), "")
		}
	}
	maps.DeleteFunc(props, func(_, v string) bool { return !ifaceNames.MatchString(v) })
	return props
}

// found checks the properties that a function found, and that they ascend.
func found(t *testing.T, what string, got []api.Attr, want map[string]string) {
	t.Helper()
	var list []api.Attr
	for _, key := range slices.Sorted(maps.Keys(want)) {
		list = append(list, api.Attr{Name: key, Value: want[key]})
	}
	if !slices.Equal(got, list) {
		t.Errorf("%s: got %v, want %v", what, got, list)
	}
}

// foundAll checks all functions for an Index.
func foundAll(t *testing.T, x api.Tree, index int) {
	t.Helper()
	found(t, "Base", builtin.Base(x, index), refBase(x, index))
	for name, want := range map[string]map[string]string{"path": refPath(x, index), "content": refContent(x, index), "net": refNet(x, index)} {
		found(t, name, builtins[name](x, index), want)
		found(t, "Run of "+name, builtin.Run(name, x, index), want)
	}
}

// builtins are the functions of the builtins.
var builtins = map[string]func(api.Tree, int) []api.Attr{"path": builtin.Path, "content": builtin.Content, "net": builtin.Net}

// pick returns one of some values.
func pick[T any](r *rand.Rand, l ...T) T { return l[r.Intn(len(l))] }

// randomAttrs returns attributes among which there are those that builtins read.
func randomAttrs(r *rand.Rand) []api.Attr {
	values := map[string]string{
		"address":  pick(r, "0a:1b:2c", "52:54:00:12:34:56", "00:11:22:33:44:55:66", ":", "a b", "!"),
		"content":  contentSamples[r.Intn(len(contentSamples))].text,
		"contents": "fs:x:y",
		"index":    pick(r, "1", "a:b", "123456789012", "1234567890123", "a!b"),
		"slot":     pick(r, "2", "2/x", ".", "s+s", "1234567890123"),
	}
	var list []api.Attr
	for _, name := range slices.Sorted(maps.Keys(values)) {
		if values[name] != "" && r.Intn(3) > 0 {
			list = append(list, api.Attr{Name: name, Value: values[name]})
		}
	}
	return list
}

// randomDevice returns a device with all of what builtins read.
func randomDevice(r *rand.Rand, index, parent int) api.Device {
	d := api.Device{
		Index:     index,
		Parent:    parent,
		Original:  pick(r, "a", "b", "a!b", "Z.z", "x0", "x:y", strings.Repeat("q", 32)) + pick(r, "", "1", "+"),
		Subsystem: pick(r, "pci", "net", "block", "a_b", "v-4:!", strings.Repeat("s", 32)),
		Driver:    pick(r, "", "", "drv"),
		Alias:     pick(r, "", "", "pci:d2 (*)"),
		Kind:      pick(r, 1, 2, 3, 4),
		Attrs:     randomAttrs(r),
	}
	d.Name = d.Original
	if d.Kind == api.KindBlock || d.Kind == api.KindChar {
		d.Number = 1 + r.Intn(1<<30)
	}
	if d.Kind == api.KindNet {
		d.Original = "if" + pick(r, "", "x", "y") + pick(r, "0", "1", "-1")
		d.Name = pick(r, d.Original, "lan0", "lan1")
	}
	return d
}

// randomTree returns a valid tree.
func randomTree(r *rand.Rand) api.Tree {
	x, indexes := api.Tree{}, []int{0, 0}
	for range 1 + r.Intn(12) {
		index := 1 + r.Intn(40)
		// What does not fit is left out.
		if more, err := tree.Insert(x, randomDevice(r, index, pick(r, indexes...))); err == api.OK {
			x, indexes = more, append(indexes, index, index)
		}
	}
	return x
}

// P11.1 to P11.5: all functions, for all devices of random trees, against a second reading of the chapter.
func TestRandomTrees(t *testing.T) {
	r := rand.New(rand.NewSource(11))
	for range 2000 {
		x := randomTree(r)
		if err := tree.Check(x); err != api.OK {
			t.Fatalf("%v is no tree: %d", x, err)
		}
		for index := range 42 {
			foundAll(t, x, index)
			if t.Failed() {
				t.Fatalf("for %d in %v", index, x)
			}
		}
	}
}

// The chapter's consequences, for random trees.
func TestConsequences(t *testing.T) {
	r := rand.New(rand.NewSource(12))
	for range 500 {
		x := randomTree(r)
		bases := map[string]bool{}
		for _, d := range x.Devices {
			bases[fmt.Sprint(builtin.Base(x, d.Index))] = true
			path, _ := device.Get(builtin.Path(x, d.Index), "ID_PATH")
			above, _ := device.Get(builtin.Path(x, d.Parent), "ID_PATH")
			if !strings.HasPrefix(path, above) {
				t.Errorf("%v: the ID_PATH of %d, %q, does not begin with %q", x, d.Index, path, above)
			}
		}
		if len(bases) != len(x.Devices) {
			t.Errorf("%v: two devices have the same base properties", x)
		}
		renamed := deepCopy(x)
		for i, d := range renamed.Devices {
			if d.Kind == api.KindNet {
				renamed.Devices[i].Name = fmt.Sprint("wan", i)
			}
		}
		for _, d := range x.Devices {
			before, now := allOf(x, d.Index), allOf(renamed, d.Index)
			if !slices.EqualFunc(before, now, slices.Equal) {
				t.Errorf("%v: behind a rename, %d has %v", x, d.Index, now)
			}
		}
	}
}
