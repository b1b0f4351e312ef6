package builtin_test

import (
	"strings"
	"testing"

	"coldplug/api"
	"coldplug/builtin"
	"coldplug/device"
)

// P11.3: the example, and contents of all kinds on devices of all kinds.
func TestContents(t *testing.T) {
	found(t, "the example", builtin.Content(example(), 9), map[string]string{"ID_FS_LABEL": "root", "ID_FS_USAGE": "filesystem", "ID_FS_UUID": "u1"})
	for _, sample := range contentSamples {
		// No sound device has an empty attribute, which is ContentNone all the same.
		found(t, sample.text, builtin.Content(treeOf(block(1, 0, "a", "content", sample.text)), 1), sample.props)
		for _, d := range []api.Device{plain(1, 0, "a"), char(1, 0, "a"), iface(1, 0, "a", "a")} {
			d.Attrs = attrsOf("content", sample.text)
			found(t, sample.text+" on another device", builtin.Content(treeOf(d), 1), nil)
		}
	}
}

// P11.3: only the attribute "content" counts, and only that of the device itself.
func TestOtherAttributes(t *testing.T) {
	for _, name := range []string{"Content", "CONTENT", "content1", "conten", "contents", "kontent"} {
		found(t, name, builtin.Content(treeOf(block(1, 0, "a", name, "fs:a:b")), 1), nil)
	}
	x := treeOf(block(1, 0, "a", "bontent", "fs:x:y", "content", "fs:b:", "contents", "fs:x:y"), block(2, 1, "b", "size", "8"))
	found(t, "beside others", builtin.Content(x, 1), map[string]string{"ID_FS_USAGE": "filesystem", "ID_FS_UUID": "b"})
	found(t, "below", builtin.Content(x, 2), nil)
	found(t, "none", builtin.Content(treeOf(block(1, 0, "a")), 1), nil)
}

// P11.3: texts of no valid content, and the greatest ones of valid contents.
func TestContentLimits(t *testing.T) {
	long := strings.Repeat("i", api.MaxID)
	for text, right := range map[string]bool{
		"crypt:" + long + "()":  true,
		"crypt:" + long + "i()": false,
		"crypt:c":               false,
		"crypt:c()":             true,
		"crypt:c() ":            false,
		"crypt:c(,)":            false,
		"Crypt:c()":             false,
		strings.Repeat("crypt:c(", 6) + strings.Repeat(")", 6): true,
		strings.Repeat("crypt:c(", 7) + strings.Repeat(")", 7): false,
		"crypt:c(fs:a:b)":  true,
		"crypt:c(fs:a)":    false,
		"crypt:c(unknown)": false,
		"crypt:c(raid:" + long + ":1/1/1(table:" + long + "(" + strings.Repeat("fs:"+long+":"+long+",", 5) + "fs:a:b)))": true,
		"crypt:c(raid:" + long + ":1/1/1(table:" + long + "(" + strings.Repeat("fs:"+long+":"+long+",", 6) + "fs:a:b)))": false,
	} {
		got := builtin.Content(treeOf(block(1, 0, "a", "content", text)), 1)
		if usage, ok := device.Get(got, "ID_FS_USAGE"); ok != right || right && (usage != "crypto" || len(got) != 2) || !right && len(got) != 0 {
			t.Errorf("%s: got %v", text, got)
		}
	}
}
