package builtin

import (
	"coldplug/api"
	"coldplug/content"
	"coldplug/device"
	"coldplug/tree"
)

// Content returns the properties that tell what is on a block device.
func Content(t api.Tree, index int) []api.Attr {
	d, ok := tree.Find(t, index)
	if !ok || d.Kind != api.KindBlock {
		return nil
	}
	// Without the attribute this is the empty text, that of ContentNone; so is what Parse returns with an error.
	text, _ := device.Get(d.Attrs, "content")
	c, _ := content.Parse(text)
	if c.Kind == api.ContentNone {
		return nil
	}
	var l list
	l.add(c.Label != "", "ID_FS_LABEL", c.Label)
	l.add(true, "ID_FS_USAGE", usageOf(c.Kind))
	l.add(true, "ID_FS_UUID", c.ID)
	return l
}

// usageOf returns what contents of a kind are used as.
func usageOf(kind int) string {
	switch kind {
	case api.ContentFile:
		return "filesystem"
	case api.ContentRaid:
		return "raid"
	case api.ContentCrypt:
		return "crypto"
	case api.ContentGroup:
		return "member"
	case api.ContentTable:
		return "table"
	}
	return ""
}
