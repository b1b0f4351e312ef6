package assign

import (
	"slices"
	"strings"

	"coldplug/api"
	"coldplug/builtin"
	"coldplug/device"
	"coldplug/name"
)

// draft is a draft whose lists belong to nobody else, so that its methods may change them in place.
type draft struct{ api.Draft }

func copyOf(d api.Draft) draft {
	d.Props = slices.Clone(d.Props)
	d.Tags = slices.Clone(d.Tags)
	d.Links = slices.Clone(d.Links)
	d.Run = slices.Clone(d.Run)
	d.Load = slices.Clone(d.Load)
	d.Closed = slices.Clone(d.Closed)
	return draft{d}
}

// closed reports whether := has closed what a term assigns to.
func (d *draft) closed(t api.Term) bool {
	return slices.ContainsFunc(d.Closed, func(c api.Term) bool { return c.Key == t.Key && c.Name == t.Name })
}

func (d *draft) assign(t api.Term, value string) {
	switch t.Key {
	case api.KeyEnv:
		d.property(t.Name, t.Op, value)
	case api.KeyTag:
		d.tag(t.Op, value)
	case api.KeyName:
		replace(&d.Name, value, name.Interface)
	case api.KeySymlink:
		d.link(t.Op, value)
	case api.KeyOwner:
		replace(&d.Owner, value, name.Valid)
	case api.KeyGroup:
		replace(&d.Group, value, name.Valid)
	case api.KeyMode:
		if mode, ok := octal(value); ok {
			d.Mode = mode
		}
	case api.KeyRun:
		d.run(t.Op, value)
	case api.KeyLoad:
		if isCommand(value) {
			d.Load = put(d.Load, value, api.MaxRun)
		}
	case api.KeyPriority:
		if priority, ok := number(value); ok {
			d.Priority = priority
		}
	}
}

func (d *draft) property(key string, op int, value string) {
	if op == api.OpAssign {
		d.setProperty(key, value)
	} else if value != "" {
		d.setProperty(key, d.longer(key, value))
	}
}

// longer returns what += makes of a property: only what follows an old value is cut.
func (d *draft) longer(key, value string) string {
	old, known := device.Get(d.Props, key)
	if !known {
		return value
	}
	joined := old + " " + value
	return joined[:min(len(joined), api.MaxText)]
}

// setProperty sets a property, or removes it if value is empty; base properties stay as they are.
func (d *draft) setProperty(key, value string) {
	if builtin.Key(key) || !name.Text(value) {
		return
	}
	if _, known := device.Get(d.Props, key); known || len(d.Props) < api.MaxProps {
		d.Props = device.Set(d.Props, key, value)
	}
}

func (d *draft) tag(op int, value string) {
	switch {
	case !name.Valid(value):
	case op == api.OpAssign:
		d.Tags = []string{value}
	case op == api.OpMore:
		d.Tags = put(d.Tags, value, api.MaxTags)
	case op == api.OpLess:
		d.Tags = drop(d.Tags, value)
	}
}

func (d *draft) link(op int, value string) {
	if clears(op) {
		d.Links = nil
	}
	for word := range strings.SplitSeq(value, " ") {
		link, ok := name.Clean(word)
		switch {
		case !ok: // No link, or the empty text between two spaces.
		case op == api.OpLess:
			d.Links = drop(d.Links, link)
		default:
			d.Links = put(d.Links, link, api.MaxLinks)
		}
	}
}

func (d *draft) run(op int, value string) {
	if clears(op) {
		d.Run = nil
	}
	if isCommand(value) && len(d.Run) < api.MaxRun {
		d.Run = append(d.Run, value)
	}
}
