package builtin

import (
	"strconv"

	"coldplug/api"
	"coldplug/device"
	"coldplug/tree"
)

// The base keys.
const (
	keyDevname   = "DEVNAME"
	keyDevpath   = "DEVPATH"
	keyDriver    = "DRIVER"
	keyInterface = "INTERFACE"
	keyModalias  = "MODALIAS"
	keyNumber    = "NUMBER"
	keySubsystem = "SUBSYSTEM"
)

// Key reports whether a property is one that every evaluation begins with.
func Key(key string) bool {
	switch key {
	case keyDevname, keyDevpath, keyDriver, keyInterface, keyModalias, keyNumber, keySubsystem:
		return true
	}
	return false
}

// Base returns the properties with which the evaluation of a device begins.
func Base(t api.Tree, index int) []api.Attr {
	d, ok := tree.Find(t, index)
	if !ok {
		return nil
	}
	origin, _ := tree.Origin(t, index)
	node, hasNode := device.Node(d)
	var l list
	l.add(hasNode, keyDevname, node)
	l.add(true, keyDevpath, origin)
	l.add(d.Driver != "", keyDriver, d.Driver)
	l.add(d.Kind == api.KindNet, keyInterface, d.Original)
	l.add(d.Alias != "", keyModalias, d.Alias)
	l.add(hasNode, keyNumber, strconv.Itoa(d.Number))
	l.add(true, keySubsystem, d.Subsystem)
	return l
}
