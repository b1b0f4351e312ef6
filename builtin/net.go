package builtin

import (
	"strings"

	"coldplug/api"
	"coldplug/device"
	"coldplug/name"
	"coldplug/tree"
)

// Net returns the names that an interface may have.
func Net(t api.Tree, index int) []api.Attr {
	d, ok := tree.Find(t, index)
	if !ok || d.Kind != api.KindNet {
		return nil
	}
	address, hasAddress := device.Get(d.Attrs, "address")
	number, hasNumber := device.Get(d.Attrs, "index")
	slot, hasSlot := device.Get(d.Attrs, "slot")
	var l list
	l.addName(hasAddress, "ID_NET_NAME_MAC", "enx"+strings.ReplaceAll(address, ":", ""))
	l.addName(hasNumber, "ID_NET_NAME_ONBOARD", "eno"+number)
	l.addName(hasSlot, "ID_NET_NAME_SLOT", "ens"+slot)
	return l
}

// addName appends a property if the device has it and its value may be the name of an interface.
func (l *list) addName(has bool, key, value string) {
	l.add(has && name.Interface(value), key, value)
}
