package match

import (
	"coldplug/api"
	"coldplug/device"
)

// deviceValue returns the value that a term looks at in a device; name is what the term has in braces.
type deviceValue func(d api.Device, name string) string

// draftValue returns the values that a term looks at beside the device, as there can be several tags; name is what the term has in braces.
type draftValue func(action string, d api.Draft, name string) []string

// deviceValues returns, by their keys, what static and upward terms look at.
func deviceValues() [api.KeyAttrs + 1]deviceValue {
	return [...]deviceValue{
		api.KeyKernel:     originalOf,
		api.KeySubsystem:  subsystemOf,
		api.KeyDriver:     driverOf,
		api.KeyAttr:       attrOf,
		api.KeyKernels:    originalOf,
		api.KeySubsystems: subsystemOf,
		api.KeyDrivers:    driverOf,
		api.KeyAttrs:      attrOf,
	}
}

// draftValues returns, by their keys, what the terms look at that Draft decides.
func draftValues() [api.KeyResult + 1]draftValue {
	return [...]draftValue{
		api.KeyAction: actionOf,
		api.KeyEnv:    propOf,
		api.KeyTag:    tagsOf,
		api.KeyResult: resultOf,
	}
}

// originalOf returns the name that rules see: not the present one, so that no rename of an interface changes what holds.
func originalOf(d api.Device, _ string) string { return d.Original }

func subsystemOf(d api.Device, _ string) string { return d.Subsystem }

func driverOf(d api.Device, _ string) string { return d.Driver }

func attrOf(d api.Device, name string) string { return valueIn(d.Attrs, name) }

func actionOf(action string, _ api.Draft, _ string) []string { return []string{action} }

func propOf(_ string, d api.Draft, name string) []string { return []string{valueIn(d.Props, name)} }

func tagsOf(_ string, d api.Draft, _ string) []string { return d.Tags }

func resultOf(_ string, d api.Draft, _ string) []string { return []string{d.Result} }

// valueIn returns the value with a name, or the empty text if there is none.
func valueIn(l []api.Attr, name string) string {
	value, _ := device.Get(l, name)
	return value
}
