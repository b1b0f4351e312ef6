package content

import (
	"strconv"
	"strings"

	"coldplug/api"
)

// What the texts of the kinds begin with.
const (
	wordFile  = "fs"
	wordRaid  = "raid"
	wordCrypt = "crypt"
	wordGroup = "pv"
	wordTable = "table"
)

// text returns the text of a valid content.
func text(c api.Content) string {
	switch c.Kind {
	case api.ContentFile:
		return wordFile + ":" + c.ID + ":" + c.Label
	case api.ContentRaid:
		return wordRaid + ":" + c.ID + ":" + slotText(c) + "/" + strconv.Itoa(c.Least) + innerText(c)
	case api.ContentCrypt:
		return wordCrypt + ":" + c.ID + innerText(c)
	case api.ContentGroup:
		return wordGroup + ":" + c.ID + ":" + slotText(c) + innerText(c)
	case api.ContentTable:
		return wordTable + ":" + c.ID + innerText(c)
	}
	return ""
}

// slotText returns the text of Slot and Total.
func slotText(c api.Content) string {
	return strconv.Itoa(c.Slot) + "/" + strconv.Itoa(c.Total)
}

// innerText returns the text of the Inner contents.
func innerText(c api.Content) string {
	var texts []string
	for _, inner := range c.Inner {
		texts = append(texts, text(inner))
	}
	return "(" + strings.Join(texts, ",") + ")"
}
