package content

import (
	"strconv"

	"coldplug/api"
)

// cursor takes a text apart from its beginning on.
type cursor struct {
	rest  string
	wrong bool // whether the text is none of a content, as far as it was read; it stays so
}

// has reports whether the next byte is b.
func (c *cursor) has(b byte) bool { return c.rest != "" && c.rest[0] == b }

// take takes the next byte, which must be b.
func (c *cursor) take(b byte) {
	if !c.has(b) {
		c.wrong = true
		return
	}
	c.rest = c.rest[1:]
}

// word takes as many bytes as may belong to an ID; there may be none, or more than an ID can have.
func (c *cursor) word() string {
	n := idLength(c.rest)
	word := c.rest[:n]
	c.rest = c.rest[n:]
	return word
}

// number takes a number.
func (c *cursor) number() int {
	word := c.word()
	n, err := strconv.Atoi(word)
	if err != nil || strconv.Itoa(n) != word {
		// Leading zeros end here, too, as a number has one text only.
		c.wrong = true
	}
	return n
}

// parser reads contents.
//
// It finds out which fields a text gives, and Check then whether they are right.
type parser struct{ cursor }

// content reads a content, which ends where the text cannot go on with it.
func (p *parser) content() api.Content {
	switch p.word() {
	case "":
		return api.Content{}
	case wordFile:
		return p.file()
	case wordRaid:
		return p.raid()
	case wordCrypt:
		return api.Content{Kind: api.ContentCrypt, ID: p.id(), Inner: p.inner()}
	case wordGroup:
		return p.group()
	case wordTable:
		return api.Content{Kind: api.ContentTable, ID: p.id(), Inner: p.inner()}
	}
	p.wrong = true
	return api.Content{}
}

// file reads a file system behind its word, as the methods below do for other kinds.
func (p *parser) file() api.Content {
	c := api.Content{Kind: api.ContentFile, ID: p.id()}
	p.take(':')
	c.Label = p.word()
	return c
}

func (p *parser) raid() api.Content {
	c := api.Content{Kind: api.ContentRaid, ID: p.id()}
	c.Slot, c.Total = p.slot()
	p.take('/')
	c.Least = p.number()
	c.Inner = p.inner()
	return c
}

func (p *parser) group() api.Content {
	c := api.Content{Kind: api.ContentGroup, ID: p.id()}
	c.Slot, c.Total = p.slot()
	c.Inner = p.inner()
	return c
}

// id reads a colon and an ID.
func (p *parser) id() string {
	p.take(':')
	return p.word()
}

// slot reads a colon, Slot and Total.
func (p *parser) slot() (int, int) {
	p.take(':')
	slot := p.number()
	p.take('/')
	return slot, p.number()
}

// inner reads the Inner contents.
func (p *parser) inner() []api.Content {
	p.take('(')
	list := []api.Content{p.content()}
	for p.has(',') {
		p.take(',')
		list = append(list, p.content())
	}
	p.take(')')
	return list
}
