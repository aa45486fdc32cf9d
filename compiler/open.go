package compiler

import "fathom/api"

// thing is what is open in a text. Its function is given the token that is to close it, and
// answers whether that token may; `else` and `while` close one half and open the other.
type thing struct {
	close func(token string) bool
}

func (c *compiler) push(l ...thing) { c.open = append(c.open, l...) }

// closeLast hands the token to what was opened last.
func (c *compiler) closeLast(token string) api.Errno {
	if len(c.open) == 0 {
		return api.ErrNest
	}
	last := c.open[len(c.open)-1]
	c.open = c.open[:len(c.open)-1]
	if !last.close(token) {
		return api.ErrNest
	}
	return api.OK
}

func (c *compiler) openWord(name string) {
	c.here = c.definitions
	c.start = c.here.next()
	c.push(thing{func(token string) bool {
		if token != ";" {
			return false
		}
		c.here.add(plain(api.Ret))
		// Only now, as a word is no element of its own definition.
		c.names[name] = with(api.Call, c.start)
		c.here = c.main
		return true
	}})
}

func (c *compiler) openIf() {
	jump := c.here.add(plain(api.Jumpz))
	c.push(thing{func(token string) bool {
		switch token {
		case "then":
			c.here.aim(jump)
		case "else":
			c.openElse(jump)
		default:
			return false
		}
		return true
	}})
}

func (c *compiler) openElse(ifJump int64) {
	jump := c.here.add(plain(api.Jump))
	c.here.aim(ifJump)
	c.push(thing{func(token string) bool {
		if token != "then" {
			return false
		}
		c.here.aim(jump)
		return true
	}})
}

func (c *compiler) openBegin() {
	start := c.here.next()
	c.push(thing{func(token string) bool {
		switch token {
		case "until":
			c.here.add(with(api.Jumpz, start))
		case "while":
			c.openWhile(start)
		default:
			return false
		}
		return true
	}})
}

func (c *compiler) openWhile(start int64) {
	jump := c.here.add(plain(api.Jumpz))
	c.push(thing{func(token string) bool {
		if token != "repeat" {
			return false
		}
		c.here.add(with(api.Jump, start))
		c.here.aim(jump)
		return true
	}})
}

func (c *compiler) openDo() {
	c.here.add(plain(api.Do))
	start := c.here.next()
	c.push(thing{func(token string) bool {
		if token != "loop" {
			return false
		}
		c.here.add(with(api.Loop, start))
		return true
	}})
}
