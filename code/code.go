// Package code: lists of entries as bytes, one way of writing for each list.
//
// The bytes of a list: the number of entries; then, if there are any, the shape, and what the shape asks for.
// Shape 0, rows of several widths: of each entry the width, the values and the weight.
// Any other shape, all rows of one width (the upper four bits): the lower four bits name the columns whose values are all the same. These values stand once, ahead of the entries; of each entry follow the other values and the weight.
//
// A value: a byte that tells its kind, and for Bytes its length; behind it a number or the text.
// A number of 64 bits with a sign: seven bits a byte, the lowest ones first, the sign turned into the lowest bit.
package code

import "tidings/api"

// longest is what the longest list may take: longer bytes need not be looked at.
const longest = 24 + 90*api.MaxRows

// The first bytes of values.
const (
	tagNull  = 0
	tagFalse = 1
	tagTrue  = 2
	tagInt   = 3
	tagBytes = 4 // and the length
)

// mixed is the shape of a list whose rows differ in width.
const mixed = 0

// shape says how the rows of a list are written.
type shape byte

func shapeOf(width int, same byte) shape { return shape(width<<4) | shape(same) }

func (s shape) width() int { return int(s >> 4) }

// same tells whether a column's values are all the same.
func (s shape) same(column int) bool { return s>>column&1 == 1 }
