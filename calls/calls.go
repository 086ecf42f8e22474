// Package calls has nothing but a test: it holds each layer's calls and numbers to those that the document lists. What is listed and isn't there, or is of another form, doesn't build.
package calls
