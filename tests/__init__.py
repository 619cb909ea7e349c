"""The tests of the package onebetween."""
