"""The tests of handedcopies."""
