"""The tests of Poisonruns."""
