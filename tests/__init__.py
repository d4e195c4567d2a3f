"""Tests of roundedsteps."""
