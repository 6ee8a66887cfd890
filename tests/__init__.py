"""Tests of shelvesmoved."""
