"""Coinroll: pay and dues of many years, to the smallest coin."""
