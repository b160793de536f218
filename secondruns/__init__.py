"""Secondruns: books of rules that change code, run again and beside others."""
