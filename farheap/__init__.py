"""Farheap: distributed garbage collection for several sites."""
