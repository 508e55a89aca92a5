"""Changes of a net, and what they make earlier, later or impossible."""
