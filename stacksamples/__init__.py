"""What samples of a call stack show, and what they can never show."""
