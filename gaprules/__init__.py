"""Two kinds of logs told apart by rules with gaps."""
