"""Who may do what, by rows of objects, relations and users."""
