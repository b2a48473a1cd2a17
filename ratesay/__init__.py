"""What holds for all solutions of equations between functions and their rates."""
