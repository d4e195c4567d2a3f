"""Roundedsteps: what is so of rounded programs, for all inputs."""
