"""inputways: every way that a program goes, for all inputs."""
