"""What a shell script does, for all statuses of its commands."""
