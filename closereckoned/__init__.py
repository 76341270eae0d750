"""What houses can reckon together with curious lots kept close."""
