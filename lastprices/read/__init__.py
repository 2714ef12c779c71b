"""What machines do with texts, and machines that are made of machines."""
