"""Cell texts of a notebook, read into trees and written in one form."""
