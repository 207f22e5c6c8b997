import faulthandler

# A search that went wrong may have no end; the run is then to fail, not to wait.
faulthandler.dump_traceback_later(900, exit=True)
