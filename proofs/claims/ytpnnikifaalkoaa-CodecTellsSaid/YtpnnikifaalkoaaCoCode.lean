/-
  OWN WORK. Package codec's calls, as the laws' walks ask them.
-/
import Derived.Test.YtpnnikifaalkoaaCoWCode
import Derived.Test.YtpnnikifaalkoaaCoRCode
