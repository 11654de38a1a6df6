/- Texts as the program holds them. No function of the program is named. -/
import Derived.Test.YtfpfdnapamdhjaaGreatDoorKitAZ
import Derived.Test.YtfpfdnapamdhjaaGreatDoorValAGZ
namespace Go.Proofs.YtfpfdnapamdhjaaGreatDoor
open Go.RowKit Val

theorem hide1 {p : Prop} (h : p) : Hid (Unit -> p) := fun _ => h
theorem unhide1 {p : Prop} (h : Hid (Unit -> p)) : p := h ()
theorem size_list (s : ByteArray) : s.size = s.data.toList.length := by simp
theorem bytes_ext {a b : ByteArray} (h : a.data.toList = b.data.toList) : a = b := by
  obtain ⟨⟨a⟩⟩ := a; obtain ⟨⟨b⟩⟩ := b; simp at h; subst h; rfl
/-- A text as the program holds it. -/
def bytesT (t : Txt) : ByteArray := ⟨t.toArray⟩
theorem bytesT_list (t : Txt) : (bytesT t).data.toList = t := rfl
theorem bytesT_size (t : Txt) : (bytesT t).size = t.length := by rw [size_list]; rfl
/-- A text that memory holds. -/
def short (t : Txt) : Prop := t.length <= 281474976710656
theorem short_size {t : Txt} (h : short t) : (bytesT t).size <= 281474976710656 := by rw [bytesT_size]; exact h
theorem short_max {t : Txt} (h : short t) : (bytesT t).size <= maxLen := Nat.le_trans (short_size h) (by decide)
end Go.Proofs.YtfpfdnapamdhjaaGreatDoor
