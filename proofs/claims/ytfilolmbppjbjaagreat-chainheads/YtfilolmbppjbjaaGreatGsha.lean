/-
  SMath · SWords · SCells · SLaws · SAny · SLeafs · SRoots · SPrimes · SSched · SMixed · SBytes · SText · SPad · SFirsts · SOf · SSame: merged.
-/
import Derived.Laws.BitsAllLaws
import Derived.Below
import Derived.Deep.MidRow
import Derived.Deep.WholeRow
import Derived.Laws.CopyOwn
import Derived.Tactics
import Derived.RegionTactic
import Derived.Test.YtfilolmbppjbjaaGreatRows
import Derived.Test.YtfilolmbppjbjaaGreatShelf
import Derived.WalkKit
import Derived.WalkSpells
import Derived.WalkLawsBesides
import Derived.Handy
import Derived.Lib.Hide
import Derived.Laws.Externs
import Derived.BigQuiet
import Derived.Deep.QuietTactic
import Derived.Laws.IdiomStrings
import Derived.Deep.RegionHeld3
import Derived.ChangeKeysEq
import Derived.Laws.StructEq
namespace Go.Proofs.YtfilolmbppjbjaaGreat.sh

/-- A word turned right. -/
def rot (x : BitVec 32) (n : Nat) : BitVec 32 := (x <<< (32 - n)) ||| (x >>> n)
def sm0 (x : BitVec 32) : BitVec 32 := rot x 7 ^^^ rot x 18 ^^^ (x >>> (3 : Nat))
def sm1 (x : BitVec 32) : BitVec 32 := rot x 17 ^^^ rot x 19 ^^^ (x >>> (10 : Nat))
def bg0 (a : BitVec 32) : BitVec 32 := rot a 2 ^^^ rot a 13 ^^^ rot a 22
def bg1 (e : BitVec 32) : BitVec 32 := rot e 6 ^^^ rot e 11 ^^^ rot e 25
def chs (e f g : BitVec 32) : BitVec 32 := (e &&& f) ^^^ (~~~e &&& g)
def maj (a b c : BitVec 32) : BitVec 32 := (a &&& b) ^^^ (a &&& c) ^^^ (b &&& c)

/-- A byte as a word. -/
def byte (b : UInt8) : BitVec 32 := BitVec.ofNat 32 b.toNat

/-- The first so many bytes of the t-th word of a block. -/
def bwp (g : Nat → UInt8) (t : Nat) : Nat → BitVec 32
  | 0 => 0#32
  | i + 1 => (bwp g t i <<< (8 : Nat)) ||| byte (g (4 * t + i))

/-- The word behind those that are there. -/
def nxt (l : List (BitVec 32)) : BitVec 32 :=
  sm1 (l.getD (l.length - 2) 0#32) + l.getD (l.length - 7) 0#32 + sm0 (l.getD (l.length - 15) 0#32) + l.getD (l.length - 16) 0#32

/-- The first so many words. -/
def sch (g : Nat → UInt8) : Nat → List (BitVec 32)
  | 0 => []
  | t + 1 => sch g t ++ [if t < 16 then bwp g t 4 else nxt (sch g t)]

theorem sch_length (g : Nat → UInt8) (t : Nat) : (sch g t).length = t := by
  induction t with
  | zero => rfl
  | succ t ih => simp [sch, ih]

theorem sch_ext {g h : Nat → UInt8} (e : ∀ i, i < 64 → g i = h i) (t : Nat) : sch g t = sch h t := by
  induction t with
  | zero => rfl
  | succ t ih =>
    unfold sch
    rw [ih]
    by_cases ht : t < 16
    · rw [if_pos ht, if_pos ht]
      have : bwp g t 4 = bwp h t 4 := by
        simp only [bwp]
        rw [e _ (by omega), e _ (by omega), e _ (by omega), e _ (by omega)]
      rw [this]
    · rw [if_neg ht, if_neg ht]

/-- The eight words. -/
structure St where
  a : BitVec 32
  b : BitVec 32
  c : BitVec 32
  d : BitVec 32
  e : BitVec 32
  f : BitVec 32
  g : BitVec 32
  h : BitVec 32
  deriving DecidableEq

def t1 (s : St) (k w : BitVec 32) : BitVec 32 := s.h + bg1 s.e + chs s.e s.f s.g + k + w
def t2 (s : St) : BitVec 32 := bg0 s.a + maj s.a s.b s.c

/-- One round. -/
def rnd (s : St) (k w : BitVec 32) : St := ⟨t1 s k w + t2 s, s.a, s.b, s.c, s.d + t1 s k w, s.e, s.f, s.g⟩

/-- So many rounds. -/
def mix (ks ws : List (BitVec 32)) (s : St) : Nat → St
  | 0 => s
  | t + 1 => rnd (mix ks ws s t) (ks.getD t 0#32) (ws.getD t 0#32)

def addS (s v : St) : St := ⟨s.a + v.a, s.b + v.b, s.c + v.c, s.d + v.d, s.e + v.e, s.f + v.f, s.g + v.g, s.h + v.h⟩

def St.toL (s : St) : List (BitVec 32) := [s.a, s.b, s.c, s.d, s.e, s.f, s.g, s.h]

def H0 : St := ⟨1779033703#32, 3144134277#32, 1013904242#32, 2773480762#32, 1359893119#32, 2600822924#32, 528734635#32, 1541459225#32⟩

def K0 : List (BitVec 32) := [1116352408#32, 1899447441#32, 3049323471#32, 3921009573#32, 961987163#32, 1508970993#32, 2453635748#32, 2870763221#32,
  3624381080#32, 310598401#32, 607225278#32, 1426881987#32, 1925078388#32, 2162078206#32, 2614888103#32, 3248222580#32,
  3835390401#32, 4022224774#32, 264347078#32, 604807628#32, 770255983#32, 1249150122#32, 1555081692#32, 1996064986#32,
  2554220882#32, 2821834349#32, 2952996808#32, 3210313671#32, 3336571891#32, 3584528711#32, 113926993#32, 338241895#32,
  666307205#32, 773529912#32, 1294757372#32, 1396182291#32, 1695183700#32, 1986661051#32, 2177026350#32, 2456956037#32,
  2730485921#32, 2820302411#32, 3259730800#32, 3345764771#32, 3516065817#32, 3600352804#32, 4094571909#32, 275423344#32,
  430227734#32, 506948616#32, 659060556#32, 883997877#32, 958139571#32, 1322822218#32, 1537002063#32, 1747873779#32,
  1955562222#32, 2024104815#32, 2227730452#32, 2361852424#32, 2428436474#32, 2756734187#32, 3204031479#32, 3329325298#32]

/-- The words behind one block. -/
def comp (s : St) (g : Nat → UInt8) : St := addS s (mix K0 (sch g 64) s 64)

/-- The words behind the first so many blocks. -/
def stt (p : List UInt8) : Nat → St
  | 0 => H0
  | j + 1 => comp (stt p j) (fun i => p.getD (64 * j + i) 0)

/-- How many bytes 0 there are. -/
def zer (n : Nat) : Nat := (119 - n % 64) % 64

/-- The bytes of a number, the highest first. -/
def be : Nat → Nat → List UInt8
  | 0, _ => []
  | k + 1, n => be k (n / 256) ++ [UInt8.ofNat (n % 256)]

theorem be_length (k n : Nat) : (be k n).length = k := by
  induction k generalizing n with
  | zero => rfl
  | succ k ih => simp [be, ih]

/-- Bytes, and what is put behind them. -/
def pad (l : List UInt8) : List UInt8 := l ++ [128] ++ List.replicate (zer l.length) 0 ++ be 8 (l.length * 8)

theorem pad_length (l : List UInt8) : (pad l).length = l.length + 1 + zer l.length + 8 := by
  simp [pad, be_length]; omega

theorem pad_mod (l : List UInt8) : (pad l).length % 64 = 0 := by
  rw [pad_length]; unfold zer; omega

/-- The bytes of the words. -/
def bytesOf (l : List (BitVec 32)) : List UInt8 := l.flatMap fun w => be 4 w.toNat

/-- The digest. -/
def sha (l : List UInt8) : List UInt8 := bytesOf (stt (pad l) ((pad l).length / 64)).toL

theorem sha_length (l : List UInt8) : (sha l).length = 32 := by
  simp [sha, bytesOf, St.toL, be_length]

def digs : ByteArray := ⟨#[48, 49, 50, 51, 52, 53, 54, 55, 56, 57, 97, 98, 99, 100, 101, 102]⟩
def dg (n : Nat) : UInt8 := digs.data.toList.getD n 0

/-- The digits of bytes. -/
def hex (l : List UInt8) : List UInt8 := l.flatMap fun b => [dg (b.toNat / 16), dg (b.toNat % 16)]

theorem hex_length (l : List UInt8) : (hex l).length = 2 * l.length := by
  induction l with
  | nil => rfl
  | cons x l ih =>
    show ([dg (x.toNat / 16), dg (x.toNat % 16)] ++ hex l).length = _
    simp [ih]; omega

set_option maxRecDepth 100000 in
theorem hex_abc : hex (sha [97, 98, 99]) = [98, 97, 55, 56, 49, 54, 98, 102, 56, 102, 48, 49, 99, 102, 101, 97, 52, 49, 52, 49, 52, 48, 100, 101, 53, 100, 97, 101, 50, 50, 50, 51, 98, 48, 48, 51, 54, 49, 97, 51, 57, 54, 49, 55, 55, 97, 57, 99, 98, 52, 49, 48, 102, 102, 54, 49, 102, 50, 48, 48, 49, 53, 97, 100] := by decide +kernel

end Go.Proofs.YtfilolmbppjbjaaGreat.sh

namespace Go.Proofs.YtfilolmbppjbjaaGreat.sh

/-- A word as a number. -/
def V (c : BitVec 32) : Int := (c.toNat : Int)

theorem V_lo (a : BitVec 32) : 0 ≤ V a := by unfold V; omega
theorem V_hi (a : BitVec 32) : V a ≤ 4294967295 := by have := a.isLt; unfold V; omega
theorem V_inj (a b : BitVec 32) (h : V a = V b) : a = b := by
  unfold V at h; exact BitVec.eq_of_toNat_eq (by omega)
theorem V_of (n : Int) (h0 : 0 ≤ n) (h1 : n ≤ 4294967295) : V (BitVec.ofNat 32 n.toNat) = n := by
  unfold V; rw [BitVec.toNat_ofNat]; omega
theorem V_ofNat (n : Nat) (h1 : n < 4294967296) : V (BitVec.ofNat 32 n) = n := by
  unfold V; rw [BitVec.toNat_ofNat]; omega

theorem xorV (a b : BitVec 32) : bits .xor .u32 (V a) (V b) = V (a ^^^ b) := by
  unfold V
  rw [u32_xor_nat _ _ a.isLt b.isLt, BitVec.toNat_xor]
theorem andV (a b : BitVec 32) : bits .and .u32 (V a) (V b) = V (a &&& b) := by
  unfold V
  rw [u32_and_nat _ _ a.isLt b.isLt, BitVec.toNat_and]
theorem orV (a b : BitVec 32) : bits .or .u32 (V a) (V b) = V (a ||| b) := by
  unfold V
  rw [u32_or_nat _ _ a.isLt b.isLt, BitVec.toNat_or]
theorem byteV (b : UInt8) : (b.toNat : Int) % 4294967296 = V (byte b) := by
  unfold byte; rw [V_ofNat _ (by have := b.toNat_lt; omega)]; have := b.toNat_lt; omega
theorem shrV (a : BitVec 32) (n : Nat) : V a / (2 ^ n : Nat) = V (a >>> n) := by
  unfold V; rw [BitVec.toNat_ushiftRight, Nat.shiftRight_eq_div_pow]; rfl
theorem shr1 (a : BitVec 32) : V a / (2 : Int) = V (a >>> 1) := shrV a 1
theorem shr4 (a : BitVec 32) : V a / (16 : Int) = V (a >>> 4) := shrV a 4
theorem tdiv2 (a : BitVec 32) : (V a).tdiv (2 : Int) % (4294967296 : Int) = V (a >>> 1) := by
  rw [Int.tdiv_eq_ediv_of_nonneg (V_lo a), shr1]
  have := V_lo (a >>> 1); have := V_hi (a >>> 1); omega
theorem low1 (a : BitVec 32) : a.getLsbD 0 = decide (a.toNat % 2 = 1) := by
  rw [BitVec.getLsbD, Nat.testBit_zero]
theorem and1 (a : BitVec 32) : (bits .and .u32 (V a) 1 == 0) = !a.getLsbD 0 := by
  have h : bits .and .u32 (V a) 1 = ((a.toNat % 2 : Nat) : Int) := by
    have := u32_and_nat a.toNat 1 a.isLt (by decide)
    rw [nat_mask1] at this
    exact this
  rw [h, low1]
  have : a.toNat % 2 = 0 ∨ a.toNat % 2 = 1 := by omega
  rcases this with h | h <;> rw [h] <;> rfl
theorem tmod2 (a : BitVec 32) : ((V a).tmod 2 == 1) = a.getLsbD 0 := by
  rw [Int.tmod_eq_emod_of_nonneg (V_lo a), low1]
  unfold V
  have : a.toNat % 2 = 0 ∨ a.toNat % 2 = 1 := by omega
  rcases this with h | h
  · rw [h, show ((a.toNat : Int) % 2) = 0 by omega]; rfl
  · rw [h, show ((a.toNat : Int) % 2) = 1 by omega]; rfl
theorem and15 (a : BitVec 32) : bits .and .u32 (V a) 15 = V (a &&& 15#32) := andV a 15#32
theorem and15_lt (a : BitVec 32) : (a &&& 15#32).toNat < 16 := by
  rw [BitVec.toNat_and]
  exact Nat.lt_of_le_of_lt Nat.and_le_right (by decide)
theorem notV (a : BitVec 32) : 4294967295 - V a = V (~~~a) := by
  unfold V; rw [BitVec.toNat_not]; have := a.isLt; omega
theorem xor_ones (a : BitVec 32) : bits .xor .u32 4294967295 (V a) = V (~~~a) := by
  have h := xorV (BitVec.allOnes 32) a
  rw [BitVec.allOnes_xor] at h
  exact h


theorem u32_eq {a b : Int} (h : a = b) : Value.int .u32 a = Value.int .u32 b := by rw [h]
theorem ret_u32 {a b : Int} (h : a = b) : Ending.returned (.int .u32 a) = .returned (.int .u32 b) := by rw [h]

end Go.Proofs.YtfilolmbppjbjaaGreat.sh

namespace Go.Proofs.YtfilolmbppjbjaaGreat.sh
open Go.RowKit

def ws (l : List (BitVec 32)) : Array Value := (l.map fun c => Value.int .u32 (V c)).toArray
def us (l : List Nat) : Array Value := (l.map fun n : Nat => Value.int .u64 (n : Int)).toArray
def bls (l : List Bool) : Array Value := (l.map Value.bool).toArray
def row (l : List UInt8) : Array Value := (l.map fun b => Value.int .u8 (b.toNat : Int)).toArray

theorem ws_size (l : List (BitVec 32)) : (ws l).size = l.length := by simp [ws]
theorem us_size (l : List Nat) : (us l).size = l.length := by simp [us]
theorem bls_size (l : List Bool) : (bls l).size = l.length := by simp [bls]
theorem row_size (l : List UInt8) : (row l).size = l.length := by simp [row]
theorem ws_at (l : List (BitVec 32)) (j : Nat) (h : j < l.length) : (ws l)[j]? = some (.int .u32 (V (l.getD j 0#32))) := by
  unfold ws; simp [h]
theorem us_at (l : List Nat) (j : Nat) (h : j < l.length) : (us l)[j]? = some (.int .u64 ((l.getD j 0 : Nat) : Int)) := by
  unfold us; simp [h]
theorem bls_at (l : List Bool) (j : Nat) (h : j < l.length) : (bls l)[j]? = some (.bool (l.getD j false)) := by
  unfold bls; simp [h]
theorem row_at (l : List UInt8) (j : Nat) (h : j < l.length) : (row l)[j]? = some (.int .u8 ((l.getD j 0).toNat : Int)) := by
  unfold row; simp [h]
theorem ws_set (l : List (BitVec 32)) (k : Nat) (c : BitVec 32) : (ws l).setIfInBounds k (.int .u32 (V c)) = ws (l.set k c) := by
  unfold ws; simp [List.map_set]
theorem us_set (l : List Nat) (k n : Nat) : (us l).setIfInBounds k (.int .u64 (n : Int)) = us (l.set k n) := by
  unfold us; simp [List.map_set]
theorem bls_set (l : List Bool) (k : Nat) (b : Bool) : (bls l).setIfInBounds k (.bool b) = bls (l.set k b) := by
  unfold bls; simp [List.map_set]
theorem row_set (l : List UInt8) (k : Nat) (b : UInt8) : (row l).setIfInBounds k (.int .u8 (b.toNat : Int)) = row (l.set k b) := by
  unfold row; simp [List.map_set]

/-- A row, and what is not there yet. -/
def pz {α : Type} (z : α) (n : Nat) (l : List α) : List α := l ++ List.replicate (n - l.length) z
theorem pz_length {α : Type} (z : α) (n : Nat) (l : List α) (h : l.length ≤ n) : (pz z n l).length = n := by
  simp [pz]; omega
theorem pz_getD {α : Type} (z : α) (n : Nat) (l : List α) (i : Nat) : (pz z n l).getD i z = l.getD i z := by
  unfold pz
  rw [List.getD_eq_getElem?_getD, List.getD_eq_getElem?_getD]
  by_cases h : i < l.length
  · rw [List.getElem?_append_left h]
  · rw [List.getElem?_append_right (by omega), List.getElem?_eq_none (l := l) (by omega)]
    by_cases h2 : i - l.length < n - l.length
    · rw [List.getElem?_replicate, if_pos h2]; rfl
    · rw [List.getElem?_replicate, if_neg h2]
theorem pz_set {α : Type} (z : α) (n : Nat) (l : List α) (x : α) (h : l.length < n) : (pz z n l).set l.length x = pz z n (l ++ [x]) := by
  unfold pz
  rw [List.set_append_right _ _ (Nat.le_refl _), Nat.sub_self]
  obtain ⟨m, hm⟩ : ∃ m, n - l.length = m + 1 := ⟨n - l.length - 1, by omega⟩
  rw [hm, List.replicate_succ, List.set_cons_zero, show n - (l ++ [x]).length = m by simp; omega]
  simp
theorem pz_zero {α : Type} (z : α) (n : Nat) (l : List α) (h : l.length < n) : pz z n (l ++ [z]) = pz z n l := by
  unfold pz
  obtain ⟨m, hm⟩ : ∃ m, n - l.length = m + 1 := ⟨n - l.length - 1, by omega⟩
  rw [hm, List.replicate_succ, show n - (l ++ [z]).length = m by simp; omega]
  simp
theorem pz_full {α : Type} (z : α) (n : Nat) (l : List α) (h : l.length = n) : pz z n l = l := by
  unfold pz; rw [h]; simp
theorem take_snocD {α : Type} (z : α) (l : List α) (k : Nat) (h : k < l.length) : l.take (k + 1) = l.take k ++ [l.getD k z] := by
  rw [List.take_succ_eq_append_getElem h, List.getD_eq_getElem?_getD, List.getElem?_eq_getElem h]; rfl

end Go.Proofs.YtfilolmbppjbjaaGreat.sh

namespace Go.Proofs.YtfilolmbppjbjaaGreat.sh
open Go
variable {P : Program}

theorem wpList_load_row {ops : Array Oper} {rest : List Oper} {op : Oper} {a : Act} {w : World} {Q : Exit → Act → World → Prop} (hgd : op.guard = none) (ty : TypeId) (x : Operand) (ho : op.op = .load ty x)
    (b : Nat) (hx : a.eval x = .pointer (some ⟨b, 0, none⟩)) (t : TypeId) (c : Array Value) (d : TypeDesc) (hg : w.heap[b]? = some (.cells c t))
    (hu : P.underlying ty = some d) (hd : (match d with | .struct _ | .array _ _ => true | _ => false) = true) (hi : (P.info? ty).map (·.size) = some c.size)
    (h : wpList P ops Q rest (a.put op.dst (.agg c)) w) : wpList P ops Q (op :: rest) a w :=
  wpList_plain hgd fun _ hK => by
    unfold Oper.wp execOp
    simp only [ho, hx, Instr.loadAt, Instr.sureAddr, Sem.run_bind, Sem.run_pure, Result.andThen_ok, run_loadVar_row w b t ty c (0, 0) d hg hu hd hi]
    exact hK _ _ h

theorem wpList_store_row {ops : Array Oper} {rest : List Oper} {op : Oper} {a : Act} {w : World} {Q : Exit → Act → World → Prop} (hgd : op.guard = none) (ty : TypeId) (x y : Operand) (ho : op.op = .store ty x y)
    (b : Nat) (cells : Array Value) (hx : a.eval x = .pointer (some ⟨b, 0, none⟩)) (hy : a.eval y = .agg cells) (t : TypeId) (old : Array Value)
    (hg : w.heap[b]? = some (.cells old t)) (hi : (P.info? ty).map (·.size) = some cells.size) (hs : old.size = cells.size) (h1 : cells.all (·.oneCell') = true)
    (h : wpList P ops Q rest (a.put op.dst undef) (w.setRow b cells)) : wpList P ops Q (op :: rest) a w :=
  wpList_plain hgd fun _ hK => by
    unfold Oper.wp execOp
    simp only [ho, hx, hy, Instr.storeAt, Instr.sureAddr, Sem.run_bind, Sem.run_pure, Result.andThen_ok, run_storeVar_row w b t ty old cells hg hi hs h1]
    exact hK _ _ h

theorem results_row {fn : Func} {p : Tmp} {ty : TypeId} (h : fn.results = #[.cell p ty]) (tmps : Array Value) (b : Nat) (hp : tmps.getD p undef = .pointer (some ⟨b, 0, none⟩)) (w : World) (t : TypeId) (c : Array Value) (d : TypeDesc)
    (hg : w.heap[b]? = some (.cells c t)) (hu : P.underlying ty = some d) (hd : (match d with | .struct _ | .array _ _ => true | _ => false) = true) (hi : (P.info? ty).map (·.size) = some c.size) :
    (results fn tmps).run P w = .ok (.agg c) w := by
  have := run_loadVar_row (P := P) w b t ty c (0, 0) d hg hu hd hi
  simp only [results, h]
  have hp' : tmps[p]?.getD undef = .pointer (some ⟨b, 0, none⟩) := by simpa using hp
  simp [hp', this, asAddr]

/-- The end of a call whose one result is a whole array in a block. -/
theorem bodyPost_row {fn : Func} {R : Ending → World → Prop} {a : Act} {w : World} (p : Tmp) (ty : TypeId) (h : fn.results = #[.cell p ty]) (b : Nat) (hp : a.tmps.getD p undef = .pointer (some ⟨b, 0, none⟩)) (t : TypeId) (c : Array Value) (d : TypeDesc)
    (hg : w.heap[b]? = some (.cells c t)) (hu : P.underlying ty = some d) (hd : (match d with | .struct _ | .array _ _ => true | _ => false) = true) (hi : (P.info? ty).map (·.size) = some c.size)
    (hdf : a.defers = []) (hR : R (.returned (.agg c)) w) : bodyPost P fn R .ret a w :=
  bodyPost_ret (results_row h a.tmps b hp w t c d hg hu hd hi) hdf hR

/-- A cell of an array that is a value. -/
theorem run_index_row (t e : TypeId) (n : Nat) (cs : Array Value) (i : Nat) (v : Value) (hu : P.underlying t = some (.array n e)) (ha : ∀ w, (isAgg e).run P w = .ok false w) (hs : ∀ w, (sizeOf e).run P w = .ok 1 w)
    (hi : i < n) (hv : cs[i]? = some v) (w : World) : (Instr.index t (.agg cs) (.int .i64 (i : Int))).run P w = .ok v w := by
  unfold Instr.index
  simp only [Sem.run_bind, asIntOf, Sem.run_pure, Result.andThen_ok, run_underlying hu w]
  rw [if_pos ⟨by omega, by omega⟩]
  simp only [Sem.run_bind, hs, Result.andThen_ok, part, ha]
  simp [hv]

theorem heap_alloc_if (w : World) (o : Obj) (k : Nat) : (w.alloc o).heap[k]? = if k = w.heap.size then some o else w.heap[k]? := by
  show (w.heap.push o)[k]? = _
  rw [Array.getElem?_push]

end Go.Proofs.YtfilolmbppjbjaaGreat.sh

namespace Go.Proofs.YtfilolmbppjbjaaGreat.sh
open Go Go.RowKit
variable {P : Program}

/-- How many operations are still to be done. -/
def todo (ops : Array Oper) (listed : Array Bool) : Nat := (List.range ops.size).countP fun i => !listed.getD i true

theorem todo_less {ops : Array Oper} {listed : Array Bool} {i : Nat} (h : i ∈ Region.ready .any ops listed) : todo ops (listed.setIfInBounds i true) < todo ops listed := by
  obtain ⟨h1, o, ho, _⟩ := mem_ready.1 h
  have hlt : i < ops.size := (Array.getElem?_eq_some_iff.1 ho).1
  unfold todo
  have key : ∀ l : List Nat, i ∈ l → l.countP (fun j => !(listed.setIfInBounds i true).getD j true) < l.countP (fun j => !listed.getD j true) := by
    intro l
    induction l with
    | nil => intro h; cases h
    | cons x l ih =>
      intro hm
      have hle : ∀ m : List Nat, m.countP (fun j => !(listed.setIfInBounds i true).getD j true) ≤ m.countP (fun j => !listed.getD j true) := fun m => by
        apply List.countP_mono_left
        intro j _ hj
        by_cases e : i = j
        · subst e; rw [h1]; rfl
        · rw [getD_set_ne true e] at hj; exact hj
      rw [List.countP_cons, List.countP_cons]
      by_cases e : i = x
      · subst e
        have e1 : (listed.setIfInBounds i true).getD i true = true := by
          by_cases hb : i < listed.size
          · simp [hb]
          · simp [hb]
        have := hle l
        rw [e1, h1]
        simp only [Bool.not_true, Bool.not_false, if_true, if_false, Bool.false_eq_true]
        omega
      · rw [getD_set_ne true e]
        have := ih (by rcases List.mem_cons.1 hm with h | h; exact absurd h e; exact h)
        omega
  exact key _ (List.mem_range.2 hlt)

theorem wpAny_inv {ops : Array Oper} {Q : Exit → Act → World → Prop} (J : Array Bool → Act → World → Prop)
    (hstep : ∀ listed a w, J listed a w → ∀ i ∈ Region.ready .any ops listed, wpOp P ops Q i (J (listed.setIfInBounds i true)) a w)
    (hend : ∀ listed a w, J listed a w → Region.ready .any ops listed = [] → Q .normal a w) :
    ∀ fuel listed a w, todo ops listed ≤ fuel → J listed a w → wpAny P .any ops Q fuel listed a w := by
  intro fuel
  induction fuel with
  | zero =>
    intro listed a w hf hJ
    have hr : Region.ready .any ops listed = [] := by
      cases h : Region.ready .any ops listed with
      | nil => rfl
      | cons i l => have := todo_less (ops := ops) (listed := listed) (i := i) (by rw [h]; simp); omega
    exact ⟨hr, hend _ _ _ hJ hr⟩
  | succ fuel ih =>
    intro listed a w hf hJ
    refine ⟨hend _ _ _ hJ, fun i hi => wpOp_mono (fun a' w' h' => ih _ _ _ ?_ h') (hstep _ _ _ hJ i hi)⟩
    have := todo_less hi
    omega

def edgeB (ops : Array Oper) (i j : Nat) : Bool := match ops[i]? with
  | some o => o.after.any fun e => Region.binds .any e && e.on == j
  | none => false
theorem ready_edge {ops : Array Oper} {listed : Array Bool} {i j : Nat} (h : i ∈ Region.ready .any ops listed) (he : edgeB ops i j = true) : listed.getD j false = true := by
  obtain ⟨_, o, ho, hall⟩ := mem_ready.1 h
  unfold edgeB at he
  rw [ho] at he
  obtain ⟨e, hm, hb⟩ := Array.any_eq_true'.1 he
  simp only [Bool.and_eq_true, beq_iff_eq] at hb
  rw [← hb.2]
  exact hall e hm hb.1
theorem ready_not {ops : Array Oper} {listed : Array Bool} {i : Nat} (h : i ∈ Region.ready .any ops listed) : listed.getD i true = false := (mem_ready.1 h).1
theorem ready_lt {ops : Array Oper} {listed : Array Bool} {i : Nat} (h : i ∈ Region.ready .any ops listed) : i < ops.size := by
  obtain ⟨_, o, ho, _⟩ := mem_ready.1 h
  exact (Array.getElem?_eq_some_iff.1 ho).1

theorem wpOp_plain {ops : Array Oper} {Q : Exit → Act → World → Prop} {i : Nat} {o : Oper} {K : Act → World → Prop} {a : Act} {w : World} (ho : ops[i]? = some o) (hg : o.guard = none) (h : Oper.wp P o a w K Q) : wpOp P ops Q i K a w :=
  wpOp_step ho fun K' hK => by
    rw [if_pos (by simp [Region.wanted, hg])]
    exact Oper.wp_mono hK h

theorem wp_load_row {op : Oper} {a : Act} {w : World} {K : Act → World → Prop} {Q : Exit → Act → World → Prop} (ty : TypeId) (x : Operand) (ho : op.op = .load ty x)
    (b : Nat) (hx : a.eval x = .pointer (some ⟨b, 0, none⟩)) (t : TypeId) (c : Array Value) (d : TypeDesc) (hg : w.heap[b]? = some (.cells c t))
    (hu : P.underlying ty = some d) (hd : (match d with | .struct _ | .array _ _ => true | _ => false) = true) (hi : (P.info? ty).map (·.size) = some c.size)
    (h : K (a.put op.dst (.agg c)) w) : op.wp P a w K Q := by
  unfold Oper.wp execOp
  simp only [ho, hx, Instr.loadAt, Instr.sureAddr, Sem.run_bind, Sem.run_pure, Result.andThen_ok, run_loadVar_row w b t ty c (0, 0) d hg hu hd hi]
  exact h
theorem wp_store_row {op : Oper} {a : Act} {w : World} {K : Act → World → Prop} {Q : Exit → Act → World → Prop} (ty : TypeId) (x y : Operand) (ho : op.op = .store ty x y)
    (b : Nat) (cells : Array Value) (hx : a.eval x = .pointer (some ⟨b, 0, none⟩)) (hy : a.eval y = .agg cells) (t : TypeId) (old : Array Value)
    (hg : w.heap[b]? = some (.cells old t)) (hi : (P.info? ty).map (·.size) = some cells.size) (hs : old.size = cells.size) (h1 : cells.all (·.oneCell') = true)
    (h : K (a.put op.dst undef) (w.setRow b cells)) : op.wp P a w K Q := by
  unfold Oper.wp execOp
  simp only [ho, hx, hy, Instr.storeAt, Instr.sureAddr, Sem.run_bind, Sem.run_pure, Result.andThen_ok, run_storeVar_row w b t ty old cells hg hi hs h1]
  exact h
theorem wp_alloc_row {op : Oper} {a : Act} {w : World} {K : Act → World → Prop} {Q : Exit → Act → World → Prop} (ty : TypeId) (ho : op.op = .alloc ty) (c : Array Value) (hz : (zeroValue ty).run P w = .ok (.agg c) w)
    (h : K (a.put op.dst (.pointer (some ⟨w.heap.size, 0, none⟩))) (w.alloc (.cells c ty))) : op.wp P a w K Q := by
  unfold Oper.wp execOp
  simp [ho, Instr.alloc, Sem.run_bind, hz, newVar, newRow, Value.cells, go_sem]
  exact h
theorem wp_call_fn {op : Oper} {a : Act} {w : World} {K : Act → World → Prop} {Q : Exit → Act → World → Prop} (f : FuncId) (x : Tmp) (t : TypeId) (ho : op.op = .call { callee := .value (.func f), args := #[.tmp x], argTypes := #[t] })
    (he : ∀ args w, (callFunc f args).run P w = .ok (.enter f args) w) (v : Value) (hx : a.eval (.tmp x) = v)
    (h : Calls P f #[v] w fun e w' => ∃ r, e = .returned r ∧ K (a.put op.dst r) w') : op.wp P a w K Q := by
  have hx' : a.tmps[x]?.getD undef = v := by simpa [Act.eval] using hx
  unfold Oper.wp execOp
  simp [ho, resolve, invoke, he, hx', go_sem]
  refine h.mono ?_
  rintro e w' ⟨r, rfl, hk⟩
  exact hk

/-- Nothing but these is waited for. -/
def onlyB (ops : Array Oper) (i : Nat) (js : List Nat) : Bool := match ops[i]? with
  | some o => o.after.all fun e => !Region.binds .any e || js.contains e.on
  | none => false
theorem done_of {ops : Array Oper} {listed : Array Bool} (hr : Region.ready .any ops listed = []) (i : Nat) (js : List Nat) (ho : onlyB ops i js = true) (hj : ∀ j ∈ js, listed.getD j false = true) : listed.getD i true = true := by
  cases h : listed.getD i true with
  | true => rfl
  | false =>
    have : i ∈ Region.ready .any ops listed := by
      refine mem_ready.2 ⟨h, ?_⟩
      unfold onlyB at ho
      cases hoi : ops[i]? with
      | none => rw [hoi] at ho; cases ho
      | some o =>
        rw [hoi] at ho
        refine ⟨o, rfl, fun e he hb => ?_⟩
        have := Array.all_eq_true_iff_forall_mem.1 ho e he
        rw [hb] at this
        exact hj _ (by simpa using this)
    rw [hr] at this
    cases this

/-- Two calls, each of an array that is loaded from one block, and their results laid into two new blocks: what holds at each step. -/
structure Two (w : World) (z b3 : Nat) (A R1 R2 Z1 Z2 D : Array Value) (tA t1 t2 tD : TypeId) (l0 l1 l2 l3 l4 l5 l6 l7 : Bool) (x4 x5 x10 x11 x12 x13 : Value) (b4 b5 : Nat) (v : World) : Prop where
  bel : Below z w v
  src : v.heap[b3]? = some (.cells A tA)
  res : v.heap[z]? = some (.cells D tD)
  e0 : l0 = true → x10 = .agg A
  e1 : l1 = true → x11 = .agg R1
  e2 : l2 = true → x12 = .agg A
  e3 : l3 = true → x13 = .agg R2
  e4 : l4 = true → x4 = .pointer (some ⟨b4, 0, none⟩) ∧ v.heap[b4]? = some (.cells (if l6 then R1 else Z1) t1) ∧ b3 < b4
  e5 : l5 = true → x5 = .pointer (some ⟨b5, 0, none⟩) ∧ v.heap[b5]? = some (.cells (if l7 then R2 else Z2) t2) ∧ b3 < b5
  ne : l4 = true → l5 = true → b4 ≠ b5
  c6 : l6 = true → l4 = true
  c7 : l7 = true → l5 = true
theorem lt_of_some {v : World} {b : Nat} {o : Obj} (h : v.heap[b]? = some o) : b < v.heap.size := (Array.getElem?_eq_some_iff.1 h).1
theorem Two.past {w : World} {z b3 : Nat} {A R1 R2 Z1 Z2 D : Array Value} {tA t1 t2 tD : TypeId} {l0 l1 l2 l3 l4 l5 l6 l7 : Bool} {x4 x5 x10 x11 x12 x13 : Value} {b4 b5 : Nat} {v v' : World}
    (T : Two w z b3 A R1 R2 Z1 Z2 D tA t1 t2 tD l0 l1 l2 l3 l4 l5 l6 l7 x4 x5 x10 x11 x12 x13 b4 b5 v) (hb : Below v.heap.size v v') :
    Two w z b3 A R1 R2 Z1 Z2 D tA t1 t2 tD l0 l1 l2 l3 l4 l5 l6 l7 x4 x5 x10 x11 x12 x13 b4 b5 v' where
  bel := T.bel.trans (hb.mono (Nat.le_of_lt (lt_of_some T.res)))
  src := (hb.block _ (lt_of_some T.src)).trans T.src
  res := (hb.block _ (lt_of_some T.res)).trans T.res
  e0 := T.e0
  e1 := T.e1
  e2 := T.e2
  e3 := T.e3
  e4 := fun h => ⟨(T.e4 h).1, (hb.block _ (lt_of_some (T.e4 h).2.1)).trans (T.e4 h).2.1, (T.e4 h).2.2⟩
  e5 := fun h => ⟨(T.e5 h).1, (hb.block _ (lt_of_some (T.e5 h).2.1)).trans (T.e5 h).2.1, (T.e5 h).2.2⟩
  ne := T.ne
  c6 := T.c6
  c7 := T.c7
end Go.Proofs.YtfilolmbppjbjaaGreat.sh

namespace Go.Proofs.YtfilolmbppjbjaaGreat.sh
open Go.RowKit

theorem wrap_neg (n : Nat) (h0 : 0 < n) (h1 : n < 32) : IntKind.u64.wrap (-(n : Int)) = ((18446744073709551616 - n : Nat) : Int) := by
  rw [IntKind.wrap_u64]; omega
theorem neg_and (n m : Nat) (h : m + n = 32) (h0 : 0 < n) (hm : 0 < m) : bits .and .u64 (IntKind.u64.wrap (-(n : Int))) 31 = (m : Int) := by
  rw [wrap_neg n h0 (by omega)]
  have := u64_and_nat (18446744073709551616 - n) 31 (by omega) (by decide)
  have e : (18446744073709551616 - n) &&& 31 = m := by
    rw [show (31 : Nat) = 2 ^ 5 - 1 by decide, Nat.and_two_pow_sub_one_eq_mod]; omega
  rw [e] at this
  exact this

theorem shlV (a : BitVec 32) (n : Nat) : V a * 2 ^ n % (4294967296 : Int) = V (a <<< n) := by
  unfold V; rw [BitVec.toNat_shiftLeft, Nat.shiftLeft_eq]
  rw [Int.natCast_emod, Int.natCast_mul, Int.natCast_pow]; rfl
theorem shrV' (a : BitVec 32) (n : Nat) : V a / 2 ^ n = V (a >>> n) := by
  have := shrV a n
  rw [Int.natCast_pow] at this
  exact this

set_option maxHeartbeats 400000 in
theorem rotl_any (x : BitVec 32) (n m : Nat) (h : m + n = 32) (h0 : 0 < n) (hm : 0 < m) (w : World) :
    Calls Tryz.prog 70 #[.int .u32 (V x), .int .i64 (-(n : Int))] w fun e w' => e = .returned (.int .u32 (V (rot x n))) ∧ w = w' := by
  have hb := neg_and n m h h0 hm
  go_enter Tryz.func70, Tryz.ntmps70
  go_wp2
  go_ret
  refine ⟨ret_u32 ?_, rfl⟩
  rw [shlV, shrV', orV]
  unfold rot
  rw [show 32 - m = n by omega, show 32 - n = m by omega]

set_option maxHeartbeats 400000 in
theorem right_any (x : BitVec 32) (n : Nat) (h0 : 0 < n) (h1 : n < 32) (w : World) :
    Calls Tryz.prog 54 #[.int .u32 (V x), .int .i64 (n : Int)] w fun e w' => e = .returned (.int .u32 (V (rot x n))) ∧ w = w' := by
  go_enter Tryz.func54, Tryz.ntmps54
  go_wp2_with fail
  refine (rotl_any x n (32 - n) (by omega) h0 (by omega) _).mono ?_
  rintro e w' ⟨rfl, rfl⟩
  go_wp2_with fail
  go_ret
  exact ⟨rfl, rfl⟩

def difN (x y : Nat) : Nat := (x + 18446744073709551616 - y) % 18446744073709551616
def ltN (x y : Nat) : Nat := if x < y then 1 else 0

theorem sub64_run (x y : Nat) (w : World) : (callFunc 65 #[.int .u64 x, .int .u64 y, .int .u64 0]).run Tryz.prog w =
      .ok (.value (.tuple #[.int .u64 (difN x y : Int), .int .u64 (ltN x y : Int)])) w := by
  rw [run_callFunc_extern Tryz.func65 (by kernel_rfl) (by kernel_rfl) (by kernel_rfl) (e := (fun args => do
      let (x, y, b) ← Extern.MathBitsCarry.three "Sub64" args
      pure (Extern.MathBitsCarry.pair ((x + Extern.MathBitsCarry.m64 - y - b) % Extern.MathBitsCarry.m64) (if x < y + b then 1 else 0)))) (by kernel_rfl)]
  rfl

/-- The two halves of a product. -/
def hiN (x y : Nat) : Nat := x * y / 18446744073709551616
def loN (x y : Nat) : Nat := x * y % 18446744073709551616
theorem loN_lt (x y : Nat) : loN x y < 18446744073709551616 := Nat.mod_lt _ (by decide)
theorem hiN_lt (x y : Nat) (hx : x < 18446744073709551616) (hy : y < 18446744073709551616) : hiN x y < 18446744073709551616 := by
  unfold hiN
  apply Nat.div_lt_of_lt_mul
  exact Nat.mul_lt_mul'' hx hy

theorem mul64_any (x y : Nat) (hx : x < 18446744073709551616) (hy : y < 18446744073709551616) (w : World) :
    Calls Tryz.prog 64 #[.int .u64 x, .int .u64 y] w fun e w' => e = .returned (.tuple #[.int .u64 (hiN x y : Int), .int .u64 (loN x y : Int)]) ∧ w = w' :=
  (Tryz.bits_Mul64 x y hx hy w).mono fun _ _ ⟨he, hw⟩ => ⟨he, hw.symm⟩

/-- Whether a square is below. -/
def sqB (r p : Nat) : Nat := ltN (hiN r r) p
/-- Whether a cube is. -/
def cuN (r : Nat) : Nat := (hiN r r * r % 18446744073709551616 + hiN (loN r r) r) % 18446744073709551616
def shN (p : Nat) : Nat := p * 4294967296 % 18446744073709551616
def cuB (r p : Nat) : Nat := ltN (cuN r) (shN p)

theorem cuN_eq (r : Nat) : IntKind.u64.wrap (IntKind.u64.wrap ((hiN r r : Int) * (r : Int)) + (hiN (loN r r) r : Int)) = (cuN r : Int) := by
  unfold cuN; rw [IntKind.wrap_u64, IntKind.wrap_u64, Int.natCast_emod, Int.natCast_add, Int.natCast_emod, Int.natCast_mul]; rfl
theorem shN_eq (p : Nat) : IntKind.u64.wrap ((p : Int) * 4294967296) = (shN p : Int) := by
  unfold shN; rw [IntKind.wrap_u64, Int.natCast_emod, Int.natCast_mul]; rfl

set_option maxHeartbeats 400000 in
theorem square_any (r p : Nat) (hr : r < 18446744073709551616) (w : World) :
    Calls Tryz.prog 50 #[.int .u64 (r : Int), .int .u64 (p : Int)] w fun e w' => e = .returned (.int .u64 (sqB r p : Int)) ∧ w = w' := by
  have hs := sub64_run (hiN r r) p
  go_enter Tryz.func50, Tryz.ntmps50
  go_wp2_with fail
  refine (mul64_any r r hr hr _).mono ?_
  rintro e w' ⟨rfl, rfl⟩
  go_wp2_with fail
  go_ret
  exact ⟨rfl, rfl⟩

set_option maxHeartbeats 400000 in
theorem cube_any (r p : Nat) (hr : r < 18446744073709551616) (w : World) :
    Calls Tryz.prog 51 #[.int .u64 (r : Int), .int .u64 (p : Int)] w fun e w' => e = .returned (.int .u64 (cuB r p : Int)) ∧ w = w' := by
  have hs := sub64_run (cuN r) (shN p)
  have h1 := cuN_eq r
  have h2 := shN_eq p
  go_enter Tryz.func51, Tryz.ntmps51
  go_wp2_with fail
  refine (mul64_any r r hr hr _).mono ?_
  rintro e w' ⟨rfl, rfl⟩
  go_wp2_with fail
  refine (mul64_any (loN r r) r (loN_lt _ _) hr _).mono ?_
  rintro e w' ⟨rfl, rfl⟩
  go_wp2_with fail
  go_ret
  exact ⟨rfl, rfl⟩

/-- The root, bit by bit. -/
def bpf (B : Nat → Nat → Nat) (p : Nat) : Nat → Nat
  | 0 => 0
  | k + 1 => bpf B p k ||| (B (bpf B p k ||| 1 <<< (34 - k)) p <<< (34 - k))

theorem bpf_lt (B : Nat → Nat → Nat) (hB : ∀ r p, B r p ≤ 1) (p k : Nat) (hk : k ≤ 35) : bpf B p k < 34359738368 := by
  induction k with
  | zero => show 0 < 34359738368; decide
  | succ k ih =>
    have h1 := ih (by omega)
    refine Nat.or_lt_two_pow (n := 35) h1 ?_
    rw [Nat.shiftLeft_eq]
    have := hB (bpf B p k ||| 1 <<< (34 - k)) p
    calc _ ≤ 1 * 2 ^ (34 - k) := Nat.mul_le_mul_right _ this
      _ ≤ 1 * 2 ^ 34 := Nat.mul_le_mul_left _ (Nat.pow_le_pow_right (by decide) (by omega))
      _ < 2 ^ 35 := by decide

theorem ltN_le (x y : Nat) : ltN x y ≤ 1 := by unfold ltN; split <;> omega
theorem two_pow_wrap (n : Nat) (h : n ≤ 34) : IntKind.u64.wrap ((2 : Int) ^ n) = ((1 <<< n : Nat) : Int) := by
  rw [IntKind.wrap_u64, Nat.shiftLeft_eq, Nat.one_mul]
  have : 2 ^ n ≤ 2 ^ 34 := Nat.pow_le_pow_right (by decide) h
  have e : ((2 : Int) ^ n) = ((2 ^ n : Nat) : Int) := by rw [Int.natCast_pow]; rfl
  rw [e]; generalize 2 ^ n = q at this ⊢; omega
theorem or_step (B : Nat → Nat → Nat) (hB : ∀ r p, B r p ≤ 1) (p k n : Nat) (hn : n + k = 34) :
    bits .or .u64 (bpf B p k : Int) (IntKind.u64.wrap ((2 : Int) ^ n)) = ((bpf B p k ||| 1 <<< n : Nat) : Int) := by
  have h1 := bpf_lt B hB p k (by omega)
  have : 2 ^ n ≤ 2 ^ 34 := Nat.pow_le_pow_right (by decide) (by omega)
  rw [two_pow_wrap n (by omega), u64_or_nat _ _ (by omega) (by rw [Nat.shiftLeft_eq]; omega)]
theorem or_step2 (B : Nat → Nat → Nat) (hB : ∀ r p, B r p ≤ 1) (p k n x : Nat) (hn : n + k = 34) (hx : (bpf B p k ||| 1 <<< n) = x) :
    bits .or .u64 (bpf B p k : Int) (IntKind.u64.wrap ((B x p : Int) * (2 : Int) ^ n)) = (bpf B p (k + 1) : Int) := by
  have h1 := bpf_lt B hB p k (by omega)
  have h2 : 2 ^ n ≤ 2 ^ 34 := Nat.pow_le_pow_right (by decide) (by omega)
  have h3 := hB x p
  have h4 : B x p * 2 ^ n ≤ 1 * 2 ^ n := Nat.mul_le_mul_right _ h3
  have e : IntKind.u64.wrap ((B x p : Int) * (2 : Int) ^ n) = ((B x p <<< n : Nat) : Int) := by
    rw [IntKind.wrap_u64, Nat.shiftLeft_eq]
    have e : ((B x p : Int) * (2 : Int) ^ n) = ((B x p * 2 ^ n : Nat) : Int) := by rw [Int.natCast_mul, Int.natCast_pow]; rfl
    rw [e]; omega
  rw [e, u64_or_nat _ _ (by omega) (by rw [Nat.shiftLeft_eq]; omega)]
  show _ = ((bpf B p k ||| (B (bpf B p k ||| 1 <<< (34 - k)) p <<< (34 - k)) : Nat) : Int)
  rw [show 34 - k = n by omega, hx]
theorem or_lt (B : Nat → Nat → Nat) (hB : ∀ r p, B r p ≤ 1) (p k n : Nat) (hn : n + k = 34) : (bpf B p k ||| 1 <<< n) < 18446744073709551616 := by
  have h1 := bpf_lt B hB p k (by omega)
  have : 2 ^ n ≤ 2 ^ 34 := Nat.pow_le_pow_right (by decide) (by omega)
  have := Nat.or_lt_two_pow (n := 64) (x := bpf B p k) (y := 1 <<< n) (by omega) (by rw [Nat.shiftLeft_eq]; omega)
  omega
theorem low32 (n : Nat) : ((n : Int)) % 4294967296 = V (BitVec.ofNat 32 n) := by
  unfold V; rw [BitVec.toNat_ofNat]; omega

set_option maxHeartbeats 400000 in
theorem behind_sq (p : Nat) (w : World) :
    Calls Tryz.prog 49 #[.int .u64 (p : Int), .func (.func 50) #[] #[]] w fun e w' => e = .returned (.int .u32 (V (BitVec.ofNat 32 (bpf sqB p 35)))) ∧ w = w' := by
  go_enter Tryz.func49, Tryz.ntmps49
  go_wp2_with fail
  go_loop [5, 6] (fun r i => ∃ k : Nat, k ≤ 35 ∧ i = .int .i64 (34 - (k : Int)) ∧ r = .int .u64 (bpf sqB p k : Int)) (fun _ i => (intOf i + 1).toNat)
  case atStart => exact ⟨0, by omega, rfl, rfl⟩
  case round =>
    obtain ⟨k, hk, rfl, rfl⟩ := hrel
    by_cases hlt : k ≤ 34
    · obtain ⟨n, hn⟩ : ∃ n, n + k = 34 := ⟨34 - k, by omega⟩
      have e : (34 : Int) - (k : Int) = (n : Int) := by omega
      have h1 := or_step sqB (fun _ _ => ltN_le _ _) p k n hn
      have hx := or_lt sqB (fun _ _ => ltN_le _ _) p k n hn
      obtain ⟨x, hX⟩ : ∃ x, (bpf sqB p k ||| 1 <<< n) = x := ⟨_, rfl⟩
      have h2 := or_step2 sqB (fun _ _ => ltN_le _ _) p k n x hn hX
      rw [hX] at h1 hx
      rw [e]
      have hn' : n ≤ 34 := by omega
      have hn2 : (n : Int) - 1 = 34 - ((k + 1 : Nat) : Int) := by omega
      have hn2' := Lib.hid hn2
      clear hX e hn2
      go_wp2_with fail
      refine (square_any x p hx _).mono ?_
      rintro e w' ⟨rfl, rfl⟩
      go_wp2_with fail
      go_round
      case rel => exact ⟨k + 1, by omega, by rw [hn2'.out], rfl⟩
      case measure => simp [intOf]
    · obtain rfl : k = 35 := by omega
      have hl := low32 (bpf sqB p 35)
      go_wp2_with fail
      go_ret
      exact ⟨rfl, rfl⟩

set_option maxHeartbeats 400000 in
theorem behind_cu (p : Nat) (w : World) :
    Calls Tryz.prog 49 #[.int .u64 (p : Int), .func (.func 51) #[] #[]] w fun e w' => e = .returned (.int .u32 (V (BitVec.ofNat 32 (bpf cuB p 35)))) ∧ w = w' := by
  go_enter Tryz.func49, Tryz.ntmps49
  go_wp2_with fail
  go_loop [5, 6] (fun r i => ∃ k : Nat, k ≤ 35 ∧ i = .int .i64 (34 - (k : Int)) ∧ r = .int .u64 (bpf cuB p k : Int)) (fun _ i => (intOf i + 1).toNat)
  case atStart => exact ⟨0, by omega, rfl, rfl⟩
  case round =>
    obtain ⟨k, hk, rfl, rfl⟩ := hrel
    by_cases hlt : k ≤ 34
    · obtain ⟨n, hn⟩ : ∃ n, n + k = 34 := ⟨34 - k, by omega⟩
      have e : (34 : Int) - (k : Int) = (n : Int) := by omega
      have h1 := or_step cuB (fun _ _ => ltN_le _ _) p k n hn
      have hx := or_lt cuB (fun _ _ => ltN_le _ _) p k n hn
      obtain ⟨x, hX⟩ : ∃ x, (bpf cuB p k ||| 1 <<< n) = x := ⟨_, rfl⟩
      have h2 := or_step2 cuB (fun _ _ => ltN_le _ _) p k n x hn hX
      rw [hX] at h1 hx
      rw [e]
      have hn' : n ≤ 34 := by omega
      have hn2 : (n : Int) - 1 = 34 - ((k + 1 : Nat) : Int) := by omega
      have hn2' := Lib.hid hn2
      clear hX e hn2
      go_wp2_with fail
      refine (cube_any x p hx _).mono ?_
      rintro e w' ⟨rfl, rfl⟩
      go_wp2_with fail
      go_round
      case rel => exact ⟨k + 1, by omega, by rw [hn2'.out], rfl⟩
      case measure => simp [intOf]
    · obtain rfl : k = 35 := by omega
      have hl := low32 (bpf cuB p 35)
      go_wp2_with fail
      go_ret
      exact ⟨rfl, rfl⟩

end Go.Proofs.YtfilolmbppjbjaaGreat.sh

namespace Go.Proofs.YtfilolmbppjbjaaGreat.sh
open Go.RowKit

def PR : List Nat := [2, 3, 5, 7, 11, 13, 17, 19, 23, 29, 31, 37, 41, 43, 47, 53, 59, 61, 67, 71, 73, 79, 83, 89, 97, 101, 103, 107, 109, 113, 127, 131, 137, 139, 149, 151, 157, 163, 167, 173, 179, 181, 191, 193, 197, 199, 211, 223, 227, 229, 233, 239, 241, 251, 257, 263, 269, 271, 277, 281, 283, 293, 307, 311]

theorem start_vals : ∀ i : Fin 8, BitVec.ofNat 32 (bpf sqB (PR.getD i.val 0) 35) = H0.toL.getD i.val 0#32 := by decide +kernel
theorem keys_vals : ∀ i : Fin 64, BitVec.ofNat 32 (bpf cuB (PR.getD i.val 0) 35) = K0.getD i.val 0#32 := by decide +kernel

def hcells (k : Nat) : Array Value := ws (pz 0#32 8 (H0.toL.take k))
theorem hcells_zero : hcells 0 = #[.int .u32 0, .int .u32 0, .int .u32 0, .int .u32 0, .int .u32 0, .int .u32 0, .int .u32 0, .int .u32 0] := rfl
theorem hcells_size (k : Nat) : (hcells k).size = 8 := by
  unfold hcells; rw [ws_size, pz_length]; simp [St.toL]; omega
theorem hcells_set (k : Nat) (h : k < 8) : (hcells k).setIfInBounds k (.int .u32 (V (BitVec.ofNat 32 (bpf sqB (PR[k]?.getD 0) 35)))) = hcells (k + 1) := by
  unfold hcells
  have e := start_vals ⟨k, h⟩
  simp only at e
  rw [← List.getD_eq_getElem?_getD, e, ws_set, take_snocD 0#32 _ _ (by simpa [St.toL] using h)]
  have hl : (H0.toL.take k).length = k := by simp [St.toL]; omega
  have := pz_set 0#32 8 (H0.toL.take k) (H0.toL.getD k 0#32) (by omega)
  rw [hl] at this
  rw [this]

theorem hcells_at (k j : Nat) (h : j < 8) : (hcells k)[j]? = some (.int .u32 (V ((H0.toL.take k).getD j 0#32))) := by
  unfold hcells
  rw [ws_at _ _ (by rw [pz_length]; exact h; simp [St.toL]; omega), pz_getD]
theorem pr_at (j : Nat) (h : j < 64) : (us PR)[j]? = some (.int .u64 ((PR.getD j 0 : Nat) : Int)) := us_at _ _ h
theorem pr_size : (us PR).size = 64 := rfl

set_option maxHeartbeats 400000 in
theorem start_any (w : World) :
    Calls Tryz.prog 28 #[.agg (us PR)] w fun e w' => e = .returned (.agg (ws H0.toL)) ∧ Below w.heap.size w w' := by
  go_enter Tryz.func28, Tryz.ntmps28
  go_wp2_with fail
  rw [← hcells_zero]
  go_loopw [5] (fun i wr => ∃ k : Nat, k ≤ 8 ∧ i = .int .i64 k ∧ wr = ((w.alloc (.cells (us PR) 51)).alloc (.cells (hcells 0) 54)).alloc (.cells (hcells k) 54)) (fun i _ => 8 - (intOf i).toNat)
  case atStart => exact ⟨0, by omega, rfl, rfl⟩
  case round =>
    obtain ⟨k, hk, rfl, rfl⟩ := hrel
    by_cases hlt : k < 8
    · have hb : (k : Int) < 8 := by omega
      have hb2 : (k : Int) < 64 := by omega
      have h1 := pr_at k (by omega)
      have h2 := hcells_at k k hlt
      have h3 := Lib.hid (hcells_set k hlt)
      go_wp2_with fail
      refine (behind_sq _ _).mono ?_
      rintro e w' ⟨rfl, rfl⟩
      go_wp2_with fail
      go_roundw
      case rel => exact ⟨k + 1, by omega, by go_num, by rw [← h3.out]⟩
      case measure => simp [intOf]; omega
    · obtain rfl : k = 8 := by omega
      have hB1 : (((w.alloc (.cells (us PR) 51)).alloc (.cells (hcells 0) 54)).alloc (.cells (hcells 8) 54)).heap[w.heap.size + 1]? = some (.cells (hcells 0) 54) := by rw [heap_alloc_if, if_neg (by simp), heap_alloc_if, if_pos (by simp)]
      have hB2 : (((w.alloc (.cells (us PR) 51)).alloc (.cells (hcells 0) 54)).alloc (.cells (hcells 8) 54)).heap[w.heap.size + 1 + 1]? = some (.cells (hcells 8) 54) := by rw [heap_alloc_if, if_pos (by simp)]
      go_wp2_with (first
        | (with_reducible refine wpList_load_row rfl 54 (.tmp 3) rfl _ rfl 54 (hcells 8) _ hB2 Tryz.underlying54 rfl (by kernel_rfl) ?_)
        | (with_reducible refine wpList_store_row rfl 54 (.tmp 2) (.tmp 15) rfl _ (hcells 8) rfl rfl 54 (hcells 0) hB1 (by kernel_rfl) (by kernel_rfl) (by kernel_rfl) ?_))
      exact bodyPost_row 2 54 rfl _ rfl 54 (hcells 8) _ (setRow_heap _ _ _ _ _ _ hB1) Tryz.underlying54 rfl (by kernel_rfl) rfl ⟨rfl, below_setRow (by go_grown) (by simp) _⟩

def kcells (k : Nat) : Array Value := ws (pz 0#32 64 (K0.take k))
theorem kcells_zero : kcells 0 = #[.int .u32 0, .int .u32 0, .int .u32 0, .int .u32 0, .int .u32 0, .int .u32 0, .int .u32 0, .int .u32 0, .int .u32 0, .int .u32 0, .int .u32 0, .int .u32 0, .int .u32 0, .int .u32 0, .int .u32 0, .int .u32 0, .int .u32 0, .int .u32 0, .int .u32 0, .int .u32 0, .int .u32 0, .int .u32 0, .int .u32 0, .int .u32 0, .int .u32 0, .int .u32 0, .int .u32 0, .int .u32 0, .int .u32 0, .int .u32 0, .int .u32 0, .int .u32 0, .int .u32 0, .int .u32 0, .int .u32 0, .int .u32 0, .int .u32 0, .int .u32 0, .int .u32 0, .int .u32 0, .int .u32 0, .int .u32 0, .int .u32 0, .int .u32 0, .int .u32 0, .int .u32 0, .int .u32 0, .int .u32 0, .int .u32 0, .int .u32 0, .int .u32 0, .int .u32 0, .int .u32 0, .int .u32 0, .int .u32 0, .int .u32 0, .int .u32 0, .int .u32 0, .int .u32 0, .int .u32 0, .int .u32 0, .int .u32 0, .int .u32 0, .int .u32 0] := rfl
theorem K0_len : K0.length = 64 := rfl
theorem kcells_at (k j : Nat) (h : j < 64) : (kcells k)[j]? = some (.int .u32 (V ((K0.take k).getD j 0#32))) := by
  unfold kcells
  rw [ws_at _ _ (by rw [pz_length]; exact h; rw [List.length_take, K0_len]; omega), pz_getD]
theorem kcells_set (k : Nat) (h : k < 64) : (kcells k).setIfInBounds k (.int .u32 (V (BitVec.ofNat 32 (bpf cuB (PR.getD k 0) 35)))) = kcells (k + 1) := by
  unfold kcells
  have e := keys_vals ⟨k, h⟩
  simp only at e
  rw [e, ws_set, take_snocD 0#32 _ _ (by rw [K0_len]; exact h)]
  have hl : (K0.take k).length = k := by rw [List.length_take, K0_len]; omega
  have := pz_set 0#32 64 (K0.take k) (K0.getD k 0#32) (by omega)
  rw [hl] at this
  rw [this]
/-- The k-th prime, under a name. -/
def prm (k : Nat) : Nat := PR.getD k 0
theorem prm_at (j : Nat) (h : j < 64) : (us PR)[j]? = some (.int .u64 (prm j : Int)) := us_at _ _ h

set_option maxHeartbeats 400000 in
set_option maxRecDepth 100000 in
theorem keys_any (w : World) :
    Calls Tryz.prog 29 #[.agg (us PR)] w fun e w' => e = .returned (.agg (ws K0)) ∧ Below w.heap.size w w' := by
  go_enter Tryz.func29, Tryz.ntmps29
  go_wp2_with (with_reducible refine wpList_load_row rfl 51 (.tmp 1) rfl _ rfl 51 (us PR) _ ?hB Tryz.underlying51 rfl (by kernel_rfl) ?_)
  case hB => rw [heap_alloc_if, if_neg (by simp; omega), heap_alloc_if, if_neg (by simp), heap_alloc_if, if_pos rfl]
  rw [← kcells_zero]
  go_loopw [7] (fun i wr => ∃ k : Nat, k ≤ 64 ∧ i = .int .i64 k ∧ wr = ((w.alloc (.cells (us PR) 51)).alloc (.cells (kcells 0) 56)).alloc (.cells (kcells k) 56)) (fun i _ => 64 - (intOf i).toNat)
  case atStart => exact ⟨0, by omega, rfl, rfl⟩
  case round =>
    obtain ⟨k, hk, rfl, rfl⟩ := hrel
    by_cases hlt : k < 64
    · have hb : (k : Int) < 64 := by omega
      have h1 := fun v => run_index_row (P := Tryz.prog) 51 50 64 (us PR) k _ Tryz.underlying51 Tryz.isAgg50 Tryz.sizeOf50 hlt (prm_at k hlt) v
      have h2 := kcells_at k k hlt
      have h3 := Lib.hid (kcells_set k hlt)
      go_wp2_with fail
      refine (behind_cu _ _).mono ?_
      rintro e w' ⟨rfl, rfl⟩
      go_wp2_with fail
      go_roundw
      case rel => exact ⟨k + 1, by omega, by go_num, by rw [← h3.out]; rfl⟩
      case measure => simp [intOf]; omega
    · obtain rfl : k = 64 := by omega
      have hB1 : (((w.alloc (.cells (us PR) 51)).alloc (.cells (kcells 0) 56)).alloc (.cells (kcells 64) 56)).heap[w.heap.size + 1]? = some (.cells (kcells 0) 56) := by rw [heap_alloc_if, if_neg (by simp), heap_alloc_if, if_pos (by simp)]
      have hB2 : (((w.alloc (.cells (us PR) 51)).alloc (.cells (kcells 0) 56)).alloc (.cells (kcells 64) 56)).heap[w.heap.size + 1 + 1]? = some (.cells (kcells 64) 56) := by rw [heap_alloc_if, if_pos (by simp)]
      go_wp2_with (first
        | (with_reducible refine wpList_load_row rfl 56 (.tmp 3) rfl _ rfl 56 (kcells 64) _ hB2 Tryz.underlying56 rfl (by kernel_rfl) ?_)
        | (with_reducible refine wpList_store_row rfl 56 (.tmp 2) (.tmp 16) rfl _ (kcells 64) rfl rfl 56 (kcells 0) hB1 (by kernel_rfl) (by kernel_rfl) (by kernel_rfl) ?_))
      exact bodyPost_row 2 56 rfl _ rfl 56 (kcells 64) _ (setRow_heap _ _ _ _ _ _ hB1) Tryz.underlying56 rfl (by kernel_rfl) rfl ⟨rfl, below_setRow (by go_grown) (by simp) _⟩

end Go.Proofs.YtfilolmbppjbjaaGreat.sh

namespace Go.Proofs.YtfilolmbppjbjaaGreat.sh
open Go.RowKit

/-- So many multiples of p, from its square on, are struck. -/
def mks (p : Nat) (D : List Bool) : Nat → List Bool
  | 0 => D
  | j + 1 => (mks p D j).set (p * p + j * p) true
theorem mks_length (p : Nat) (D : List Bool) (j : Nat) : (mks p D j).length = D.length := by
  induction j with
  | zero => rfl
  | succ j ih => simp [mks, ih]
/-- How many there are. -/
def cnt (p : Nat) : Nat := if p * p ≤ 311 then (311 - p * p) / p + 1 else 0
def D0 : List Bool := List.replicate 312 false
/-- What has been found, and what is struck, behind so many numbers from 2 on. -/
def sv : Nat → List Nat × List Bool
  | 0 => ([], D0)
  | i + 1 => if (sv i).2.getD (i + 2) false then sv i else ((sv i).1 ++ [i + 2], mks (i + 2) (sv i).2 (cnt (i + 2)))
theorem sv_len (i : Nat) : (sv i).2.length = 312 := by
  induction i with
  | zero => exact List.length_replicate
  | succ i ih => unfold sv; split <;> simp [ih, mks_length]
theorem sv_mono (i k : Nat) : (sv i).1.length ≤ (sv (i + k)).1.length := by
  induction k with
  | zero => exact Nat.le_refl _
  | succ k ih =>
    refine Nat.le_trans ih ?_
    show _ ≤ (sv ((i + k) + 1)).1.length
    rw [show sv ((i + k) + 1) = if (sv (i + k)).2.getD (i + k + 2) false then sv (i + k) else ((sv (i + k)).1 ++ [i + k + 2], mks (i + k + 2) (sv (i + k)).2 (cnt (i + k + 2))) from rfl]
    split <;> simp
set_option maxRecDepth 100000 in
theorem sv_all : (sv 310).1 = PR := by decide +kernel
theorem sv_room (i : Nat) (hi : i < 310) (h : (sv i).2.getD (i + 2) false = false) : (sv i).1.length < 64 := by
  have h1 := sv_mono (i + 1) (310 - (i + 1))
  rw [show i + 1 + (310 - (i + 1)) = 310 by omega, sv_all] at h1
  have h2 : PR.length = 64 := rfl
  have h3 : (sv (i + 1)).1.length = (sv i).1.length + 1 := by
    rw [show sv (i + 1) = if (sv i).2.getD (i + 2) false then sv i else ((sv i).1 ++ [i + 2], mks (i + 2) (sv i).2 (cnt (i + 2))) from rfl, h]
    simp
  omega
theorem sv_room' (i : Nat) (hi : i ≤ 310) : (sv i).1.length ≤ 64 := by
  have h1 := sv_mono i (310 - i)
  rw [show i + (310 - i) = 310 by omega, sv_all] at h1
  exact h1

def fcells (l : List Nat) : Array Value := us (pz 0 64 l)
theorem fcells_zero : fcells [] = #[.int .u64 0, .int .u64 0, .int .u64 0, .int .u64 0, .int .u64 0, .int .u64 0, .int .u64 0, .int .u64 0, .int .u64 0, .int .u64 0, .int .u64 0, .int .u64 0, .int .u64 0, .int .u64 0, .int .u64 0, .int .u64 0, .int .u64 0, .int .u64 0, .int .u64 0, .int .u64 0, .int .u64 0, .int .u64 0, .int .u64 0, .int .u64 0, .int .u64 0, .int .u64 0, .int .u64 0, .int .u64 0, .int .u64 0, .int .u64 0, .int .u64 0, .int .u64 0, .int .u64 0, .int .u64 0, .int .u64 0, .int .u64 0, .int .u64 0, .int .u64 0, .int .u64 0, .int .u64 0, .int .u64 0, .int .u64 0, .int .u64 0, .int .u64 0, .int .u64 0, .int .u64 0, .int .u64 0, .int .u64 0, .int .u64 0, .int .u64 0, .int .u64 0, .int .u64 0, .int .u64 0, .int .u64 0, .int .u64 0, .int .u64 0, .int .u64 0, .int .u64 0, .int .u64 0, .int .u64 0, .int .u64 0, .int .u64 0, .int .u64 0, .int .u64 0] := rfl
def dcells (l : List Bool) : Array Value := bls l
set_option maxRecDepth 100000 in
theorem zero55 : (Tryz.prog.info? 86).map (fun i => (i.zero, i.size)) = some (some (.agg (dcells D0)), 312) := by kernel_rfl

theorem fcells_at (l : List Nat) (h : l.length ≤ 64) (j : Nat) (hj : j < 64) : (fcells l)[j]? = some (.int .u64 ((l.getD j 0 : Nat) : Int)) := by
  unfold fcells
  rw [us_at _ _ (by rw [pz_length _ _ _ h]; exact hj), pz_getD]
theorem fcells_set (l : List Nat) (h : l.length < 64) (x : Nat) : (fcells l).setIfInBounds l.length (.int .u64 (x : Int)) = fcells (l ++ [x]) := by
  unfold fcells; rw [us_set, pz_set _ _ _ _ h]
theorem dcells_at (l : List Bool) (h : l.length = 312) (j : Nat) (hj : j < 312) : (dcells l)[j]? = some (.bool (l.getD j false)) := bls_at _ _ (by omega)
theorem dcells_set (l : List Bool) (j : Nat) (b : Bool) : (dcells l).setIfInBounds j (.bool b) = dcells (l.set j b) := bls_set _ _ _
theorem sv_yes (i : Nat) (h : (sv i).2.getD (i + 2) false = true) : sv (i + 1) = sv i := by
  rw [show sv (i + 1) = if (sv i).2.getD (i + 2) false then sv i else ((sv i).1 ++ [i + 2], mks (i + 2) (sv i).2 (cnt (i + 2))) from rfl, h]; rfl
theorem sv_no (i : Nat) (h : (sv i).2.getD (i + 2) false = false) : sv (i + 1) = ((sv i).1 ++ [i + 2], mks (i + 2) (sv i).2 (cnt (i + 2))) := by
  rw [show sv (i + 1) = if (sv i).2.getD (i + 2) false then sv i else ((sv i).1 ++ [i + 2], mks (i + 2) (sv i).2 (cnt (i + 2))) from rfl, h]; rfl

theorem sq_wrap (i : Nat) (h : i < 310) : wrap64 (((i : Int) + 2) * ((i : Int) + 2)) = (((i + 2) * (i + 2) : Nat) : Int) := by
  have h1 : (i + 2) * (i + 2) ≤ 311 * 311 := Nat.mul_le_mul (by omega) (by omega)
  have e : ((i : Int) + 2) * ((i : Int) + 2) = (((i + 2) * (i + 2) : Nat) : Int) := by rw [Int.natCast_mul]; rfl
  rw [e]
  unfold wrap64
  omega
theorem cnt_more (p j : Nat) (hp : 0 < p) (h : p * p + j * p ≤ 311) : j < cnt p := by
  unfold cnt
  rw [if_pos (by omega)]
  have : j ≤ (311 - p * p) / p := (Nat.le_div_iff_mul_le hp).2 (by omega)
  omega
theorem cnt_end (p j : Nat) (hp : 0 < p) (h : ¬ p * p + j * p ≤ 311) (hj : j ≤ cnt p) : j = cnt p := by
  unfold cnt at hj ⊢
  by_cases h1 : p * p ≤ 311
  · rw [if_pos h1] at hj ⊢
    have h2 : ¬ j ≤ (311 - p * p) / p := fun h3 => by
      have := (Nat.le_div_iff_mul_le hp).1 h3
      omega
    omega
  · rw [if_neg h1] at hj ⊢; omega

set_option maxHeartbeats 1000000 in
set_option maxRecDepth 100000 in
theorem primes_any (w : World) :
    Calls Tryz.prog 27 #[] w fun e w' => e = .returned (.agg (us PR)) ∧ Below w.heap.size w w' := by
  have hz := (zero_of_info zero55).1
  go_enter Tryz.func27, Tryz.ntmps27
  go_wp2_with fail
  rw [← fcells_zero]
  go_loopw [3, 4] (fun n p wr => ∃ i : Nat, i ≤ 310 ∧ p = .int .i64 ((i : Int) + 2) ∧ n = .int .i64 ((sv i).1.length : Int) ∧ wr = ((w.alloc (.cells (fcells []) 51)).alloc (.cells (fcells (sv i).1) 51)).alloc (.cells (dcells (sv i).2) 86)) (fun _ p _ => 312 - (intOf p).toNat)
  case atStart => exact ⟨0, by omega, rfl, rfl, rfl⟩
  case round =>
    obtain ⟨i, hi, rfl, rfl, rfl⟩ := hrel
    by_cases hlt : i < 310
    · have hb : (i : Int) + 2 ≤ 311 := by omega
      have hb2 : (i : Int) + 2 < 312 := by omega
      have hb3 : ((i : Int) + 2).toNat = i + 2 := by omega
      have h1 := dcells_at (sv i).2 (sv_len i) (i + 2) (by omega)
      cases hd : (sv i).2.getD (i + 2) false
      · rw [hd] at h1
        have hr := sv_room i hlt hd
        have hr' : ((sv i).1.length : Int) < 64 := by omega
        have h2 := fcells_at (sv i).1 (by omega) (sv i).1.length hr
        have hs := Lib.hid (sv_no i hd)
        have hf := Lib.hid (fcells_set (sv i).1 hr (i + 2))
        have hl := Lib.hid (sv_len i)
        have hq := sq_wrap i hlt
        have hq2 : (i + 2) * (i + 2) ≤ 96721 := Nat.mul_le_mul (show i + 2 ≤ 311 by omega) (show i + 2 ≤ 311 by omega)
        obtain ⟨q, hQ⟩ : ∃ q, (i + 2) * (i + 2) = q := ⟨_, rfl⟩
        rw [hQ] at hq hq2
        have hQ' := Lib.hid hQ
        clear hd hQ
        revert h1 h2 hs hf hl hr hr'
        generalize (sv i).1 = F
        generalize (sv i).2 = D
        intro h1 hr hr' h2 hs hf hl
        go_wp2_with fail
        have hc : (Value.int IntKind.u64 ((i : Int) + 2)) = .int .u64 ((i + 2 : Nat) : Int) := by go_num
        rw [hc, hf.out]
        have hqh := Lib.hid hq
        clear hc hq h1 h2
        go_loopw [5] (fun m wr => ∃ j mm : Nat, j ≤ cnt (i + 2) ∧ Hid (mm = q + j * (i + 2)) ∧ mm ≤ 96721 ∧ m = .int .i64 (mm : Int) ∧ wr = ((w.alloc (.cells (fcells []) 51)).alloc (.cells (fcells (F ++ [i + 2])) 51)).alloc (.cells (dcells (mks (i + 2) D j)) 86)) (fun m _ => 96721 - (intOf m).toNat)
        case atStart => exact ⟨0, q, by omega, by show _ = _; omega, by omega, by rw [hqh.out], rfl⟩
        case round =>
          obtain ⟨j, mm, hj, hm, hmm, rfl, rfl⟩ := hrel
          by_cases hle : mm ≤ 311
          · have hle' : (mm : Int) ≤ 311 := by omega
            have hle2 : (mm : Int) < 312 := by omega
            have hjl := cnt_more (i + 2) j (by omega) (by have := hm.out; have := hQ'.out; omega)
            have h1 := dcells_at (mks (i + 2) D j) (by rw [mks_length]; exact hl.out) mm (by omega)
            have hset := Lib.hid (dcells_set (mks (i + 2) D j) mm true)
            go_wp2_with fail
            go_roundw
            case rel =>
              refine ⟨j + 1, mm + (i + 2), by omega, ?_, by omega, by go_num, ?_⟩
              · show _ = _
                rw [hm.out, Nat.succ_mul]; omega
              · rw [hset.out, hm.out, ← hQ'.out]; rfl
            case measure => simp [intOf]; omega
          · have hle' : ¬ (mm : Int) ≤ 311 := by omega
            have hje := cnt_end (i + 2) j (by omega) (by have := hm.out; have := hQ'.out; omega) hj
            subst hje
            clear hm
            go_wp2_with fail
            go_roundw
            case rel => exact ⟨i + 1, by omega, by go_num, by rw [hs.out]; simp, by rw [hs.out]⟩
            case measure => simp [intOf]; omega
      · rw [hd] at h1
        have hs := Lib.hid (sv_yes i hd)
        clear hd
        go_wp2_with fail
        go_roundw
        case rel => exact ⟨i + 1, by omega, by go_num, by rw [hs.out], by rw [hs.out]⟩
        case measure => simp [intOf]; omega
    · obtain rfl : i = 310 := by omega
      have hB0 : (((w.alloc (.cells (fcells []) 51)).alloc (.cells (fcells (sv 310).1) 51)).alloc (.cells (dcells (sv 310).2) 86)).heap[w.heap.size]? = some (.cells (fcells []) 51) := by rw [heap_alloc_if, if_neg (by simp; omega), heap_alloc_if, if_neg (by simp), heap_alloc_if, if_pos rfl]
      have hB1 : (((w.alloc (.cells (fcells []) 51)).alloc (.cells (fcells (sv 310).1) 51)).alloc (.cells (dcells (sv 310).2) 86)).heap[w.heap.size + 1]? = some (.cells (us PR) 51) := by rw [heap_alloc_if, if_neg (by simp), heap_alloc_if, if_pos (by simp), sv_all]; rfl
      have hb : ¬ ((310 : Nat) : Int) + 2 ≤ 311 := by omega
      revert hB0 hB1
      generalize (sv 310).1 = F
      generalize (sv 310).2 = D
      intro hB0 hB1
      go_wp2_with (first
        | (with_reducible refine wpList_load_row rfl 51 (.tmp 1) rfl _ rfl 51 (us PR) _ hB1 Tryz.underlying51 rfl (by kernel_rfl) ?_)
        | (with_reducible refine wpList_store_row rfl 51 (.tmp 0) (.tmp 29) rfl _ (us PR) rfl rfl 51 (fcells []) hB0 (by kernel_rfl) (by kernel_rfl) (by kernel_rfl) ?_))
      exact bodyPost_row 0 51 rfl _ rfl 51 (us PR) _ (setRow_heap _ _ _ _ _ _ hB0) Tryz.underlying51 rfl (by kernel_rfl) rfl ⟨rfl, below_setRow (by go_grown) (by simp) _⟩
end Go.Proofs.YtfilolmbppjbjaaGreat.sh

namespace Go.Proofs.YtfilolmbppjbjaaGreat.sh
open Go.RowKit

def wcells (l : List (BitVec 32)) : Array Value := ws (pz 0#32 64 l)
theorem wcells_zero : wcells [] = #[.int .u32 0, .int .u32 0, .int .u32 0, .int .u32 0, .int .u32 0, .int .u32 0, .int .u32 0, .int .u32 0, .int .u32 0, .int .u32 0, .int .u32 0, .int .u32 0, .int .u32 0, .int .u32 0, .int .u32 0, .int .u32 0, .int .u32 0, .int .u32 0, .int .u32 0, .int .u32 0, .int .u32 0, .int .u32 0, .int .u32 0, .int .u32 0, .int .u32 0, .int .u32 0, .int .u32 0, .int .u32 0, .int .u32 0, .int .u32 0, .int .u32 0, .int .u32 0, .int .u32 0, .int .u32 0, .int .u32 0, .int .u32 0, .int .u32 0, .int .u32 0, .int .u32 0, .int .u32 0, .int .u32 0, .int .u32 0, .int .u32 0, .int .u32 0, .int .u32 0, .int .u32 0, .int .u32 0, .int .u32 0, .int .u32 0, .int .u32 0, .int .u32 0, .int .u32 0, .int .u32 0, .int .u32 0, .int .u32 0, .int .u32 0, .int .u32 0, .int .u32 0, .int .u32 0, .int .u32 0, .int .u32 0, .int .u32 0, .int .u32 0, .int .u32 0] := rfl
theorem wcells_size (l : List (BitVec 32)) (h : l.length ≤ 64) : (wcells l).size = 64 := by
  unfold wcells; rw [ws_size, pz_length _ _ _ h]
theorem wcells_at (l : List (BitVec 32)) (h : l.length ≤ 64) (j : Nat) (hj : j < 64) : (wcells l)[j]? = some (.int .u32 (V (l.getD j 0#32))) := by
  unfold wcells
  rw [ws_at _ _ (by rw [pz_length _ _ _ h]; exact hj), pz_getD]
theorem wcells_set (l : List (BitVec 32)) (t : Nat) (ht : l.length = t) (h : t < 64) (x : BitVec 32) : (wcells l).setIfInBounds t (.int .u32 (V x)) = wcells (l ++ [x]) := by
  subst ht
  unfold wcells; rw [ws_set, pz_set _ _ _ _ h]
theorem wcells_set2 (l : List (BitVec 32)) (t : Nat) (ht : l.length = t) (h : t < 64) (x y : BitVec 32) : (wcells (l ++ [y])).setIfInBounds t (.int .u32 (V x)) = wcells (l ++ [x]) := by
  rw [← wcells_set l t ht h y, Array.setIfInBounds_setIfInBounds, wcells_set l t ht h x]
theorem wcells_snoc (l : List (BitVec 32)) (h : l.length < 64) : wcells (l ++ [0#32]) = wcells l := by
  unfold wcells; rw [pz_zero _ _ _ h]
theorem snoc_at (l : List (BitVec 32)) (t : Nat) (ht : l.length = t) (x : BitVec 32) : (l ++ [x]).getD t 0#32 = x := by
  subst ht
  rw [List.getD_eq_getElem?_getD, List.getElem?_append_right (Nat.le_refl _), Nat.sub_self]; rfl

/-- The bytes of a text, one by one. -/
def gof (s : ByteArray) (i : Nat) : UInt8 := s.data.toList.getD i 0
theorem gof_at (s : ByteArray) (i : Nat) (h : i < s.size) : s[i] = gof s i := by
  unfold gof
  rw [List.getD_eq_getElem?_getD, List.getElem?_eq_getElem (by simpa using h)]; rfl

theorem orByte (x : BitVec 32) (b : UInt8) : bits .or .u32 (V x * 256 % (4294967296 : Int)) ((b.toNat : Int) % 4294967296) = V ((x <<< (8 : Nat)) ||| byte b) := by
  have e : (b.toNat : Int) % 4294967296 = V (byte b) := byteV b
  have e2 := shlV x 8
  rw [e, ← orV, ← e2]; rfl

theorem sm0_V (x : BitVec 32) : bits .xor .u32 (bits .xor .u32 (V (rot x 7)) (V (rot x 18))) (V x / (8 : Int)) = V (sm0 x) := by
  have e := shrV x 3
  rw [xorV, show V x / (8 : Int) = V (x >>> (3 : Nat)) from e, xorV]; rfl
theorem sm1_V (x : BitVec 32) : bits .xor .u32 (bits .xor .u32 (V (rot x 17)) (V (rot x 19))) (V x / (1024 : Int)) = V (sm1 x) := by
  have e := shrV x 10
  rw [xorV, show V x / (1024 : Int) = V (x >>> (10 : Nat)) from e, xorV]; rfl
theorem addV (a b : BitVec 32) : (V a + V b) % (4294967296 : Int) = V (a + b) := by
  unfold V; rw [BitVec.toNat_add]; omega

theorem addV4 (a b c d : BitVec 32) : (V a + V b + V c + V d) % (4294967296 : Int) = V (a + b + c + d) := by
  rw [← addV, ← addV, ← addV]; omega
theorem drewN_alloc (w : World) (o : Obj) (m : Nat) : (w.alloc o).drewN m = (w.drewN m).alloc o := rfl
theorem ws_one (l : List (BitVec 32)) : (ws l).all (·.oneCell') = true := by
  unfold ws; simp [Value.oneCell']

set_option maxHeartbeats 1000000 in
set_option maxRecDepth 100000 in
theorem schedule_any (s : ByteArray) (hs : s.size = 64) (w : World) :
    Calls Tryz.prog 32 #[.string s] w fun e w' => e = .returned (.agg (ws (sch (gof s) 64))) ∧ Below w.heap.size w w' := by
  have hsz := Lib.hid hs
  clear hs
  go_enter Tryz.func32, Tryz.ntmps32
  go_wp2_with fail
  rw [← wcells_zero]
  go_loopw [11] (fun t wr => ∃ k n : Nat, k ≤ 16 ∧ t = .int .i64 k ∧ wr = ((w.drewN n).alloc (.cells (wcells []) 56)).alloc (.cells (wcells (sch (gof s) k)) 56)) (fun i _ => 16 - (intOf i).toNat)
  case atStart => exact ⟨0, 0, by omega, rfl, rfl⟩
  case round =>
    obtain ⟨k, n, hk, rfl, rfl⟩ := hrel
    by_cases hlt : k < 16
    · have hb : (k : Int) < 16 := by omega
      have hl := Lib.hid (sch_length (gof s) k)
      rw [← wcells_snoc (sch (gof s) k) (by rw [hl.out]; omega)]
      go_wp2_with fail
      go_loopw [14] (fun t wr => ∃ i n : Nat, i ≤ 4 ∧ t = .int .i64 i ∧ wr = ((w.drewN n).alloc (.cells (wcells []) 56)).alloc (.cells (wcells (sch (gof s) k ++ [bwp (gof s) k i])) 56)) (fun i _ => 4 - (intOf i).toNat)
      case atStart => exact ⟨0, n, by omega, rfl, rfl⟩
      case round =>
        obtain ⟨i, n, hi, rfl, rfl⟩ := hrel
        by_cases hlt2 : i < 4
        · have hb2 : (i : Int) < 4 := by omega
          have h1 := wcells_at (sch (gof s) k ++ [bwp (gof s) k i]) (by simp [hl.out]; omega) k (by omega)
          rw [snoc_at _ _ hl.out] at h1
          have h2 : 4 * k + i < s.size := by rw [hsz.out]; omega
          have h3 := gof_at s (4 * k + i) h2
          have h4 : (k : Int) < 64 := by omega
          have h5 : 4 * (k : Int) + (i : Int) < (s.size : Int) := by omega
          have h6 : (4 * (k : Int) + (i : Int)).toNat = 4 * k + i := by omega
          go_wp2_with fail
          have h7 := orByte (bwp (gof s) k i) (gof s (4 * k + i))
          have h8 := Lib.hid (wcells_set2 (sch (gof s) k) k hl.out (by omega) (bwp (gof s) k (i + 1)) (bwp (gof s) k i))
          go_region
          go_wp2_with fail
          go_roundw
          case rel => exact ⟨i + 1, n + 1, by omega, by go_num, by rw [← h8.out]; rfl⟩
          case measure => simp [intOf]; omega
        · obtain rfl : i = 4 := by omega
          have h9 : Hid (sch (gof s) (k + 1) = sch (gof s) k ++ [bwp (gof s) k 4]) := by
            show _ = _
            rw [show sch (gof s) (k + 1) = sch (gof s) k ++ [if k < 16 then bwp (gof s) k 4 else nxt (sch (gof s) k)] from rfl, if_pos hlt]
          go_wp2_with fail
          go_roundw
          case rel => exact ⟨k + 1, n, by omega, by go_num, by rw [h9.out]⟩
          case measure => simp [intOf]; omega
    · obtain rfl : k = 16 := by omega
      rw [show ((16 : Nat) : Int) = 16 from rfl]
      go_wp2_with fail
      go_loopw [6] (fun t wr => ∃ t' n : Nat, 16 ≤ t' ∧ t' ≤ 64 ∧ t = .int .i64 t' ∧ wr = ((w.drewN n).alloc (.cells (wcells []) 56)).alloc (.cells (wcells (sch (gof s) t')) 56)) (fun i _ => 64 - (intOf i).toNat)
      case atStart => exact ⟨16, n, by omega, by omega, rfl, rfl⟩
      case round =>
        obtain ⟨t, n, ht1, ht2, rfl, rfl⟩ := hrel
        by_cases hlt3 : t < 64
        · have hb : (t : Int) < 64 := by omega
          have hl := Lib.hid (sch_length (gof s) t)
          have a15 := wcells_at (sch (gof s) t) (by rw [hl.out]; omega) (t - 15) (by omega)
          have a2 := wcells_at (sch (gof s) t) (by rw [hl.out]; omega) (t - 2) (by omega)
          have a7 := wcells_at (sch (gof s) t) (by rw [hl.out]; omega) (t - 7) (by omega)
          have a16 := wcells_at (sch (gof s) t) (by rw [hl.out]; omega) (t - 16) (by omega)
          have at' := wcells_at (sch (gof s) t) (by rw [hl.out]; omega) t (by omega)
          have e15 : ((t : Int) - 15).toNat = t - 15 := by omega
          have e2 : ((t : Int) - 2).toNat = t - 2 := by omega
          have e7 : ((t : Int) - 7).toNat = t - 7 := by omega
          have e16 : ((t : Int) - 16).toNat = t - 16 := by omega
          have hnx : nxt (sch (gof s) t) = sm1 ((sch (gof s) t).getD (t - 2) 0#32) + (sch (gof s) t).getD (t - 7) 0#32 + sm0 ((sch (gof s) t).getD (t - 15) 0#32) + (sch (gof s) t).getD (t - 16) 0#32 := by
            unfold nxt; rw [hl.out]
          have hsch : Hid (sch (gof s) (t + 1) = sch (gof s) t ++ [nxt (sch (gof s) t)]) := by
            show _ = _
            rw [show sch (gof s) (t + 1) = sch (gof s) t ++ [if t < 16 then bwp (gof s) t 4 else nxt (sch (gof s) t)] from rfl, if_neg (by omega)]
          have hset := Lib.hid (wcells_set (sch (gof s) t) t hl.out (by omega) (nxt (sch (gof s) t)))
          revert a15 a2 a7 a16 hnx
          generalize (sch (gof s) t).getD (t - 15) 0#32 = x
          generalize (sch (gof s) t).getD (t - 2) 0#32 = y
          generalize (sch (gof s) t).getD (t - 7) 0#32 = z
          generalize (sch (gof s) t).getD (t - 16) 0#32 = u
          intro a15 a2 a7 a16 hnx
          have hnx' := Lib.hid hnx
          clear hnx
          have hs0 := sm0_V x
          have hs1 := sm1_V y
          go_wp2_with fail
          go_quiet (fail)
          go_wp2_with fail
          refine (right_any x 7 (by decide) (by decide) _).mono ?_
          rintro e w' ⟨rfl, rfl⟩
          go_wp2_with fail
          refine (right_any x 18 (by decide) (by decide) _).mono ?_
          rintro e w' ⟨rfl, rfl⟩
          go_wp2_with fail
          refine (right_any y 17 (by decide) (by decide) _).mono ?_
          rintro e w' ⟨rfl, rfl⟩
          go_wp2_with fail
          refine (right_any y 19 (by decide) (by decide) _).mono ?_
          rintro e w' ⟨rfl, rfl⟩
          go_wp2_with fail
          go_region
          go_wp2_with fail
          go_roundw
          case rel => 
            refine ⟨t + 1, n + nq + 1, by omega, by omega, by go_num, ?_⟩
            rw [hsch.out, ← hset.out, hnx'.out]
            rw [drewN_alloc, drewN_alloc, World.drewN_drewN, World.setCell_alloc_at _ _ _ _ _ (by simp), addV4]
            rfl
          case measure => simp [intOf]; omega
        · obtain rfl : t = 64 := by omega
          have hB0 : (((w.drewN n).alloc (.cells (wcells []) 56)).alloc (.cells (wcells (sch (gof s) 64)) 56)).heap[w.heap.size]? = some (.cells (wcells []) 56) := by rw [heap_alloc_if, if_neg (by simp), heap_alloc_if, if_pos (by simp)]
          have hB1 : (((w.drewN n).alloc (.cells (wcells []) 56)).alloc (.cells (wcells (sch (gof s) 64)) 56)).heap[w.heap.size + 1]? = some (.cells (wcells (sch (gof s) 64)) 56) := by rw [heap_alloc_if, if_pos (by simp)]
          have hl : (wcells (sch (gof s) 64)).size = 64 := wcells_size _ (by rw [sch_length]; omega)
          have hi : (Tryz.prog.info? 56).map (·.size) = some (wcells (sch (gof s) 64)).size := by rw [hl]; kernel_rfl
          have ho : (wcells []).size = (wcells (sch (gof s) 64)).size := by rw [hl]; rfl
          have h1 : (wcells (sch (gof s) 64)).all (·.oneCell') = true := ws_one _
          have hf : wcells (sch (gof s) 64) = ws (sch (gof s) 64) := by unfold wcells; rw [pz_full _ _ _ (sch_length _ _)]
          have H := Lib.hid (And.intro hi (And.intro ho (And.intro h1 hf)))
          clear hl hi ho h1 hf
          go_wp2_with (first
            | (with_reducible refine wpList_load_row rfl 56 (.tmp 3) rfl _ rfl 56 (wcells (sch (gof s) 64)) _ hB1 Tryz.underlying56 rfl H.out.1 ?_)
            | (with_reducible refine wpList_store_row rfl 56 (.tmp 2) (.tmp 76) rfl _ (wcells (sch (gof s) 64)) rfl rfl 56 (wcells []) hB0 H.out.1 H.out.2.1 H.out.2.2.1 ?_))
          exact bodyPost_row 2 56 rfl _ rfl 56 (wcells (sch (gof s) 64)) _ (setRow_heap _ _ _ _ _ _ hB0) Tryz.underlying56 rfl H.out.1 rfl ⟨by rw [H.out.2.2.2], below_setRow (((below_drewN (Below.refl _ _) n).alloc (by simp) _).alloc (by simp) _) (Nat.le_refl _) _⟩
end Go.Proofs.YtfilolmbppjbjaaGreat.sh

namespace Go.Proofs.YtfilolmbppjbjaaGreat.sh
open Go.RowKit

def c8 (s : St) : Array Value := #[.int .u32 (V s.a), .int .u32 (V s.b), .int .u32 (V s.c), .int .u32 (V s.d), .int .u32 (V s.e), .int .u32 (V s.f), .int .u32 (V s.g), .int .u32 (V s.h)]
theorem c8_eq (s : St) : ws s.toL = c8 s := rfl
/-- A call that leaves the world alone, in a quiet region behind another one. -/
theorem quiet_more {P : Program} {f : FuncId} {args : Array Value} {w : World} {a n : Nat} {v : Value}
    (h : Calls P f args (w.drewN (a + n)) fun e w' => e = .returned v ∧ w.drewN (a + n) = w') :
    Calls P f args (w.drewN (a + n)) fun e w'' => e = .returned v ∧ ∃ m, w'' = w.drewN (a + m) :=
  h.mono fun _ _ ⟨he, hm⟩ => ⟨he, n, hm.symm⟩

theorem bg1_V (x : BitVec 32) : bits .xor .u32 (bits .xor .u32 (V (rot x 6)) (V (rot x 11))) (V (rot x 25)) = V (bg1 x) := by rw [xorV, xorV]; rfl
theorem bg0_V (x : BitVec 32) : bits .xor .u32 (bits .xor .u32 (V (rot x 2)) (V (rot x 13))) (V (rot x 22)) = V (bg0 x) := by rw [xorV, xorV]; rfl
theorem u32max : IntKind.u32.max = 4294967295 := by decide
theorem notMax (a : BitVec 32) : bits .xor .u32 IntKind.u32.max (V a) = V (~~~a) := by rw [u32max, xor_ones]
theorem chs_V (e f g : BitVec 32) : bits .xor .u32 (bits .and .u32 (V e) (V f)) (bits .and .u32 (bits .xor .u32 IntKind.u32.max (V e)) (V g)) = V (chs e f g) := by
  rw [notMax, andV, andV, xorV]; rfl
theorem maj_V (a b c : BitVec 32) : bits .xor .u32 (bits .xor .u32 (bits .and .u32 (V a) (V b)) (bits .and .u32 (V a) (V c))) (bits .and .u32 (V b) (V c)) = V (maj a b c) := by
  rw [andV, andV, andV, xorV, xorV]; rfl
theorem addV5 (a b c d e : BitVec 32) : (V a + V b + V c + V d + V e) % (4294967296 : Int) = V (a + b + c + d + e) := by
  rw [← addV, ← addV4]; omega
theorem copy_down (W : World) (z : Nat) (t : TypeId) (a b c d e f g h : Int) (hz : W.heap[z]? = some (.cells #[.int .u32 a, .int .u32 b, .int .u32 c, .int .u32 d, .int .u32 e, .int .u32 f, .int .u32 g, .int .u32 h] 54)) :
    (Builtin.copy_ #[94, 94] t #[.slice (some ⟨z, 1, none⟩) 7 7, .slice (some ⟨z, 0, none⟩) 7 8]).run Tryz.prog W = .ok (.int .i64 7) (W.setRow z #[.int .u32 a, .int .u32 a, .int .u32 b, .int .u32 c, .int .u32 d, .int .u32 e, .int .u32 f, .int .u32 g]) :=
  run_copy_row (P := Tryz.prog) W 94 94 t 53 z 1 7 7 ⟨z, 0, none⟩ 7 8 _ 54 [.int .u32 a, .int .u32 b, .int .u32 c, .int .u32 d, .int .u32 e, .int .u32 f, .int .u32 g] Tryz.underlying94 (by kernel_rfl) hz rfl
    (fun j v hv => by
      have e : (⟨z, 0, none⟩ : Addr).add j = ⟨z, j, none⟩ := by unfold Addr.add; split <;> simp_all
      rw [e, cell_of_row W z j _ _ _ hz]
      have hj : j < 7 := (List.getElem?_eq_some_iff.1 hv).1
      obtain rfl | rfl | rfl | rfl | rfl | rfl | rfl : j = 0 ∨ j = 1 ∨ j = 2 ∨ j = 3 ∨ j = 4 ∨ j = 5 ∨ j = 6 := by omega
      all_goals exact hv)
    (Nat.le_refl 8) (by simp [Value.oneCell'])
theorem setRow_past (w : World) (o : Obj) (g : Nat) (c : Array Value) (h : g < w.heap.size) : (w.alloc o).setRow g c = (w.setRow g c).alloc o := by
  simp only [World.setRow, World.alloc]
  congr 1
  apply Array.ext_getElem?
  intro i
  rw [Array.getElem?_modify, Array.getElem?_push, Array.getElem?_push, Array.getElem?_modify]
  by_cases h1 : i = w.heap.size
  · subst h1
    simp; omega
  · simp [h1]
theorem setRow3 (w : World) (n m : Nat) (c c' : Array Value) (B C : Obj) : (((((w.drewN n).alloc (.cells c 54)).alloc B).alloc C).drewN m).setRow w.heap.size c' = (((w.drewN (n + m)).alloc (.cells c' 54)).alloc B).alloc C := by
  rw [drewN_alloc, drewN_alloc, drewN_alloc, World.drewN_drewN, setRow_past _ _ _ _ (by simp; omega), setRow_past _ _ _ _ (by simp)]
  rw [show w.heap.size = (w.drewN (n + m)).heap.size from rfl, World.setRow_alloc_new]
theorem set3 (w : World) (n i : Nat) (v : Value) (c : Array Value) (B C : Obj) : ((((w.drewN n).alloc (.cells c 54)).alloc B).alloc C).setCell ⟨w.heap.size, i, none⟩ v = (((w.drewN n).alloc (.cells (c.setIfInBounds i v) 54)).alloc B).alloc C := by
  rw [World.setCell_alloc_past _ _ _ _ (by simp <;> omega), World.setCell_alloc_past _ _ _ _ (by simp <;> omega), World.setCell_alloc_at _ _ _ _ _ (by simp)]
set_option maxHeartbeats 1000000 in
set_option maxRecDepth 100000 in
theorem mixed_any (s : St) (ks wl : List (BitVec 32)) (kb : Nat) (hkl : ks.length = 64) (hwl : wl.length = 64) (w : World) (hkb : kb < w.heap.size) (hk : w.heap[kb]? = some (.cells (ws ks) 56)) :
    Calls Tryz.prog 31 #[.agg (c8 s), .pointer (some ⟨kb, 0, none⟩), .agg (ws wl)] w fun e w' => e = .returned (.agg (c8 (mix ks wl s 64))) ∧ Below w.heap.size w w' := by
  have hkc : ∀ j, j < 64 → w.cell? ⟨kb, j, none⟩ = some (.int .u32 (V (ks.getD j 0#32))) := fun j hj => by
    rw [cell_of_row w kb j _ _ _ hk, ws_at _ _ (by omega)]
  have H := Lib.hid (And.intro hkc (And.intro hkl (And.intro hwl hk)))
  clear hkc hkl hwl hk
  have hz : Hid (#[.int .u32 0, .int .u32 0, .int .u32 0, .int .u32 0, .int .u32 0, .int .u32 0, .int .u32 0, .int .u32 0] = ws (List.replicate 8 0#32)) := rfl
  go_enter Tryz.func31, Tryz.ntmps31
  go_wp2_with fail
  go_loopw [16] (fun t wr => ∃ k n : Nat, ∃ s' : St, k ≤ 64 ∧ Hid (s' = mix ks wl s k) ∧ t = .int .i64 k ∧ wr = (((w.drewN n).alloc (.cells (c8 s') 54)).alloc (.cells (ws wl) 56)).alloc (.cells #[.int .u32 0, .int .u32 0, .int .u32 0, .int .u32 0, .int .u32 0, .int .u32 0, .int .u32 0, .int .u32 0] 54)) (fun i _ => 64 - (intOf i).toNat)
  case atStart => exact ⟨0, 0, s, by omega, rfl, rfl, rfl⟩
  case round =>
    obtain ⟨k, n, ⟨a, b, c, d, e, f, g, hh⟩, hk64, hs', rfl, rfl⟩ := hrel
    rw [show c8 ⟨a, b, c, d, e, f, g, hh⟩ = #[.int .u32 (V a), .int .u32 (V b), .int .u32 (V c), .int .u32 (V d), .int .u32 (V e), .int .u32 (V f), .int .u32 (V g), .int .u32 (V hh)] from rfl]
    by_cases hlt : k < 64
    · have hb : (k : Int) < 64 := by omega
      have h1 := H.out.1 k hlt
      have h2 := ws_at wl k (by rw [H.out.2.2.1]; exact hlt)
      have hsn : Hid (mix ks wl s (k + 1) = rnd ⟨a, b, c, d, e, f, g, hh⟩ (ks.getD k 0#32) (wl.getD k 0#32)) := by
        show rnd (mix ks wl s k) _ _ = _
        rw [← hs'.out]
      revert h1 h2 hsn
      generalize ks.getD k 0#32 = kk
      generalize wl.getD k 0#32 = wk
      intro h1 h2 hsn
      obtain ⟨W, hW⟩ : ∃ W, (((w.drewN n).alloc (.cells #[.int .u32 (V a), .int .u32 (V b), .int .u32 (V c), .int .u32 (V d), .int .u32 (V e), .int .u32 (V f), .int .u32 (V g), .int .u32 (V hh)] 54)).alloc (.cells (ws wl) 56)).alloc (.cells #[.int .u32 0, .int .u32 0, .int .u32 0, .int .u32 0, .int .u32 0, .int .u32 0, .int .u32 0, .int .u32 0] 54) = W := ⟨_, rfl⟩
      have r0 : W.heap[w.heap.size]? = some (.cells #[.int .u32 (V a), .int .u32 (V b), .int .u32 (V c), .int .u32 (V d), .int .u32 (V e), .int .u32 (V f), .int .u32 (V g), .int .u32 (V hh)] 54) := by
        rw [← hW, heap_alloc_if, if_neg (by simp; omega), heap_alloc_if, if_neg (by simp), heap_alloc_if, if_pos (by simp)]
      have r1 : W.heap[w.heap.size + 1]? = some (.cells (ws wl) 56) := by
        rw [← hW, heap_alloc_if, if_neg (by simp), heap_alloc_if, if_pos (by simp)]
      have r2 : W.heap[kb]? = w.heap[kb]? := by
        rw [← hW, heap_alloc_if, if_neg (by simp; omega), heap_alloc_if, if_neg (by simp; omega), heap_alloc_if, if_neg (by simp; omega)]; rfl
      have q0 : W.cell? ⟨w.heap.size, 0, none⟩ = some (.int .u32 (V a)) := cell_of_row W _ 0 _ _ _ r0
      have q1 : W.cell? ⟨w.heap.size, 1, none⟩ = some (.int .u32 (V b)) := cell_of_row W _ 1 _ _ _ r0
      have q2 : W.cell? ⟨w.heap.size, 2, none⟩ = some (.int .u32 (V c)) := cell_of_row W _ 2 _ _ _ r0
      have q4 : W.cell? ⟨w.heap.size, 4, none⟩ = some (.int .u32 (V e)) := cell_of_row W _ 4 _ _ _ r0
      have q5 : W.cell? ⟨w.heap.size, 5, none⟩ = some (.int .u32 (V f)) := cell_of_row W _ 5 _ _ _ r0
      have q6 : W.cell? ⟨w.heap.size, 6, none⟩ = some (.int .u32 (V g)) := cell_of_row W _ 6 _ _ _ r0
      have q7 : W.cell? ⟨w.heap.size, 7, none⟩ = some (.int .u32 (V hh)) := cell_of_row W _ 7 _ _ _ r0
      have qw : W.cell? ⟨w.heap.size + 1, k, none⟩ = some (.int .u32 (V wk)) := by rw [cell_of_row W _ k _ _ _ r1, h2]
      have qk : W.cell? ⟨kb, k, none⟩ = some (.int .u32 (V kk)) := by rw [World.cell?_of_block (w := w) (a := ⟨kb, k, none⟩) r2]; exact h1
      rw [hW]
      have hW' := Lib.hid (And.intro hW (And.intro r0 (And.intro r1 r2)))
      clear hW r0 r1 r2 h1 h2
      have x1 := bg1_V e
      have x2 := bg0_V a
      have x3 := chs_V e f g
      have x4 := maj_V a b c
      obtain ⟨T1, hT1⟩ : ∃ T1, hh + bg1 e + chs e f g + kk + wk = T1 := ⟨_, rfl⟩
      obtain ⟨T2, hT2⟩ : ∃ T2, bg0 a + maj a b c = T2 := ⟨_, rfl⟩
      have x5 : (V hh + V (bg1 e) + V (chs e f g) + V kk + V wk) % (4294967296 : Int) = V T1 := by rw [← hT1, addV5]
      have x6 : (V (bg0 a) + V (maj a b c)) % (4294967296 : Int) = V T2 := by rw [← hT2, addV]
      have hT := Lib.hid (And.intro hT1 hT2)
      clear hT1 hT2
      have hcp : ∀ m t, (Builtin.copy_ #[94, 94] t #[.slice (some ⟨w.heap.size, 1, none⟩) 7 7, .slice (some ⟨w.heap.size, 0, none⟩) 7 8]).run Tryz.prog (W.drewN m) = .ok (.int .i64 7) ((W.drewN m).setRow w.heap.size #[.int .u32 (V a), .int .u32 (V a), .int .u32 (V b), .int .u32 (V c), .int .u32 (V d), .int .u32 (V e), .int .u32 (V f), .int .u32 (V g)]) := fun m t =>
        copy_down (W.drewN m) w.heap.size t (V a) (V b) (V c) (V d) (V e) (V f) (V g) (V hh) hW'.out.2.1
      go_wp2_with fail
      go_quiet (fail)
      revert nq
      intro nq1
      go_wp2_with fail
      go_quiet (fail)
      revert nq
      intro nq2
      go_wp2_with fail
      go_quiet (first | (go_at_call_of 54 (Value.int .i64 6); exact quiet_more (right_any e 6 (by decide) (by decide) _)) | (go_at_call_of 54 (Value.int .i64 11); exact quiet_more (right_any e 11 (by decide) (by decide) _)) | (go_at_call_of 54 (Value.int .i64 25); exact quiet_more (right_any e 25 (by decide) (by decide) _)))
      revert nq
      intro nq3
      go_wp2_with fail
      refine (right_any a 2 (by decide) (by decide) _).mono ?_
      rintro ee w' ⟨rfl, rfl⟩
      go_wp2_with fail
      refine (right_any a 13 (by decide) (by decide) _).mono ?_
      rintro ee w' ⟨rfl, rfl⟩
      go_wp2_with fail
      refine (right_any a 22 (by decide) (by decide) _).mono ?_
      rintro ee w' ⟨rfl, rfl⟩
      go_wp2_with fail
      go_region
      rw [← hW'.out.1, setRow3]
      clear hcp q0 q1 q2 q4 q5 q6 q7 qw qk hW'
      have x7 : (V T1 + (V (bg0 a) + V (maj a b c)) % (4294967296 : Int)) % (4294967296 : Int) = V (T1 + T2) := by rw [x6, addV]
      have x8 : (V T1 + (V (bg0 a) + V (maj a b c))) % (4294967296 : Int) = V (T1 + T2) := by rw [← addV, ← x6]; omega
      have x9 := addV d T1
      obtain ⟨M, hM⟩ : ∃ M, M = n + (nq1 + nq2 + nq3 + 1) := ⟨_, rfl⟩
      rw [← hM]
      clear hM
      obtain ⟨W2, hW2⟩ : ∃ W2, W2 = (((w.drewN M).alloc (.cells #[.int .u32 (V a), .int .u32 (V a), .int .u32 (V b), .int .u32 (V c), .int .u32 (V d), .int .u32 (V e), .int .u32 (V f), .int .u32 (V g)] 54)).alloc (.cells (ws wl) 56)).alloc (.cells #[.int .u32 0, .int .u32 0, .int .u32 0, .int .u32 0, .int .u32 0, .int .u32 0, .int .u32 0, .int .u32 0] 54) := ⟨_, rfl⟩
      have r0 : W2.heap[w.heap.size]? = some (.cells #[.int .u32 (V a), .int .u32 (V a), .int .u32 (V b), .int .u32 (V c), .int .u32 (V d), .int .u32 (V e), .int .u32 (V f), .int .u32 (V g)] 54) := by
        rw [hW2, heap_alloc_if, if_neg (by simp; omega), heap_alloc_if, if_neg (by simp), heap_alloc_if, if_pos (by simp)]
      have q0 : W2.cell? ⟨w.heap.size, 0, none⟩ = some (.int .u32 (V a)) := cell_of_row W2 _ 0 _ _ _ r0
      have q4 : W2.cell? ⟨w.heap.size, 4, none⟩ = some (.int .u32 (V d)) := cell_of_row W2 _ 4 _ _ _ r0
      have f0 : W2.frozen? ⟨w.heap.size, 0, none⟩ = false := frozen_of_row W2 _ 0 _ _ r0
      have f4 : W2.frozen? ⟨w.heap.size, 4, none⟩ = false := frozen_of_row W2 _ 4 _ _ r0
      rw [← hW2]
      have hW2' := Lib.hid hW2
      clear hW2 r0
      go_wp2_with fail
      go_roundw
      case rel =>
        refine ⟨k + 1, M, rnd ⟨a, b, c, d, e, f, g, hh⟩ kk wk, by omega, hsn.out.symm, by go_num, ?_⟩
        rw [hW2'.out, addV, set3, set3, ← hT.out.1, ← hT.out.2]
        rfl
      case measure => simp [intOf]; omega
    · obtain rfl : k = 64 := by omega
      rw [show ((64 : Nat) : Int) = 64 from rfl]
      generalize hc : (#[.int .u32 (V a), .int .u32 (V b), .int .u32 (V c), .int .u32 (V d), .int .u32 (V e), .int .u32 (V f), .int .u32 (V g), .int .u32 (V hh)] : Array Value) = C
      have hB0 : ((((w.drewN n).alloc (.cells C 54)).alloc (.cells (ws wl) 56)).alloc (.cells #[.int .u32 0, .int .u32 0, .int .u32 0, .int .u32 0, .int .u32 0, .int .u32 0, .int .u32 0, .int .u32 0] 54)).heap[w.heap.size]? = some (.cells C 54) := by rw [heap_alloc_if, if_neg (by simp; omega), heap_alloc_if, if_neg (by simp), heap_alloc_if, if_pos (by simp)]
      have hB2 : ((((w.drewN n).alloc (.cells C 54)).alloc (.cells (ws wl) 56)).alloc (.cells #[.int .u32 0, .int .u32 0, .int .u32 0, .int .u32 0, .int .u32 0, .int .u32 0, .int .u32 0, .int .u32 0] 54)).heap[w.heap.size + 1 + 1]? = some (.cells #[.int .u32 0, .int .u32 0, .int .u32 0, .int .u32 0, .int .u32 0, .int .u32 0, .int .u32 0, .int .u32 0] 54) := by rw [heap_alloc_if, if_pos (by simp)]
      have hi : (Tryz.prog.info? 54).map (·.size) = some C.size := by rw [← hc]; kernel_rfl
      have ho : (#[.int .u32 0, .int .u32 0, .int .u32 0, .int .u32 0, .int .u32 0, .int .u32 0, .int .u32 0, .int .u32 0] : Array Value).size = C.size := by rw [← hc]; rfl
      have h1 : C.all (·.oneCell') = true := by rw [← hc]; exact ws_one [a, b, c, d, e, f, g, hh]
      have hC : C = c8 (mix ks wl s 64) := by rw [← hc, ← hs'.out]; rfl
      have HH := Lib.hid (And.intro hi (And.intro ho (And.intro h1 hC)))
      clear hi ho h1 hC hc
      go_wp2_with (first
        | (with_reducible refine wpList_load_row rfl 54 (.tmp 3) rfl _ rfl 54 C _ hB0 Tryz.underlying54 rfl HH.out.1 ?_)
        | (with_reducible refine wpList_store_row rfl 54 (.tmp 6) (.tmp 94) rfl _ C rfl rfl 54 _ hB2 HH.out.1 HH.out.2.1 HH.out.2.2.1 ?_))
      exact bodyPost_row 6 54 rfl _ rfl 54 C _ (setRow_heap _ _ _ _ _ _ hB2) Tryz.underlying54 rfl HH.out.1 rfl ⟨by rw [HH.out.2.2.2], below_setRow ((((below_drewN (Below.refl _ _) n).alloc (by simp) _).alloc (by simp) _).alloc (by simp; omega) _) (by omega) _⟩
end Go.Proofs.YtfilolmbppjbjaaGreat.sh

namespace Go.Proofs.YtfilolmbppjbjaaGreat.sh
open Go.RowKit

/-- So many bytes of a number laid over a row, the last one first. -/
def wrb (off : Nat) : Nat → List UInt8 → Nat → List UInt8
  | 0, l, _ => l
  | L + 1, l, n => wrb off L (l.set (off + L) (UInt8.ofNat (n % 256))) (n / 256)
theorem wrb_eq (off L n : Nat) (l : List UInt8) (h : off + L ≤ l.length) : wrb off L l n = l.take off ++ (be L n ++ l.drop (off + L)) := by
  induction L generalizing l n with
  | zero => simp [wrb, be]
  | succ L ih =>
    rw [wrb, ih _ _ (by simp; omega)]
    have e1 : (l.set (off + L) (UInt8.ofNat (n % 256))).take off = l.take off := by
      rw [List.take_set_of_le (by omega)]
    have e2 : (l.set (off + L) (UInt8.ofNat (n % 256))).drop (off + L) = UInt8.ofNat (n % 256) :: l.drop (off + L + 1) := by
      rw [List.drop_eq_getElem_cons (by simp; omega), List.getElem_set_self, List.drop_set_of_lt (by omega)]
    rw [e1, e2]
    simp [be, Nat.add_assoc]
theorem wrb_length (off L n : Nat) (l : List UInt8) : (wrb off L l n).length = l.length := by
  induction L generalizing l n with
  | zero => rfl
  | succ L ih => rw [wrb, ih]; simp
theorem low8 (n : Nat) : (n : Int) % 256 = ((UInt8.ofNat (n % 256)).toNat : Int) := by
  rw [UInt8.toNat_ofNat']; omega
theorem frozen_row {w : World} {z : Nat} {c : Array Value} {t : TypeId} (h : w.heap[z]? = some (.cells c t)) (j : Nat) : w.frozen? ⟨z, j, none⟩ = false := frozen_of_row w z j c t h

set_option maxHeartbeats 400000 in
theorem phf_any (w : World) (z off L cap n : Nat) (l : List UInt8) (t : TypeId) (hz : w.heap[z]? = some (.cells (row l) t)) (hl : off + L ≤ l.length) (hL : L ≤ 8) :
    Calls Tryz.prog 52 #[.slice (some ⟨z, off, none⟩) L cap, .int .u64 (n : Int)] w fun e w' => e = .returned (.tuple #[]) ∧ w' = w.setRow z (row (wrb off L l n)) := by
  have hz' := Lib.hid hz
  clear hz
  go_enter Tryz.func52, Tryz.ntmps52
  go_wp2_with fail
  go_loopw [1, 4] (fun nn i wr => ∃ (j m : Nat) (l' : List UInt8), j ≤ L ∧ l'.length = l.length ∧ Hid (wrb off j l' m = wrb off L l n) ∧ nn = .int .u64 (m : Int) ∧ i = .int .i64 ((j : Int) - 1) ∧ Hid (wr = w.setRow z (row l'))) (fun _ i _ => (intOf i + 1).toNat)
  case atStart => exact ⟨L, n, l, by omega, rfl, rfl, rfl, rfl, (setRow_self _ _ _ _ _ hz'.out).symm⟩
  case round =>
    obtain ⟨j, m, l', hj, hll, hw, rfl, rfl, hwr⟩ := hrel
    rename_i wr
    cases j with
    | zero =>
      rw [show ((0 : Nat) : Int) - 1 = -1 from rfl]
      go_wp2_with fail
      go_end0
      exact ⟨rfl, hwr.out.trans (by rw [← hw.out]; rfl)⟩
    | succ j =>
      have e : ((j + 1 : Nat) : Int) - 1 = (j : Int) := by omega
      rw [e]
      have hg : wr.heap[z]? = some (.cells (row l') t) := by rw [hwr.out]; exact setRow_heap _ _ _ _ _ _ hz'.out
      have hc : wr.cell? ⟨z, off + j, none⟩ = some (.int .u8 ((l'.getD (off + j) 0).toNat : Int)) := by
        rw [cell_of_row wr z _ _ _ _ hg, row_at _ _ (by omega)]
      have hf := frozen_row hg (off + j)
      have hlt : (j : Int) < (L : Int) := by omega
      have hb := low8 m
      obtain ⟨b, hB⟩ : ∃ b, UInt8.ofNat (m % 256) = b := ⟨_, rfl⟩
      rw [hB] at hb
      have hB' := Lib.hid hB
      have hg' := Lib.hid hg
      have hll' := Lib.hid hll
      clear hg hll e hB
      go_wp2_with fail
      go_roundw
      case rel =>
        refine ⟨j, m / 256, l'.set (off + j) (UInt8.ofNat (m % 256)), by omega, by simp [hll'.out], hw, by go_num, rfl, ?_⟩
        show _ = _
        rw [setCell_eq_setRow _ _ _ _ _ _ _ hg'.out, row_set, hwr.out, setRow_setRow, hB'.out]
      case measure => simp [intOf]

theorem bytesOf_length (l : List (BitVec 32)) : (bytesOf l).length = 4 * l.length := by
  induction l with
  | nil => rfl
  | cons x l ih =>
    show (be 4 x.toNat ++ bytesOf l).length = _
    simp [ih, be_length]; omega
theorem bytesOf_snoc (l : List (BitVec 32)) (x : BitVec 32) : bytesOf (l ++ [x]) = bytesOf l ++ be 4 x.toNat := by
  simp [bytesOf]
/-- The digest, as far as it is there. -/
def jl (l : List (BitVec 32)) (k : Nat) : List UInt8 := pz 0 32 (bytesOf (l.take k))
def jcells (l : List (BitVec 32)) (k : Nat) : Array Value := row (jl l k)
theorem jcells_zero (l : List (BitVec 32)) : jcells l 0 = #[.int .u8 0, .int .u8 0, .int .u8 0, .int .u8 0, .int .u8 0, .int .u8 0, .int .u8 0, .int .u8 0, .int .u8 0, .int .u8 0, .int .u8 0, .int .u8 0, .int .u8 0, .int .u8 0, .int .u8 0, .int .u8 0, .int .u8 0, .int .u8 0, .int .u8 0, .int .u8 0, .int .u8 0, .int .u8 0, .int .u8 0, .int .u8 0, .int .u8 0, .int .u8 0, .int .u8 0, .int .u8 0, .int .u8 0, .int .u8 0, .int .u8 0, .int .u8 0] := rfl
theorem jl_len (l : List (BitVec 32)) (h : l.length = 8) (k : Nat) (hk : k ≤ 8) : (jl l k).length = 32 := by
  unfold jl; rw [pz_length]; rw [bytesOf_length]; simp; omega
theorem jl_step (l : List (BitVec 32)) (h : l.length = 8) (k : Nat) (hk : k < 8) : wrb (4 * k) 4 (jl l k) (l.getD k 0#32).toNat = jl l (k + 1) := by
  rw [wrb_eq _ _ _ _ (by rw [jl_len l h k (by omega)]; omega)]
  have hb : (bytesOf (l.take k)).length = 4 * k := by rw [bytesOf_length]; simp; omega
  unfold jl
  rw [take_snocD 0#32 _ _ (by omega), bytesOf_snoc]
  have he := be_length 4 (l.getD k 0#32).toNat
  generalize bytesOf (l.take k) = B at hb ⊢
  generalize be 4 (l.getD k 0#32).toNat = E at he ⊢
  unfold pz
  rw [List.take_append_of_le_length (by omega), List.take_of_length_le (by omega), List.drop_append, List.drop_eq_nil_of_le (by omega), List.drop_replicate, List.append_assoc, List.nil_append, hb]
  congr 3
  simp; omega

theorem slice_at (k : Nat) (h : k < 8) (b : Nat) (w : World) : (Instr.sliceAt 23 (.pointer (some ⟨b, 0, none⟩)) (some (.int .i64 (4 * (k : Int)))) (some (.int .i64 (4 * (k : Int) + 4))) none).run Tryz.prog w = .ok (.slice (some ⟨b, 4 * k, none⟩) 4 (32 - 4 * k)) w := by
  have ht : Tryz.prog.underlying 23 = some (.array (Tryz.prog.arrayLen 23) (Tryz.prog.elem 23)) := by kernel_rfl
  have e1 : Tryz.prog.elem 23 = 5 := by kernel_rfl
  have e2 : Tryz.prog.arrayLen 23 = 32 := by kernel_rfl
  rw [run_sliceAt_array_lh (P := Tryz.prog) w 23 ⟨b, 0, none⟩ ht .i64 .i64 _ _ (by omega) (by omega) (by rw [e2]; omega), e1, e2, Tryz.sizeOf5]
  simp only [Result.andThen_ok, slicedAt]
  rw [if_neg (by omega), show (4 * (k : Int)).toNat = 4 * k by omega, show (4 * (k : Int) + 4).toNat = 4 * k + 4 by omega, show (4 * k + 4 - 4 * k) = 4 by omega]
  have e : (⟨b, 0, none⟩ : Addr).add (4 * k * 1) = ⟨b, 4 * k, none⟩ := by unfold Addr.add; split <;> simp_all
  rw [e]

theorem wrapV (x : BitVec 32) : IntKind.u64.wrap (V x) = (x.toNat : Int) := by
  have := x.isLt
  rw [IntKind.wrap_u64]; unfold V; omega
theorem row_one (l : List UInt8) : (row l).all (·.oneCell') = true := by
  unfold row; simp [Value.oneCell']
theorem setRow_top3 (w : World) (A B : Obj) (c c' : Array Value) (t : TypeId) : (((w.alloc A).alloc B).alloc (.cells c t)).setRow (w.heap.size + 1 + 1) c' = ((w.alloc A).alloc B).alloc (.cells c' t) := by
  have := World.setRow_alloc_new ((w.alloc A).alloc B) c c' t
  rw [show ((w.alloc A).alloc B).heap.size = w.heap.size + 1 + 1 by simp] at this
  exact this

set_option maxHeartbeats 400000 in
set_option maxRecDepth 100000 in
theorem joined_any (l : List (BitVec 32)) (hl : l.length = 8) (w : World) :
    Calls Tryz.prog 33 #[.agg (ws l)] w fun e w' => e = .returned (.agg (row (bytesOf l))) ∧ Below w.heap.size w w' := by
  have hl' := Lib.hid hl
  clear hl
  have hi0 : Hid ((Tryz.prog.info? 54).map (·.size) = some (ws l).size) := by show _ = _; rw [ws_size, hl'.out]; kernel_rfl
  go_enter Tryz.func33, Tryz.ntmps33
  go_wp2_with (with_reducible refine wpList_load_row rfl 54 (.tmp 1) rfl _ rfl 54 (ws l) _ ?hB Tryz.underlying54 rfl hi0.out ?_)
  case hB => rw [heap_alloc_if, if_neg (by simp; omega), heap_alloc_if, if_neg (by simp), heap_alloc_if, if_pos rfl]
  rw [← jcells_zero l]
  go_loopw [7] (fun i wr => ∃ k : Nat, k ≤ 8 ∧ i = .int .i64 k ∧ wr = ((w.alloc (.cells (ws l) 54)).alloc (.cells (jcells l 0) 23)).alloc (.cells (jcells l k) 23)) (fun i _ => 8 - (intOf i).toNat)
  case atStart => exact ⟨0, by omega, rfl, rfl⟩
  case round =>
    obtain ⟨k, hk, rfl, rfl⟩ := hrel
    by_cases hlt : k < 8
    · have hb : (k : Int) < 8 := by omega
      have h1 := fun v => run_index_row (P := Tryz.prog) 54 53 8 (ws l) k _ Tryz.underlying54 Tryz.isAgg53 Tryz.sizeOf53 hlt (ws_at l k (by rw [hl'.out]; exact hlt)) v
      have h2 := fun v => slice_at k hlt (w.heap.size + 1 + 1) v
      have h3 := Lib.hid (jl_step l hl'.out k hlt)
      have h4 := Lib.hid (jl_len l hl'.out k hk)
      have h5 := wrapV (l.getD k 0#32)
      revert h1 h3 h5
      generalize l.getD k 0#32 = x
      intro h1 h3 h5
      go_wp2_with fail
      refine (phf_any _ (w.heap.size + 1 + 1) (4 * k) 4 _ x.toNat (jl l k) 23 ?_ (by rw [h4.out]; omega) (by decide)).mono ?_
      · rw [heap_alloc_if, if_pos (by simp)]; rfl
      rintro e w' ⟨rfl, rfl⟩
      rw [setRow_top3, h3.out]
      go_wp2_with fail
      go_roundw
      case rel => exact ⟨k + 1, by omega, by go_num, rfl⟩
      case measure => simp [intOf]; omega
    · obtain rfl : k = 8 := by omega
      have hB1 : (((w.alloc (.cells (ws l) 54)).alloc (.cells (jcells l 0) 23)).alloc (.cells (jcells l 8) 23)).heap[w.heap.size + 1]? = some (.cells (jcells l 0) 23) := by rw [heap_alloc_if, if_neg (by simp), heap_alloc_if, if_pos (by simp)]
      have hB2 : (((w.alloc (.cells (ws l) 54)).alloc (.cells (jcells l 0) 23)).alloc (.cells (jcells l 8) 23)).heap[w.heap.size + 1 + 1]? = some (.cells (jcells l 8) 23) := by rw [heap_alloc_if, if_pos (by simp)]
      have hs : (jcells l 8).size = 32 := by unfold jcells; rw [row_size, jl_len l hl'.out 8 (by omega)]
      have hi : (Tryz.prog.info? 23).map (·.size) = some (jcells l 8).size := by rw [hs]; kernel_rfl
      have ho : (jcells l 0).size = (jcells l 8).size := by rw [hs]; rfl
      have h1 : (jcells l 8).all (·.oneCell') = true := row_one _
      have hf : jcells l 8 = row (bytesOf l) := by
        unfold jcells jl
        rw [List.take_of_length_le (by rw [hl'.out]; omega), pz_full _ _ _ (by rw [bytesOf_length, hl'.out])]
      have H := Lib.hid (And.intro hi (And.intro ho (And.intro h1 hf)))
      clear hs hi ho h1 hf
      go_wp2_with (first
        | (with_reducible refine wpList_load_row rfl 23 (.tmp 3) rfl _ rfl 23 (jcells l 8) _ hB2 Tryz.underlying23 rfl H.out.1 ?_)
        | (with_reducible refine wpList_store_row rfl 23 (.tmp 2) (.tmp 21) rfl _ (jcells l 8) rfl rfl 23 (jcells l 0) hB1 H.out.1 H.out.2.1 H.out.2.2.1 ?_))
      exact bodyPost_row 2 23 rfl _ rfl 23 (jcells l 8) _ (setRow_heap _ _ _ _ _ _ hB1) Tryz.underlying23 rfl H.out.1 rfl ⟨by rw [H.out.2.2.2], below_setRow (by go_grown) (by simp) _⟩
end Go.Proofs.YtfilolmbppjbjaaGreat.sh

namespace Go.Proofs.YtfilolmbppjbjaaGreat.sh
open Go.RowKit

theorem dg_at (n : Nat) (h : n < digs.size) : digs[n] = dg n := by
  unfold dg
  rw [List.getD_eq_getElem?_getD, List.getElem?_eq_getElem (by simpa using h)]
  rfl
theorem digs_lit : ({ data := #[48, 49, 50, 51, 52, 53, 54, 55, 56, 57, 97, 98, 99, 100, 101, 102] } : ByteArray) = digs := rfl
theorem digs_size : digs.size = 16 := rfl

def xcells (d : List UInt8) (k : Nat) : Array Value := row (pz 0 64 (hex (d.take k)))
theorem xcells_zero (d : List UInt8) : xcells d 0 = #[.int .u8 0, .int .u8 0, .int .u8 0, .int .u8 0, .int .u8 0, .int .u8 0, .int .u8 0, .int .u8 0, .int .u8 0, .int .u8 0, .int .u8 0, .int .u8 0, .int .u8 0, .int .u8 0, .int .u8 0, .int .u8 0, .int .u8 0, .int .u8 0, .int .u8 0, .int .u8 0, .int .u8 0, .int .u8 0, .int .u8 0, .int .u8 0, .int .u8 0, .int .u8 0, .int .u8 0, .int .u8 0, .int .u8 0, .int .u8 0, .int .u8 0, .int .u8 0, .int .u8 0, .int .u8 0, .int .u8 0, .int .u8 0, .int .u8 0, .int .u8 0, .int .u8 0, .int .u8 0, .int .u8 0, .int .u8 0, .int .u8 0, .int .u8 0, .int .u8 0, .int .u8 0, .int .u8 0, .int .u8 0, .int .u8 0, .int .u8 0, .int .u8 0, .int .u8 0, .int .u8 0, .int .u8 0, .int .u8 0, .int .u8 0, .int .u8 0, .int .u8 0, .int .u8 0, .int .u8 0, .int .u8 0, .int .u8 0, .int .u8 0, .int .u8 0] := rfl
theorem hex_len (d : List UInt8) (h : d.length = 32) (k : Nat) (hk : k ≤ 32) : (hex (d.take k)).length = 2 * k := by
  rw [hex_length]; simp; omega
theorem xcells_at (d : List UInt8) (h : d.length = 32) (k : Nat) (hk : k ≤ 32) (j : Nat) (hj : j < 64) : ∃ v, (xcells d k)[j]? = some v := by
  unfold xcells
  have := hex_len d h k hk
  exact ⟨_, row_at _ _ (by rw [pz_length]; exact hj; omega)⟩
theorem hex_snoc (l : List UInt8) (x : UInt8) : hex (l ++ [x]) = hex l ++ [dg (x.toNat / 16)] ++ [dg (x.toNat % 16)] := by
  simp [hex]
theorem xcells_step (d : List UInt8) (h : d.length = 32) (k : Nat) (hk : k < 32) (x : UInt8) (hx : d.getD k 0 = x) :
    ((xcells d k).setIfInBounds (2 * k) (.int .u8 ((dg (x.toNat / 16)).toNat : Int))).setIfInBounds (2 * k + 1) (.int .u8 ((dg (x.toNat % 16)).toNat : Int)) = xcells d (k + 1) := by
  have hl := hex_len d h k (by omega)
  unfold xcells
  rw [take_snocD 0 _ _ (by omega), hx, hex_snoc, row_set, row_set, ← hl, pz_set _ _ _ _ (by omega)]
  have e : (hex (d.take k)).length + 1 = (hex (d.take k) ++ [dg (x.toNat / 16)]).length := by simp
  rw [e, pz_set _ _ _ _ (by simp; omega)]
theorem and15b (x : UInt8) : bits .and .u8 (x.toNat : Int) 15 = ((x.toNat % 16 : Nat) : Int) := by
  have := u8_and_nat x.toNat 15 x.toNat_lt (by decide)
  rw [show (15 : Nat) = 2 ^ 4 - 1 by decide, Nat.and_two_pow_sub_one_eq_mod] at this
  exact this

theorem conv_row (v : World) (b n : Nat) (t : TypeId) (l : List UInt8) (hn : l.length = n) (h : v.heap[b]? = some (.cells (row l) t)) :
    (convert 64 9 (.slice (some ⟨b, 0, none⟩) n n)).run Tryz.prog v = .ok (.string ⟨l.toArray⟩) v := by
  subst hn
  refine run_convert_bytes_back (P := Tryz.prog) v 64 9 5 ⟨b, 0, none⟩ _ l Tryz.underlying64 Tryz.underlying5 Tryz.underlying9 (fun j hj => ?_)
  have e : (⟨b, 0, none⟩ : Addr).add j = ⟨b, j, none⟩ := by unfold Addr.add; split <;> simp_all
  rw [e, cell_of_row v _ j _ _ _ h, row_at _ _ hj, List.getD_eq_getElem?_getD, List.getElem?_eq_getElem hj]; rfl

end Go.Proofs.YtfilolmbppjbjaaGreat.sh

namespace Go.Proofs.YtfilolmbppjbjaaGreat.sh
open Go.RowKit

def z8 : List UInt8 := [0, 0, 0, 0, 0, 0, 0, 0]
set_option maxRecDepth 100000 in
theorem z8_zero : row z8 = #[.int .u8 0, .int .u8 0, .int .u8 0, .int .u8 0, .int .u8 0, .int .u8 0, .int .u8 0, .int .u8 0] := rfl
set_option maxRecDepth 100000 in
theorem wrb8 (n : Nat) : wrb 0 8 z8 n = be 8 n := by
  rw [wrb_eq _ _ _ _ (by decide)]
  have : z8.drop (0 + 8) = [] := rfl
  rw [this]; simp
set_option maxRecDepth 100000 in
theorem rep_zero (c : Nat) : Lib.repeatL [0] c = List.replicate c (0 : UInt8) := by
  induction c with
  | zero => rfl
  | succ c ih => show [0] ++ Lib.repeatL [0] c = _; rw [ih]; rfl
set_option maxRecDepth 100000 in
theorem rep_any (c : Nat) (h : c < 64) (w : World) :
    Calls Tryz.prog 53 #[.string ⟨#[0]⟩, .int .i64 (c : Int)] w fun e w' => e = .returned (.string ⟨(List.replicate c (0 : UInt8)).toArray⟩) ∧ Below w.heap.size w w' := by
  have := Tryz.strings_Repeat ⟨#[0]⟩ c w (by omega) (by show 1 * c ≤ _; omega)
  rw [show (ByteArray.mk #[0]).data.toList = [0] from rfl, rep_zero] at this
  exact this
set_option maxRecDepth 100000 in
theorem pad_join (s : ByteArray) (n : Nat) (hn : n = s.size) : s ++ ⟨#[128]⟩ ++ ⟨(List.replicate (zer n) (0 : UInt8)).toArray⟩ ++ ⟨(be 8 (n * 8)).toArray⟩ = ⟨(pad s.data.toList).toArray⟩ := by
  subst hn
  apply ByteArray.ext
  rw [ByteArray.data_append, ByteArray.data_append, ByteArray.data_append]
  apply Array.toList_inj.mp
  simp [pad]
set_option maxRecDepth 100000 in
theorem setRow_top1 (w : World) (c c' : Array Value) (t : TypeId) : (w.alloc (.cells c t)).setRow w.heap.size c' = w.alloc (.cells c' t) := World.setRow_alloc_new w c c' t

/-- A row of bytes of the call's own. -/
structure One (w : World) (l : List UInt8) (v : World) : Prop where
  bel : Below w.heap.size w v
  one : v.heap[w.heap.size]? = some (.cells (row l) 89)
set_option maxRecDepth 100000 in
theorem One.conv {w v : World} {l : List UInt8} (h : One w l v) (hl : l.length = 8) : (convert 64 9 (.slice (some ⟨w.heap.size, 0, none⟩) 8 8)).run Tryz.prog v = .ok (.string ⟨l.toArray⟩) v := conv_row _ _ _ _ _ hl h.one
set_option maxRecDepth 100000 in
theorem One.past {w v v' : World} {l : List UInt8} (h : One w l v) (hb : Below v.heap.size v v') : One w l v' := {
  bel := h.bel.trans (hb.mono h.bel.size)
  one := (hb.block _ (Array.getElem?_eq_some_iff.1 h.one).1).trans h.one }
set_option maxRecDepth 100000 in
theorem rep_in {w : World} {l : List UInt8} (hl : l.length = 8) (c : Nat) (h : c < 64) (v : World) (hv : One w l v) :
    Calls Tryz.prog 53 #[.string ⟨#[0]⟩, .int .i64 (c : Int)] v fun e v' => e = .returned (.string ⟨(List.replicate c (0 : UInt8)).toArray⟩) ∧ One w l v' ∧ (convert 64 9 (.slice (some ⟨w.heap.size, 0, none⟩) 8 8)).run Tryz.prog v' = .ok (.string ⟨l.toArray⟩) v' :=
  (rep_any c h v).mono fun _ _ ⟨he, hb⟩ => ⟨he, hv.past hb, (hv.past hb).conv hl⟩

set_option maxRecDepth 100000 in
set_option maxHeartbeats 400000 in
theorem pad_any (s : ByteArray) (hs : s.size ≤ 4000) (w : World) :
    Calls Tryz.prog 30 #[.string s] w fun e w' => e = .returned (.string ⟨(pad s.data.toList).toArray⟩) ∧ Below w.heap.size w w' := by
  have hj := Lib.hid (pad_join s s.size rfl)
  go_enter Tryz.func30, Tryz.ntmps30
  go_wp2_with fail
  rw [← z8_zero, show ((s.size : Int) * 8) = ((s.size * 8 : Nat) : Int) by omega]
  refine (phf_any _ w.heap.size 0 8 _ (s.size * 8) z8 89 ?_ (by decide) (by decide)).mono ?_
  · rw [heap_alloc_if, if_pos rfl]
  rintro e w' ⟨rfl, rfl⟩
  rw [setRow_top1, wrb8]
  go_wp2_with fail
  rw [show ((119 : Int) - (s.size : Int) % 64) % 64 = ((zer s.size : Nat) : Int) by unfold zer; omega]
  have hz : zer s.size < 64 := Nat.mod_lt _ (by decide)
  have h0 : One w (be 8 (s.size * 8)) (w.alloc (.cells (row (be 8 (s.size * 8))) 89)).drew := ⟨((Below.refl _ _).alloc (Nat.le_refl _) _).drew, by show (w.alloc _).heap[_]? = _; rw [heap_alloc_if, if_pos rfl]⟩
  have hc := h0.conv (be_length _ _)
  have hX : (ByteArray.mk (be 8 (s.size * 8)).toArray).size = 8 := by show (be 8 (s.size * 8)).toArray.size = 8; simp [be_length]
  have hR : (ByteArray.mk (List.replicate (zer s.size) (0 : UInt8)).toArray).size = zer s.size := by show (List.replicate (zer s.size) (0 : UInt8)).toArray.size = _; simp
  have hrep := Lib.hid (rep_in (w := w) (l := be 8 (s.size * 8)) (be_length _ _) (zer s.size) hz)
  have hX1 : (ByteArray.mk (be 8 (s.size * 8)).toArray).size ≤ 8 := by omega
  have hR1 : (ByteArray.mk (List.replicate (zer s.size) (0 : UInt8)).toArray).size ≤ 64 := by omega
  have hone := Lib.hid h0
  clear hX hR h0
  revert hj hc hX1 hR1 hrep
  generalize ByteArray.mk (be 8 (s.size * 8)).toArray = X
  generalize ByteArray.mk (List.replicate (zer s.size) (0 : UInt8)).toArray = R
  intro hj hc hrep hX1 hR1
  have c1 : ¬ 9223372036854775807 < s.size + 1 := by omega
  have c2 : ¬ 9223372036854775807 < s.size + 1 + R.size := by omega
  have c3 : ¬ 9223372036854775807 < s.size + 1 + R.size + X.size := by omega
  go_region_held3 (fun w' => (convert 64 9 (.slice (some ⟨w.heap.size, 0, none⟩) 8 8)).run Tryz.prog w' = .ok (.string X) w')
    (first | exact hc | exact hcR)
    ((go_at_call 53; refine (hrep.out _ hone.out).mono ?_; rintro e vR ⟨rfl, hkR, hcR⟩))
  go_wp2_with fail
  go_ret
  exact ⟨by rw [← hj.out]; rfl, hkR.bel⟩
end Go.Proofs.YtfilolmbppjbjaaGreat.sh

namespace Go.Proofs.YtfilolmbppjbjaaGreat.sh
open Go.RowKit

def fr (s : ByteArray) (z b3 : Nat) (x4 x5 x10 x11 x12 x13 : Value) : Act :=
  { tmps := #[.string s, undef, .pointer (some ⟨z, 0, none⟩), .pointer (some ⟨b3, 0, none⟩), x4, x5, undef, undef, undef, .agg (us PR), x10, x11, x12, x13, undef, undef, undef, undef, undef, undef, undef, undef, undef, undef, undef, undef, undef, undef, undef, undef, undef, undef, undef, undef, undef, undef, undef, undef, undef], defers := [] }
set_option maxRecDepth 100000 in
theorem zero39 (w : World) : (zeroValue 54).run Tryz.prog w = .ok (.agg (hcells 0)) w := Tryz.zeroValue54 w
set_option maxRecDepth 100000 in
theorem zero41 (w : World) : (zeroValue 56).run Tryz.prog w = .ok (.agg (kcells 0)) w := Tryz.zeroValue56 w
set_option maxRecDepth 100000 in
theorem ent28 : ∀ args w, (callFunc 28 args).run Tryz.prog w = .ok (.enter 28 args) w := enters_of Tryz.func28 (by kernel_rfl) rfl
set_option maxRecDepth 100000 in
theorem ent29 : ∀ args w, (callFunc 29 args).run Tryz.prog w = .ok (.enter 29 args) w := enters_of Tryz.func29 (by kernel_rfl) rfl

set_option maxRecDepth 100000 in
theorem firsts {ops : Array Oper} {Q : Exit → Act → World → Prop} {id : Nat} (s : ByteArray) (w v : World) (z b3 : Nat) (D : Array Value) (hzb : z < b3)
    (o0 o1 o2 o3 o4 o5 o6 o7 : Oper) (hsz : ops.size = 8)
    (h0 : ops[0]? = some o0) (h1 : ops[1]? = some o1) (h2 : ops[2]? = some o2) (h3 : ops[3]? = some o3) (h4 : ops[4]? = some o4) (h5 : ops[5]? = some o5) (h6 : ops[6]? = some o6) (h7 : ops[7]? = some o7)
    (p0 : o0.op = .load 51 (.tmp 3)) (p1 : o1.op = .call { callee := .value (.func 28), args := #[.tmp 10], argTypes := #[51] }) (p2 : o2.op = .load 51 (.tmp 3)) (p3 : o3.op = .call { callee := .value (.func 29), args := #[.tmp 12], argTypes := #[51] })
    (p4 : o4.op = .alloc 54) (p5 : o5.op = .alloc 56) (p6 : o6.op = .store 54 (.tmp 4) (.tmp 11)) (p7 : o7.op = .store 56 (.tmp 5) (.tmp 13))
    (d0 : o0.dst = some 10) (d1 : o1.dst = some 11) (d2 : o2.dst = some 12) (d3 : o3.dst = some 13) (d4 : o4.dst = some 4) (d5 : o5.dst = some 5) (d6 : o6.dst = none) (d7 : o7.dst = none)
    (g0 : o0.guard = none) (g1 : o1.guard = none) (g2 : o2.guard = none) (g3 : o3.guard = none) (g4 : o4.guard = none) (g5 : o5.guard = none) (g6 : o6.guard = none) (g7 : o7.guard = none)
    (e10 : edgeB ops 1 0 = true) (e32 : edgeB ops 3 2 = true) (e61 : edgeB ops 6 1 = true) (e64 : edgeB ops 6 4 = true) (e65 : edgeB ops 6 5 = true) (e73 : edgeB ops 7 3 = true) (e75 : edgeB ops 7 5 = true) (e74 : edgeB ops 7 4 = true)
    (n0 : onlyB ops 0 [] = true) (n1 : onlyB ops 1 [0] = true) (n2 : onlyB ops 2 [] = true) (n3 : onlyB ops 3 [1, 2] = true) (n4 : onlyB ops 4 [] = true) (n5 : onlyB ops 5 [] = true) (n6 : onlyB ops 6 [0, 1, 2, 3, 4, 5] = true) (n7 : onlyB ops 7 [0, 1, 2, 3, 4, 5, 6] = true)
    (hbel : Below z w v) (hsrc : v.heap[b3]? = some (.cells (us PR) 51)) (hres : v.heap[z]? = some (.cells D 23))
    (hQ : ∀ b4 b5 v', Below z w v' → v'.heap[z]? = some (.cells D 23) → v'.heap[b4]? = some (.cells (ws H0.toL) 54) → v'.heap[b5]? = some (.cells (ws K0) 56) → z < b4 → z < b5 → b4 ≠ b5 →
      Q .normal (fr s z b3 (.pointer (some ⟨b4, 0, none⟩)) (.pointer (some ⟨b5, 0, none⟩)) (.agg (us PR)) (.agg (ws H0.toL)) (.agg (us PR)) (.agg (ws K0))) v') :
    (Code.region id ops true).wp Tryz.prog Q (fr s z b3 undef undef undef undef undef undef) v := by
  refine wp_region_any (by kernel_rfl) ?_
  rw [hsz]
  refine wpAny_inv (fun listed a v => ∃ l0 l1 l2 l3 l4 l5 l6 l7 x4 x5 x10 x11 x12 x13 b4 b5, listed = #[l0, l1, l2, l3, l4, l5, l6, l7] ∧ a = fr s z b3 x4 x5 x10 x11 x12 x13 ∧
    Two w z b3 (us PR) (ws H0.toL) (ws K0) (hcells 0) (kcells 0) D 51 54 56 23 l0 l1 l2 l3 l4 l5 l6 l7 x4 x5 x10 x11 x12 x13 b4 b5 v) ?_ ?_ _ _ _ _ ?_ ?_
  · rintro listed a v ⟨l0, l1, l2, l3, l4, l5, l6, l7, x4, x5, x10, x11, x12, x13, b4, b5, rfl, rfl, T⟩ i hi
    have hlt := ready_lt hi
    have hno := ready_not hi
    rw [hsz] at hlt
    obtain rfl | rfl | rfl | rfl | rfl | rfl | rfl | rfl : i = 0 ∨ i = 1 ∨ i = 2 ∨ i = 3 ∨ i = 4 ∨ i = 5 ∨ i = 6 ∨ i = 7 := by omega
    · refine wpOp_plain h0 g0 (wp_load_row 51 _ p0 b3 rfl 51 (us PR) _ T.src Tryz.underlying51 rfl (by kernel_rfl) ?_)
      rw [d0]
      exact ⟨_, _, _, _, _, _, _, _, x4, x5, _, x11, x12, x13, b4, b5, rfl, rfl, { T with e0 := fun _ => rfl }⟩
    · have k0 : l0 = true := ready_edge hi e10
      refine wpOp_plain h1 g1 (wp_call_fn 28 10 51 p1 ent28 _ (T.e0 k0) ((start_any v).mono ?_))
      rintro e v' ⟨rfl, hb⟩
      refine ⟨_, rfl, ?_⟩
      rw [d1]
      exact ⟨_, _, _, _, _, _, _, _, x4, x5, x10, _, x12, x13, b4, b5, rfl, rfl, { T.past hb with e1 := fun _ => rfl }⟩
    · refine wpOp_plain h2 g2 (wp_load_row 51 _ p2 b3 rfl 51 (us PR) _ T.src Tryz.underlying51 rfl (by kernel_rfl) ?_)
      rw [d2]
      exact ⟨_, _, _, _, _, _, _, _, x4, x5, x10, x11, _, x13, b4, b5, rfl, rfl, { T with e2 := fun _ => rfl }⟩
    · have k2 : l2 = true := ready_edge hi e32
      refine wpOp_plain h3 g3 (wp_call_fn 29 12 51 p3 ent29 _ (T.e2 k2) ((keys_any v).mono ?_))
      rintro e v' ⟨rfl, hb⟩
      refine ⟨_, rfl, ?_⟩
      rw [d3]
      exact ⟨_, _, _, _, _, _, _, _, x4, x5, x10, x11, x12, _, b4, b5, rfl, rfl, { T.past hb with e3 := fun _ => rfl }⟩
    · have k4 : l4 = false := hno
      have k6 : l6 = false := by cases h : l6 with | false => rfl | true => rw [T.c6 h] at k4; cases k4
      refine wpOp_plain h4 g4 (wp_alloc_row 54 p4 (hcells 0) (zero39 v) ?_)
      rw [d4]
      have hb : Below v.heap.size v (v.alloc (.cells (hcells 0) 54)) := (Below.refl _ _).alloc (Nat.le_refl _) _
      refine ⟨_, _, _, _, _, _, _, _, _, x5, x10, x11, x12, x13, v.heap.size, b5, rfl, rfl, { T.past hb with e4 := fun _ => ⟨rfl, ?_, lt_of_some T.src⟩, ne := fun _ k => ?_, c6 := fun _ => rfl }⟩
      · rw [k6, heap_alloc_if, if_pos rfl]; rfl
      · have := lt_of_some (T.e5 k).2.1; omega
    · have k5 : l5 = false := hno
      have k7 : l7 = false := by cases h : l7 with | false => rfl | true => rw [T.c7 h] at k5; cases k5
      refine wpOp_plain h5 g5 (wp_alloc_row 56 p5 (kcells 0) (zero41 v) ?_)
      rw [d5]
      have hb : Below v.heap.size v (v.alloc (.cells (kcells 0) 56)) := (Below.refl _ _).alloc (Nat.le_refl _) _
      refine ⟨_, _, _, _, _, _, _, _, x4, _, x10, x11, x12, x13, b4, v.heap.size, rfl, rfl, { T.past hb with e5 := fun _ => ⟨rfl, ?_, lt_of_some T.src⟩, ne := fun k _ => ?_, c7 := fun _ => rfl }⟩
      · rw [k7, heap_alloc_if, if_pos rfl]; rfl
      · have := lt_of_some (T.e4 k).2.1; omega
    · have k6 : l6 = false := hno
      have k1 : l1 = true := ready_edge hi e61
      have k4 : l4 = true := ready_edge hi e64
      have k5 : l5 = true := ready_edge hi e65
      obtain ⟨q1, q2, q3⟩ := T.e4 k4
      obtain ⟨r1, r2, r3⟩ := T.e5 k5
      rw [k6] at q2
      refine wpOp_plain h6 g6 (wp_store_row 54 _ _ p6 b4 (ws H0.toL) q1 (T.e1 k1) 54 (hcells 0) q2 (by kernel_rfl) (by kernel_rfl) (by kernel_rfl) ?_)
      rw [d6]
      refine ⟨_, _, _, _, _, _, _, _, x4, x5, x10, x11, x12, x13, b4, b5, rfl, rfl, { T with bel := below_setRow T.bel (by omega) _, src := ?_, res := ?_, e4 := fun _ => ⟨q1, setRow_heap _ _ _ _ _ _ q2, q3⟩, e5 := fun _ => ⟨r1, ?_, r3⟩, c6 := fun _ => k4 }⟩
      · rw [setRow_other _ _ _ _ (by omega)]; exact T.src
      · rw [setRow_other _ _ _ _ (by omega)]; exact T.res
      · rw [setRow_other _ _ _ _ (Ne.symm (T.ne k4 k5))]; exact r2
    · have k7 : l7 = false := hno
      have k3 : l3 = true := ready_edge hi e73
      have k4 : l4 = true := ready_edge hi e74
      have k5 : l5 = true := ready_edge hi e75
      obtain ⟨q1, q2, q3⟩ := T.e4 k4
      obtain ⟨r1, r2, r3⟩ := T.e5 k5
      rw [k7] at r2
      refine wpOp_plain h7 g7 (wp_store_row 56 _ _ p7 b5 (ws K0) r1 (T.e3 k3) 56 (kcells 0) r2 (by kernel_rfl) (by kernel_rfl) (by kernel_rfl) ?_)
      rw [d7]
      refine ⟨_, _, _, _, _, _, _, _, x4, x5, x10, x11, x12, x13, b4, b5, rfl, rfl, { T with bel := below_setRow T.bel (by omega) _, src := ?_, res := ?_, e5 := fun _ => ⟨r1, setRow_heap _ _ _ _ _ _ r2, r3⟩, e4 := fun _ => ⟨q1, ?_, q3⟩, c7 := fun _ => k5 }⟩
      · rw [setRow_other _ _ _ _ (by omega)]; exact T.src
      · rw [setRow_other _ _ _ _ (by omega)]; exact T.res
      · rw [setRow_other _ _ _ _ (T.ne k4 k5)]; exact q2
  · rintro listed a v ⟨l0, l1, l2, l3, l4, l5, l6, l7, x4, x5, x10, x11, x12, x13, b4, b5, rfl, rfl, T⟩ hr
    have k0 : l0 = true := done_of hr 0 _ n0 (by simp)
    have k2 : l2 = true := done_of hr 2 _ n2 (by simp)
    have k4 : l4 = true := done_of hr 4 _ n4 (by simp)
    have k5 : l5 = true := done_of hr 5 _ n5 (by simp)
    have k1 : l1 = true := done_of hr 1 _ n1 (by simp [k0])
    have k3 : l3 = true := done_of hr 3 _ n3 (by simp [k1, k2])
    have k6 : l6 = true := done_of hr 6 _ n6 (by simp [k0, k1, k2, k3, k4, k5])
    have k7 : l7 = true := done_of hr 7 _ n7 (by simp [k0, k1, k2, k3, k4, k5, k6])
    obtain ⟨q1, q2, q3⟩ := T.e4 k4
    obtain ⟨r1, r2, r3⟩ := T.e5 k5
    rw [k6] at q2
    rw [k7] at r2
    rw [q1, r1, T.e0 k0, T.e1 k1, T.e2 k2, T.e3 k3]
    exact hQ b4 b5 v T.bel T.res q2 r2 (by omega) (by omega) (T.ne k4 k5)
  · unfold todo; rw [hsz]; decide
  · refine ⟨false, false, false, false, false, false, false, false, undef, undef, undef, undef, undef, undef, 0, 0, rfl, rfl, ?_⟩
    exact { bel := hbel.drew, src := hsrc, res := hres, e0 := nofun, e1 := nofun, e2 := nofun, e3 := nofun, e4 := nofun, e5 := nofun, ne := nofun, c6 := nofun, c7 := nofun }
end Go.Proofs.YtfilolmbppjbjaaGreat.sh

namespace Go.Proofs.YtfilolmbppjbjaaGreat.sh
open Go.RowKit

def d0 : Array Value := row (List.replicate 32 0)
set_option maxRecDepth 100000 in
theorem d0_zero : d0 = #[.int .u8 0, .int .u8 0, .int .u8 0, .int .u8 0, .int .u8 0, .int .u8 0, .int .u8 0, .int .u8 0, .int .u8 0, .int .u8 0, .int .u8 0, .int .u8 0, .int .u8 0, .int .u8 0, .int .u8 0, .int .u8 0, .int .u8 0, .int .u8 0, .int .u8 0, .int .u8 0, .int .u8 0, .int .u8 0, .int .u8 0, .int .u8 0, .int .u8 0, .int .u8 0, .int .u8 0, .int .u8 0, .int .u8 0, .int .u8 0, .int .u8 0, .int .u8 0] := rfl

/-- The blocks of the call. -/
structure OfW (w : World) (z b4 b5 : Nat) (c : Array Value) (v : World) : Prop where
  bel : Below z w v
  res : v.heap[z]? = some (.cells d0 23)
  sum : v.heap[b4]? = some (.cells c 54)
  key : v.heap[b5]? = some (.cells (ws K0) 56)
  z4 : z < b4
  z5 : z < b5
  ne : b4 ≠ b5
set_option maxRecDepth 100000 in
theorem OfW.past {w v v' : World} {z b4 b5 : Nat} {c : Array Value} (h : OfW w z b4 b5 c v) (hb : Below v.heap.size v v') : OfW w z b4 b5 c v' :=
  { h with bel := h.bel.trans (hb.mono (Nat.le_of_lt (lt_of_some h.res))), res := (hb.block _ (lt_of_some h.res)).trans h.res, sum := (hb.block _ (lt_of_some h.sum)).trans h.sum, key := (hb.block _ (lt_of_some h.key)).trans h.key }
set_option maxRecDepth 100000 in
theorem OfW.drew {w v : World} {z b4 b5 : Nat} {c : Array Value} (h : OfW w z b4 b5 c v) : OfW w z b4 b5 c v.drew := { h with bel := h.bel.drew, res := h.res, sum := h.sum, key := h.key }
set_option maxRecDepth 100000 in
theorem OfW.set {w v : World} {z b4 b5 : Nat} {c : Array Value} (h : OfW w z b4 b5 c v) (k : Nat) (x : Value) : OfW w z b4 b5 (c.setIfInBounds k x) (v.setCell ⟨b4, k, none⟩ x) := by
  rw [setCell_eq_setRow _ _ _ _ _ _ _ h.sum]
  exact { h with bel := below_setRow h.bel (Nat.le_of_lt h.z4) _, res := by rw [setRow_other _ _ _ _ (by have := h.z4; omega)]; exact h.res, sum := setRow_heap _ _ _ _ _ _ h.sum, key := by rw [setRow_other _ _ _ _ (Ne.symm h.ne)]; exact h.key }
set_option maxRecDepth 100000 in
theorem OfW.at {w v : World} {z b4 b5 : Nat} {c : Array Value} (h : OfW w z b4 b5 c v) (j : Nat) {x : Value} (hx : c[j]? = some x) : v.cell? ⟨b4, j, none⟩ = some x := by
  rw [cell_of_row v b4 j _ _ _ h.sum]; exact hx

/-- The sums, as far as they are made. -/
def asum (st m : St) (k : Nat) : Array Value := ws ((addS st m).toL.take k ++ st.toL.drop k)
set_option maxRecDepth 100000 in
theorem asum_zero (st m : St) : asum st m 0 = c8 st := rfl
set_option maxRecDepth 100000 in
theorem asum_end (st m : St) : asum st m 8 = c8 (addS st m) := rfl
set_option maxRecDepth 100000 in
theorem toL_len (st : St) : st.toL.length = 8 := rfl
set_option maxRecDepth 100000 in
theorem asum_at (st m : St) (k : Nat) (h : k < 8) : (asum st m k)[k]? = some (.int .u32 (V (st.toL.getD k 0#32))) := by
  obtain rfl | rfl | rfl | rfl | rfl | rfl | rfl | rfl : k = 0 ∨ k = 1 ∨ k = 2 ∨ k = 3 ∨ k = 4 ∨ k = 5 ∨ k = 6 ∨ k = 7 := by omega
  all_goals rfl
set_option maxRecDepth 100000 in
theorem c8_at (m : St) (k : Nat) (h : k < 8) : (c8 m)[k]? = some (.int .u32 (V (m.toL.getD k 0#32))) := by
  obtain rfl | rfl | rfl | rfl | rfl | rfl | rfl | rfl : k = 0 ∨ k = 1 ∨ k = 2 ∨ k = 3 ∨ k = 4 ∨ k = 5 ∨ k = 6 ∨ k = 7 := by omega
  all_goals rfl
set_option maxRecDepth 100000 in
theorem asum_set (st m : St) (k : Nat) (h : k < 8) : (asum st m k).setIfInBounds k (.int .u32 (V (st.toL.getD k 0#32 + m.toL.getD k 0#32))) = asum st m (k + 1) := by
  obtain rfl | rfl | rfl | rfl | rfl | rfl | rfl | rfl : k = 0 ∨ k = 1 ∨ k = 2 ∨ k = 3 ∨ k = 4 ∨ k = 5 ∨ k = 6 ∨ k = 7 := by omega
  all_goals rfl

set_option maxRecDepth 100000 in
theorem extract_list (r : ByteArray) (i j : Nat) : (r.extract i j).data.toList = (r.data.toList.take j).drop i := by
  rw [ByteArray.data_extract]; simp [List.drop_take, Array.toList_extract]
set_option maxRecDepth 100000 in
theorem size_list (r : ByteArray) : r.data.toList.length = r.size := by simp
set_option maxRecDepth 100000 in
theorem comp_blk (p : List UInt8) (j : Nat) (r : ByteArray) (hr : r.data.toList = p.drop (64 * j)) (st : St) :
    addS st (mix K0 (sch (gof (r.extract 0 64)) 64) st 64) = comp st (fun i => p.getD (64 * j + i) 0) := by
  unfold comp
  rw [sch_ext (h := fun i => p.getD (64 * j + i) 0)]
  intro i hi
  unfold gof
  rw [extract_list, hr]
  simp only [List.drop_zero]
  rw [List.getD_eq_getElem?_getD, List.getD_eq_getElem?_getD, List.getElem?_take_of_lt hi, List.getElem?_drop]

set_option maxRecDepth 100000 in
theorem OfW.all8 {w v : World} {z b4 b5 : Nat} {a b c d e f g h : BitVec 32} (H : OfW w z b4 b5 (c8 ⟨a, b, c, d, e, f, g, h⟩) v) :
    v.cell? ⟨b4, 0, none⟩ = some (.int .u32 (V a)) ∧ v.cell? ⟨b4, 1, none⟩ = some (.int .u32 (V b)) ∧ v.cell? ⟨b4, 2, none⟩ = some (.int .u32 (V c)) ∧ v.cell? ⟨b4, 3, none⟩ = some (.int .u32 (V d)) ∧
      v.cell? ⟨b4, 4, none⟩ = some (.int .u32 (V e)) ∧ v.cell? ⟨b4, 5, none⟩ = some (.int .u32 (V f)) ∧ v.cell? ⟨b4, 6, none⟩ = some (.int .u32 (V g)) ∧ v.cell? ⟨b4, 7, none⟩ = some (.int .u32 (V h)) :=
  ⟨H.at 0 rfl, H.at 1 rfl, H.at 2 rfl, H.at 3 rfl, H.at 4 rfl, H.at 5 rfl, H.at 6 rfl, H.at 7 rfl⟩
set_option maxRecDepth 100000 in
theorem sched_in {w : World} {z b4 b5 : Nat} {a b c d e f g h : BitVec 32} (blk : ByteArray) (hb : blk.size = 64) (v : World) (hv : OfW w z b4 b5 (c8 ⟨a, b, c, d, e, f, g, h⟩) v) :
    Calls Tryz.prog 32 #[.string blk] v fun e' v' => e' = .returned (.agg (ws (sch (gof blk) 64))) ∧ OfW w z b4 b5 (c8 ⟨a, b, c, d, e, f, g, h⟩) v' ∧
      (v'.cell? ⟨b4, 0, none⟩ = some (.int .u32 (V a)) ∧ v'.cell? ⟨b4, 1, none⟩ = some (.int .u32 (V b)) ∧ v'.cell? ⟨b4, 2, none⟩ = some (.int .u32 (V c)) ∧ v'.cell? ⟨b4, 3, none⟩ = some (.int .u32 (V d)) ∧
      v'.cell? ⟨b4, 4, none⟩ = some (.int .u32 (V e)) ∧ v'.cell? ⟨b4, 5, none⟩ = some (.int .u32 (V f)) ∧ v'.cell? ⟨b4, 6, none⟩ = some (.int .u32 (V g)) ∧ v'.cell? ⟨b4, 7, none⟩ = some (.int .u32 (V h))) :=
  (schedule_any blk hb v).mono fun _ _ ⟨he, hb⟩ => ⟨he, hv.past hb, (hv.past hb).all8⟩
set_option maxRecDepth 100000 in
theorem mixed_in {w : World} {z b4 b5 : Nat} (wl : List (BitVec 32)) (hl : wl.length = 64) (st : St) (v : World) (hv : OfW w z b4 b5 (c8 st) v) :
    Calls Tryz.prog 31 #[.agg #[.int .u32 (V st.a), .int .u32 (V st.b), .int .u32 (V st.c), .int .u32 (V st.d), .int .u32 (V st.e), .int .u32 (V st.f), .int .u32 (V st.g), .int .u32 (V st.h)], .pointer (some ⟨b5, 0, none⟩), .agg (ws wl)] v fun e' v' => e' = .returned (.agg (c8 (mix K0 wl st 64))) ∧ OfW w z b4 b5 (c8 st) v' ∧
      (v'.cell? ⟨b4, 0, none⟩ = some (.int .u32 (V st.a)) ∧ v'.cell? ⟨b4, 1, none⟩ = some (.int .u32 (V st.b)) ∧ v'.cell? ⟨b4, 2, none⟩ = some (.int .u32 (V st.c)) ∧ v'.cell? ⟨b4, 3, none⟩ = some (.int .u32 (V st.d)) ∧
      v'.cell? ⟨b4, 4, none⟩ = some (.int .u32 (V st.e)) ∧ v'.cell? ⟨b4, 5, none⟩ = some (.int .u32 (V st.f)) ∧ v'.cell? ⟨b4, 6, none⟩ = some (.int .u32 (V st.g)) ∧ v'.cell? ⟨b4, 7, none⟩ = some (.int .u32 (V st.h))) :=
  (mixed_any st K0 wl b5 rfl hl v (lt_of_some hv.key) hv.key).mono fun _ _ ⟨he, hb⟩ => ⟨he, hv.past hb, (hv.past hb).all8⟩

def strLen : Value → Nat
  | .string s => s.size
  | _ => 0

set_option maxHeartbeats 1000000 in
set_option maxRecDepth 100000 in
theorem of_any (s : ByteArray) (hs : s.size ≤ 4000) (w : World) :
    Calls Tryz.prog 18 #[.string s] w fun e w' => e = .returned (.agg (row (sha s.data.toList))) ∧ Below w.heap.size w w' := by
  go_enter Tryz.func18, Tryz.ntmps18
  go_wp2_with fail
  rw [← d0_zero]
  refine (primes_any _).mono ?_
  rintro e w1 ⟨rfl, h1⟩
  go_wp2_with (with_reducible refine wpList_store_row rfl 51 (.tmp 3) (.tmp 9) rfl _ (us PR) rfl rfl 51 (fcells []) ?hg (by kernel_rfl) (by kernel_rfl) (by kernel_rfl) ?_)
  case hg => rw [fcells_zero, heap_alloc_if, if_pos rfl]
  rw [World.setRow_alloc_new]
  have hz1 : w.heap.size < w1.heap.size := by have := h1.size; simp at this; omega
  have hb1 : Below w.heap.size w w1 := ((Below.refl _ _).alloc (Nat.le_refl _) _).trans (h1.mono (by simp))
  have hr1 : (w1.alloc (.cells (us PR) 51)).heap[w.heap.size]? = some (.cells d0 23) := by
    rw [heap_alloc_if, if_neg (by omega), h1.block _ (by simp), heap_alloc_if, if_pos rfl]
  have hs1 : (w1.alloc (.cells (us PR) 51)).heap[w1.heap.size]? = some (.cells (us PR) 51) := by rw [heap_alloc_if, if_pos rfl]
  refine firsts s w _ w.heap.size w1.heap.size d0 hz1 _ _ _ _ _ _ _ _ rfl rfl rfl rfl rfl rfl rfl rfl rfl rfl rfl rfl rfl rfl rfl rfl rfl rfl rfl rfl rfl rfl rfl rfl rfl rfl rfl rfl rfl rfl rfl rfl rfl (by kernel_rfl) (by kernel_rfl) (by kernel_rfl) (by kernel_rfl) (by kernel_rfl) (by kernel_rfl) (by kernel_rfl) (by kernel_rfl) (by kernel_rfl) (by kernel_rfl) (by kernel_rfl) (by kernel_rfl) (by kernel_rfl) (by kernel_rfl) (by kernel_rfl) (by kernel_rfl) (hb1.alloc (by omega) _) hs1 hr1 ?_
  intro b4 b5 v hv1 hv2 hv3 hv4 hv5 hv6 hv7
  have hW := Lib.hid (OfW.mk hv1 hv2 hv3 hv4 hv5 hv6 hv7)
  clear hv1 hv2 hv3 hv4 hv5 hv6 hv7 hs1 hr1 hb1 hz1 h1
  unfold fr
  go_wp2_with fail
  refine (pad_any s hs _).mono ?_
  rintro e v1 ⟨rfl, hb⟩
  have hW1 := Lib.hid (hW.out.past hb)
  clear hW hb
  go_wp2_with fail
  obtain ⟨P0, hP⟩ : ∃ P0, ByteArray.mk (pad s.data.toList).toArray = P0 := ⟨_, rfl⟩
  have hP1 : P0.data.toList = pad s.data.toList := by rw [← hP]
  have hsz : P0.size ≤ 4200 := by
    rw [← size_list, hP1, pad_length, size_list]
    unfold zer; omega
  have hmod := pad_mod s.data.toList
  rw [← hP1, size_list] at hmod
  have hsha : sha s.data.toList = bytesOf (stt (pad s.data.toList) (P0.size / 64)).toL := by unfold sha; rw [← hP1, size_list]
  rw [hP]
  have H := Lib.hid (And.intro hP1 (And.intro hmod hsha))
  clear hP hP1 hmod hsha
  go_loopw [6] (fun r wr => ∃ (j : Nat) (rb : ByteArray), 64 * j + rb.size = P0.size ∧ Hid (rb.data.toList = (pad s.data.toList).drop (64 * j)) ∧ r = .string rb ∧ Hid (OfW w w.heap.size b4 b5 (c8 (stt (pad s.data.toList) j)) wr)) (fun r _ => strLen r)
  case atStart => exact ⟨0, P0, by omega, by show _ = _; rw [H.out.1]; simp, rfl, hW1.out⟩
  case round =>
    obtain ⟨j, rb, hjr, hrb, rfl, hO⟩ := hrel
    rename_i wr
    have hjr' := Lib.hid hjr
    by_cases hlt : 64 ≤ rb.size
    · have hlt' : (64 : Int) ≤ (rb.size : Int) := by omega
      have hrs : rb.size ≤ 4200 := by omega
      obtain ⟨st, hst⟩ : ∃ st, stt (pad s.data.toList) j = st := ⟨_, rfl⟩
      rw [hst] at hO
      have hst' := Lib.hid hst
      have hbs : (rb.extract 0 64).size = 64 := by rw [ByteArray.size_extract]; omega
      have hbs' := Lib.hid hbs
      have hcmp := Lib.hid (comp_blk (pad s.data.toList) j rb hrb.out st)
      obtain ⟨m, hm⟩ : ∃ m, mix K0 (sch (gof (rb.extract 0 64)) 64) st 64 = m := ⟨_, rfl⟩
      rw [hm] at hcmp
      have hm' := Lib.hid hm
      obtain ⟨a, b, c, d, e, f, g, hh⟩ := st
      have hq := hO.out.drew.all8
      have hsc := Lib.hid (fun v hv => sched_in (w := w) (z := w.heap.size) (b4 := b4) (b5 := b5) (a := a) (b := b) (c := c) (d := d) (e := e) (f := f) (g := g) (h := hh) (rb.extract 0 64) hbs v hv)
      have hmx := Lib.hid (fun v hv => mixed_in (w := w) (z := w.heap.size) (b4 := b4) (b5 := b5) (sch (gof (rb.extract 0 64)) 64) (sch_length _ _) ⟨a, b, c, d, e, f, g, hh⟩ v hv)
      rw [hm] at hmx
      clear hst hbs hm hjr
      obtain ⟨q0, q1, q2, q3, q4, q5, q6, q7⟩ := hq
      go_wp2_with fail
      go_region_held3 (fun w' => w'.cell? ⟨b4, 0, none⟩ = some (.int .u32 (V a)) ∧ w'.cell? ⟨b4, 1, none⟩ = some (.int .u32 (V b)) ∧ w'.cell? ⟨b4, 2, none⟩ = some (.int .u32 (V c)) ∧ w'.cell? ⟨b4, 3, none⟩ = some (.int .u32 (V d)) ∧ w'.cell? ⟨b4, 4, none⟩ = some (.int .u32 (V e)) ∧ w'.cell? ⟨b4, 5, none⟩ = some (.int .u32 (V f)) ∧ w'.cell? ⟨b4, 6, none⟩ = some (.int .u32 (V g)) ∧ w'.cell? ⟨b4, 7, none⟩ = some (.int .u32 (V hh)))
        (first | exact ⟨q0, q1, q2, q3, q4, q5, q6, q7⟩ | exact hA8 | exact hB8)
        (first
        | (go_at_call 32; refine (hsc.out _ ?_).mono ?_; exact hO.out.drew; rintro ee vA ⟨rfl, hOA, hA8⟩)
        | (go_at_call 31; refine (hmx.out _ ?_).mono ?_; exact hOA; rintro ee vB ⟨rfl, hOB, hB8⟩))
      have hOB' := Lib.hid hOB
      clear hOB hOA hO hA8 hB8 q0 q1 q2 q3 q4 q5 q6 q7 hsc hmx
      go_wp2_with fail
      go_loopw [26] (fun i wr => ∃ k : Nat, k ≤ 8 ∧ i = .int .i64 k ∧ Hid (OfW w w.heap.size b4 b5 (asum ⟨a, b, c, d, e, f, g, hh⟩ m k) wr)) (fun i _ => 8 - (intOf i).toNat)
      case atStart => exact ⟨0, by omega, rfl, hOB'.out⟩
      case round =>
        obtain ⟨k, hk, rfl, hk2⟩ := hrel
        rename_i wq
        by_cases hk3 : k < 8
        · have hb : (k : Int) < 8 := by omega
          have h1 := fun v => run_index_row (P := Tryz.prog) 54 53 8 (c8 m) k _ Tryz.underlying54 Tryz.isAgg53 Tryz.sizeOf53 hk3 (c8_at m k hk3) v
          have h2 := hk2.out.at k (asum_at _ m k hk3)
          have h3 := frozen_row hk2.out.sum k
          have h4 := Lib.hid (asum_set ⟨a, b, c, d, e, f, g, hh⟩ m k hk3)
          have h5 := addV ((St.mk a b c d e f g hh).toL.getD k 0#32) (m.toL.getD k 0#32)
          revert h1 h2 h4 h5
          generalize (St.mk a b c d e f g hh).toL.getD k 0#32 = x
          generalize m.toL.getD k 0#32 = y
          intro h1 h2 h4 h5
          go_wp2_with fail
          go_roundw
          case rel =>
            refine ⟨k + 1, by omega, by go_num, ?_⟩
            rw [← h4.out]
            exact hk2.out.set k _
          case measure => simp [intOf]; omega
        · obtain rfl : k = 8 := by omega
          go_wp2_with fail
          go_roundw
          case rel =>
            refine ⟨j + 1, rb.extract 64 rb.size, ?_, ?_, rfl, ?_⟩
            · rw [ByteArray.size_extract]; have := hjr'.out; omega
            · show _ = _
              rw [extract_list, List.take_of_length_le (by rw [size_list]; omega), hrb.out, List.drop_drop, show 64 * (j + 1) = 64 * j + 64 by omega]
            · have := hk2.out
              rw [asum_end, hcmp.out, ← hst'.out] at this
              exact this
          case measure => simp [strLen]; omega
    · have hje : j = P0.size / 64 := by have := H.out.2.1; omega
      obtain ⟨st, hst⟩ : ∃ st, stt (pad s.data.toList) j = st := ⟨_, rfl⟩
      rw [hst] at hO
      have hfin : sha s.data.toList = bytesOf st.toL := by rw [H.out.2.2, ← hje, hst]
      have hfin' := Lib.hid hfin
      have hi : Hid ((Tryz.prog.info? 54).map (·.size) = some (c8 st).size) := by show _ = _; kernel_rfl
      have hlt' : ¬ (64 : Int) ≤ (rb.size : Int) := by omega
      have hg := hO.out.sum
      clear hjr hst hje hfin
      go_wp2_with (with_reducible refine wpList_load_row rfl 54 (.tmp 4) rfl _ rfl 54 (c8 st) _ hg Tryz.underlying54 rfl hi.out ?_)
      refine (joined_any st.toL (toL_len st) _).mono ?_
      rintro e v2 ⟨rfl, hb⟩
      have hO2 := hO.out.past hb
      have hr2 := hO2.res
      have hi2 : Hid ((Tryz.prog.info? 23).map (·.size) = some (row (bytesOf st.toL)).size) := by show _ = _; rw [row_size, bytesOf_length, toL_len]; kernel_rfl
      have ho2 : Hid (d0.size = (row (bytesOf st.toL)).size) := by show _ = _; rw [row_size, bytesOf_length, toL_len]; kernel_rfl
      have hO2' := Lib.hid hO2
      clear hO2 hg
      go_wp2_with (with_reducible refine wpList_store_row rfl 23 (.tmp 2) (.tmp 38) rfl _ (row (bytesOf st.toL)) rfl rfl 23 d0 hr2 hi2.out ho2.out (row_one _) ?_)
      exact bodyPost_row 2 23 rfl _ rfl 23 (row (bytesOf st.toL)) _ (setRow_heap _ _ _ _ _ _ hr2) Tryz.underlying23 rfl hi2.out rfl ⟨by rw [hfin'.out], below_setRow hO2'.out.bel (Nat.le_refl _) _⟩
end Go.Proofs.YtfilolmbppjbjaaGreat.sh

namespace Go.Proofs.YtfilolmbppjbjaaGreat.sh
open Go.RowKit

set_option maxRecDepth 100000 in
theorem part5 (x : List UInt8) (i : Nat) (h : i < x.length) (w : World) : (part 5 (row x) i).run Tryz.prog w = .ok (.int .u8 ((x.getD i 0).toNat : Int)) w := by
  unfold part
  simp only [Sem.run_bind, Tryz.isAgg5, Result.andThen_ok]
  rw [row_at x i h]; rfl
set_option maxRecDepth 100000 in
theorem items5 (d : Nat) (x y : List UInt8) (w : World) : ∀ is : List Nat, (∀ i ∈ is, i < x.length ∧ i < y.length) → (Op.eqItems (d + 1) 5 1 (row x) (row y) is).run Tryz.prog w = .ok (is.all fun i => x.getD i 0 == y.getD i 0) w
  | [], _ => rfl
  | i :: is, h => by
    have ih := items5 d x y w is (fun j hj => h j (List.mem_cons_of_mem _ hj))
    obtain ⟨h1, h2⟩ := h i List.mem_cons_self
    have he := run_equalIn_int (P := Tryz.prog) w d 5 .u8 .u8 ((x.getD i 0).toNat : Int) ((y.getD i 0).toNat : Int) Tryz.underlying5
    simp only [Op.eqItems, Sem.run_bind, Nat.mul_one, part5 x i h1, part5 y i h2, Result.andThen_ok, he]
    by_cases e : x.getD i 0 = y.getD i 0
    · have e1 : (((x.getD i 0).toNat : Int) == ((y.getD i 0).toNat : Int)) = true := by rw [e]; simp
      rw [e1, List.all_cons, e]
      simpa using ih
    · have e1 : (((x.getD i 0).toNat : Int) == ((y.getD i 0).toNat : Int)) = false := by
        rw [beq_eq_false_iff_ne]; intro h; exact e (UInt8.toNat_inj.mp (by omega))
      have e2 : (x.getD i 0 == y.getD i 0) = false := by rw [beq_eq_false_iff_ne]; exact e
      rw [e1, List.all_cons, e2]
      rfl
set_option maxRecDepth 100000 in
theorem all_eq (x y : List UInt8) (hx : x.length = 32) (hy : y.length = 32) : ((List.range 32).all fun i => x.getD i 0 == y.getD i 0) = (x == y) := by
  rw [Bool.eq_iff_iff, List.all_eq_true, beq_iff_eq]
  constructor
  · intro h
    apply List.ext_getElem (by omega)
    intro i h1 h2
    have := h i (List.mem_range.2 (by omega))
    rw [beq_iff_eq, List.getD_eq_getElem?_getD, List.getD_eq_getElem?_getD, List.getElem?_eq_getElem h1, List.getElem?_eq_getElem h2] at this
    exact this
  · intro h i _; rw [h]; simp
set_option maxRecDepth 100000 in
theorem eql_dig (x y : List UInt8) (hx : x.length = 32) (hy : y.length = 32) (w : World) : (Op.equalIn 10000 23 (.agg (row x)) (.agg (row y))).run Tryz.prog w = .ok (x == y) w := by
  obtain ⟨i, hi⟩ := info_of_underlying (P := Tryz.prog) Tryz.underlying5
  have := run_equalIn_array (P := Tryz.prog) w 9999 (row x) (row y) Tryz.underlying23 hi
  rw [this]
  have e : Tryz.prog.cellsOf 5 = 1 := by kernel_rfl
  rw [e, items5 9998 x y w _ (fun i hi => by have := List.mem_range.1 hi; omega), all_eq x y hx hy]

/-- Two texts that are not the same, and have one digest. -/
def smB (a b : List UInt8) : Bool := !(a == b) && (sha a == sha b)
set_option maxRecDepth 100000 in
theorem toList_data (a : ByteArray) : a.toList = a.data.toList := by
  have : a = ⟨a.data.toList.toArray⟩ := by simp
  rw [this]; exact ByteArray.toList_mk _

set_option maxHeartbeats 400000 in
set_option maxRecDepth 100000 in
theorem link_any (d : List UInt8) (hd : d.length = 32) (b : ByteArray) (hb : b.size ≤ 3900) (w : World) :
    Calls Tryz.prog 22 #[.agg (row d), .string b] w fun e w' => e = .returned (.agg (row (sha (d ++ b.data.toList)))) ∧ Below w.heap.size w w' := by
  have hB0 : ((w.alloc (.cells (row d) 23)).alloc (.cells d0 23)).heap[w.heap.size]? = some (.cells (row d) 23) := by rw [heap_alloc_if, if_neg (by simp), heap_alloc_if, if_pos rfl]
  have hB1 : ((w.alloc (.cells (row d) 23)).alloc (.cells d0 23)).heap[w.heap.size + 1]? = some (.cells d0 23) := by rw [heap_alloc_if, if_pos (by simp)]
  have hc := conv_row _ w.heap.size 32 23 d hd hB0
  have hj : Hid ((ByteArray.mk d.toArray ++ b).data.toList = d ++ b.data.toList) := by show _ = _; simp [ByteArray.data_append]
  have hs : (ByteArray.mk d.toArray).size = 32 := by show d.toArray.size = 32; simpa using hd
  have hs2 : (ByteArray.mk d.toArray ++ b).size ≤ 4000 := by rw [ByteArray.size_append]; omega
  have hs1 : (ByteArray.mk d.toArray).size ≤ 32 := by omega
  have hi2 : Hid ((Tryz.prog.info? 23).map (·.size) = some (row (sha (d ++ b.data.toList))).size) := by show _ = _; rw [row_size, sha_length]; kernel_rfl
  have ho2 : Hid (d0.size = (row (sha (d ++ b.data.toList))).size) := by show _ = _; rw [row_size, sha_length]; kernel_rfl
  revert hc hj hs2 hs1
  generalize ByteArray.mk d.toArray = X
  intro hc hj hs2 hs1
  have hH := Lib.hid (And.intro hB0 hB1)
  clear hs hd hB0 hB1
  go_enter Tryz.func22, Tryz.ntmps22
  rw [d0_zero] at hc
  go_wp2_with fail
  rw [← d0_zero]
  refine (of_any _ hs2 _).mono ?_
  rintro e v1 ⟨rfl, b1⟩
  rw [hj.out]
  have hr := (b1.block _ (by simp)).trans hH.out.2
  go_wp2_with (with_reducible refine wpList_store_row rfl 23 (.tmp 4) (.tmp 9) rfl _ (row (sha (d ++ b.data.toList))) rfl rfl 23 d0 hr hi2.out ho2.out (row_one _) ?_)
  exact bodyPost_row 4 23 rfl _ rfl 23 (row (sha (d ++ b.data.toList))) _ (setRow_heap _ _ _ _ _ _ hr) Tryz.underlying23 rfl hi2.out rfl ⟨rfl, below_setRow ((((Below.refl _ _).alloc (Nat.le_refl _) _).alloc (by simp) _).trans (b1.mono (by simp <;> omega))) (by simp) _⟩
end Go.Proofs.YtfilolmbppjbjaaGreat.sh
