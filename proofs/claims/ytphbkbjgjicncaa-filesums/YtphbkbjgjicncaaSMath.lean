/-
  Plain facts on words of 32 bits and rows of them: what a digest is made of. No Go text is named here.
-/
import Derived.Laws.BitsAllLaws
namespace Go.Proofs.Ytphbkbjgjicncaa.sh

/-- A word turned right. -/
def rot (x : BitVec 32) (n : Nat) : BitVec 32 := (x <<< (32 - n)) ||| (x >>> n)
def sm0 (x : BitVec 32) : BitVec 32 := rot x 7 ^^^ rot x 18 ^^^ (x >>> (3 : Nat))
def sm1 (x : BitVec 32) : BitVec 32 := rot x 17 ^^^ rot x 19 ^^^ (x >>> (10 : Nat))
def bg0 (a : BitVec 32) : BitVec 32 := rot a 2 ^^^ rot a 13 ^^^ rot a 22
def bg1 (e : BitVec 32) : BitVec 32 := rot e 6 ^^^ rot e 11 ^^^ rot e 25
def chs (e f g : BitVec 32) : BitVec 32 := (e &&& f) ^^^ (~~~e &&& g)
def maj (a b c : BitVec 32) : BitVec 32 := (a &&& b) ^^^ (a &&& c) ^^^ (b &&& c)

/-- A byte as a word. -/
def byte (b : UInt8) : BitVec 32 := BitVec.ofNat 32 b.toNat

/-- The first so many bytes of the t-th word of a block. -/
def bwp (g : Nat → UInt8) (t : Nat) : Nat → BitVec 32
  | 0 => 0#32
  | i + 1 => (bwp g t i <<< (8 : Nat)) ||| byte (g (4 * t + i))

/-- The word behind those that are there. -/
def nxt (l : List (BitVec 32)) : BitVec 32 :=
  sm1 (l.getD (l.length - 2) 0#32) + l.getD (l.length - 7) 0#32 + sm0 (l.getD (l.length - 15) 0#32) + l.getD (l.length - 16) 0#32

/-- The first so many words. -/
def sch (g : Nat → UInt8) : Nat → List (BitVec 32)
  | 0 => []
  | t + 1 => sch g t ++ [if t < 16 then bwp g t 4 else nxt (sch g t)]

theorem sch_length (g : Nat → UInt8) (t : Nat) : (sch g t).length = t := by
  induction t with
  | zero => rfl
  | succ t ih => simp [sch, ih]

theorem sch_ext {g h : Nat → UInt8} (e : ∀ i, i < 64 → g i = h i) (t : Nat) : sch g t = sch h t := by
  induction t with
  | zero => rfl
  | succ t ih =>
    unfold sch
    rw [ih]
    by_cases ht : t < 16
    · rw [if_pos ht, if_pos ht]
      have : bwp g t 4 = bwp h t 4 := by
        simp only [bwp]
        rw [e _ (by omega), e _ (by omega), e _ (by omega), e _ (by omega)]
      rw [this]
    · rw [if_neg ht, if_neg ht]

/-- The eight words. -/
structure St where
  a : BitVec 32
  b : BitVec 32
  c : BitVec 32
  d : BitVec 32
  e : BitVec 32
  f : BitVec 32
  g : BitVec 32
  h : BitVec 32
  deriving DecidableEq

def t1 (s : St) (k w : BitVec 32) : BitVec 32 := s.h + bg1 s.e + chs s.e s.f s.g + k + w
def t2 (s : St) : BitVec 32 := bg0 s.a + maj s.a s.b s.c

/-- One round. -/
def rnd (s : St) (k w : BitVec 32) : St := ⟨t1 s k w + t2 s, s.a, s.b, s.c, s.d + t1 s k w, s.e, s.f, s.g⟩

/-- So many rounds. -/
def mix (ks ws : List (BitVec 32)) (s : St) : Nat → St
  | 0 => s
  | t + 1 => rnd (mix ks ws s t) (ks.getD t 0#32) (ws.getD t 0#32)

def addS (s v : St) : St := ⟨s.a + v.a, s.b + v.b, s.c + v.c, s.d + v.d, s.e + v.e, s.f + v.f, s.g + v.g, s.h + v.h⟩

def St.toL (s : St) : List (BitVec 32) := [s.a, s.b, s.c, s.d, s.e, s.f, s.g, s.h]

def H0 : St := ⟨1779033703#32, 3144134277#32, 1013904242#32, 2773480762#32, 1359893119#32, 2600822924#32, 528734635#32, 1541459225#32⟩

def K0 : List (BitVec 32) := [1116352408#32, 1899447441#32, 3049323471#32, 3921009573#32, 961987163#32, 1508970993#32, 2453635748#32, 2870763221#32,
  3624381080#32, 310598401#32, 607225278#32, 1426881987#32, 1925078388#32, 2162078206#32, 2614888103#32, 3248222580#32,
  3835390401#32, 4022224774#32, 264347078#32, 604807628#32, 770255983#32, 1249150122#32, 1555081692#32, 1996064986#32,
  2554220882#32, 2821834349#32, 2952996808#32, 3210313671#32, 3336571891#32, 3584528711#32, 113926993#32, 338241895#32,
  666307205#32, 773529912#32, 1294757372#32, 1396182291#32, 1695183700#32, 1986661051#32, 2177026350#32, 2456956037#32,
  2730485921#32, 2820302411#32, 3259730800#32, 3345764771#32, 3516065817#32, 3600352804#32, 4094571909#32, 275423344#32,
  430227734#32, 506948616#32, 659060556#32, 883997877#32, 958139571#32, 1322822218#32, 1537002063#32, 1747873779#32,
  1955562222#32, 2024104815#32, 2227730452#32, 2361852424#32, 2428436474#32, 2756734187#32, 3204031479#32, 3329325298#32]

/-- The words behind one block. -/
def comp (s : St) (g : Nat → UInt8) : St := addS s (mix K0 (sch g 64) s 64)

/-- The words behind the first so many blocks. -/
def stt (p : List UInt8) : Nat → St
  | 0 => H0
  | j + 1 => comp (stt p j) (fun i => p.getD (64 * j + i) 0)

/-- How many bytes 0 there are. -/
def zer (n : Nat) : Nat := (119 - n % 64) % 64

/-- The bytes of a number, the highest first. -/
def be : Nat → Nat → List UInt8
  | 0, _ => []
  | k + 1, n => be k (n / 256) ++ [UInt8.ofNat (n % 256)]

theorem be_length (k n : Nat) : (be k n).length = k := by
  induction k generalizing n with
  | zero => rfl
  | succ k ih => simp [be, ih]

/-- Bytes, and what is put behind them. -/
def pad (l : List UInt8) : List UInt8 := l ++ [128] ++ List.replicate (zer l.length) 0 ++ be 8 (l.length * 8)

theorem pad_length (l : List UInt8) : (pad l).length = l.length + 1 + zer l.length + 8 := by
  simp [pad, be_length]; omega

theorem pad_mod (l : List UInt8) : (pad l).length % 64 = 0 := by
  rw [pad_length]; unfold zer; omega

/-- The bytes of the words. -/
def bytesOf (l : List (BitVec 32)) : List UInt8 := l.flatMap fun w => be 4 w.toNat

/-- The digest. -/
def sha (l : List UInt8) : List UInt8 := bytesOf (stt (pad l) ((pad l).length / 64)).toL

theorem sha_length (l : List UInt8) : (sha l).length = 32 := by
  simp [sha, bytesOf, St.toL, be_length]

def digs : ByteArray := ⟨#[48, 49, 50, 51, 52, 53, 54, 55, 56, 57, 97, 98, 99, 100, 101, 102]⟩
def dg (n : Nat) : UInt8 := digs.data.toList.getD n 0

/-- The digits of bytes. -/
def hex (l : List UInt8) : List UInt8 := l.flatMap fun b => [dg (b.toNat / 16), dg (b.toNat % 16)]

theorem hex_length (l : List UInt8) : (hex l).length = 2 * l.length := by
  induction l with
  | nil => rfl
  | cons x l ih =>
    show ([dg (x.toNat / 16), dg (x.toNat % 16)] ++ hex l).length = _
    simp [ih]; omega

set_option maxRecDepth 100000 in
theorem hex_abc : hex (sha [97, 98, 99]) = [98, 97, 55, 56, 49, 54, 98, 102, 56, 102, 48, 49, 99, 102, 101, 97, 52, 49, 52, 49, 52, 48, 100, 101, 53, 100, 97, 101, 50, 50, 50, 51, 98, 48, 48, 51, 54, 49, 97, 51, 57, 54, 49, 55, 55, 97, 57, 99, 98, 52, 49, 48, 102, 102, 54, 49, 102, 50, 48, 48, 49, 53, 97, 100] := by decide +kernel

end Go.Proofs.Ytphbkbjgjicncaa.sh
