import PyProof.Rows.All
import HandS.ForMost
import HandS.Walk
import HandS.Wide
import HandS.SetBool
import HandS.IsInst
import HandS.Evl
import HandS.Style
import HandS.Conv
import HandS.SetKeys
import HandS.Strs
import HandS.WordsExc
import HandS.TryOnly
import HandS.TryMany
import HandS.ExcIs
import HandS.ExcOwn
import PySem.Challenge.RW_pressroots_k14_whole_tidied_alike_exactl
set_option Elab.async false
set_option linter.all false
set_option maxRecDepth 100000
set_option maxHeartbeats 1000000
/-! DX: values as data over the hand layer: what a slot holds, what an expression makes, what a block leaves. -/
namespace DX
open PySem PySem.Spec PyProof.Rows L2

/-! ### heaps that grow -/
def Ex (H H' : Hp) : Prop := ∀ a o, H a = some o → H' a = some o
theorem Ex.refl (H : Hp) : Ex H H := fun _ _ h => h
theorem Ex.trans {H H1 H2 : Hp} (a : Ex H H1) (b : Ex H1 H2) : Ex H H2 := fun x o h => b x o (a x o h)
theorem Ex.new {H : Hp} {p : Addr} {o : HO} (h : H p = none) : Ex H (upd H p o) := fun a u e => by
  rw [upd_ne (ne_of_none e h)]
  exact e
theorem Ex.upd2 {H H' : Hp} {p : Addr} {o : HO} (e : Ex H H') : Ex (upd H p o) (upd H' p o) := fun a u h => by
  by_cases q : a = p
  · subst q
    rw [upd_same] at h ⊢
    exact h
  · rw [upd_ne q] at h ⊢
    exact e a u h
theorem Ex.back {H H' : Hp} (e : Ex H H') {p : Addr} (h : H' p = none) : H p = none := by
  cases q : H p with
  | none => rfl
  | some o =>
    rw [e p o q] at h
    cases h
theorem Ex.mut {H H' : Hp} {p : Addr} {o : HO} (e : Ex H H') (h : H p = none) : Ex H (upd H' p o) := fun a u ha => by
  rw [upd_ne (ne_of_none ha h)]
  exact e a u ha

/-! ### data -/
class Enc (α : Type) where
  rep : PySem.W.Frag → Hp → V → α → Prop
  mono : ∀ {K : PySem.W.Frag} {H H' : Hp} {v : V} {x : α}, Ex H H' → rep K H v x → rep K H' v x
/-- scalars: one value each -/
class Sc (α : Type) where
  val : α → V
instance {α : Type} [Sc α] : Enc α := ⟨fun _ _ v x => v = Sc.val x, fun _ h => h⟩
instance : Sc Int := ⟨V.int⟩
instance : Sc Bool := ⟨V.bl⟩
instance : Sc Unit := ⟨fun _ => V.non⟩
/-- a text is the list of its codes -/
abbrev Tx := List Nat
def mkS (x : List Nat) : Str := ⟨x.toArray⟩
theorem mkS_length (x : List Nat) : (mkS x).length = x.length := by
  show x.toArray.size = x.length
  simp
theorem mkS_list (x : List Nat) : (mkS x).cps.toList = x := rfl
theorem mkS_append (x y : List Nat) : mkS x ++ mkS y = mkS (x ++ y) := by
  show (⟨x.toArray ++ y.toArray⟩ : Str) = ⟨(x ++ y).toArray⟩
  simp
theorem mkS_inj {x y : List Nat} (h : mkS x = mkS y) : x = y := by
  have : (mkS x).cps.toList = (mkS y).cps.toList := by rw [h]
  exact this
theorem mkS_of (z : Str) : mkS z.cps.toList = z := by
  cases z
  rfl

def PairedMono {α : Type} [Enc α] {K : PySem.W.Frag} {H H' : Hp} (e : Ex H H') {vs : List V} {xs : List α} (h : Paired (Enc.rep K H) vs xs) : Paired (Enc.rep K H') vs xs :=
  Paired.mapP h fun _ _ r => Enc.mono e r

instance encList {α : Type} [Enc α] : Enc (List α) where
  rep := fun K H v xs => ∃ a vs, v = .ref a ∧ H a = some (.lst vs) ∧ Paired (Enc.rep K H) vs xs
  mono := fun e ⟨a, vs, h1, h2, h3⟩ => ⟨a, vs, h1, e _ _ h2, PairedMono e h3⟩
instance scTx : Sc (List Nat) := ⟨fun x => V.str (mkS x)⟩
instance (priority := high) encTx : Enc (List Nat) := ⟨fun _ _ v x => v = V.str (mkS x), fun _ h => h⟩
instance encPair {α β : Type} [Enc α] [Enc β] : Enc (α × β) where
  rep := fun K H v x => ∃ a v1 v2, v = .ref a ∧ SqT K H a [v1, v2] ∧ Enc.rep K H v1 x.1 ∧ Enc.rep K H v2 x.2
  mono := fun {K H H' v x} e ⟨a, v1, v2, h1, h2, h3, h4⟩ => ⟨a, v1, v2, h1, Evl.ex_t e h2, Enc.mono e h3, Enc.mono e h4⟩
structure T3 (α β γ : Type) where
  a : α
  b : β
  c : γ
instance encT3 {α β γ : Type} [Enc α] [Enc β] [Enc γ] : Enc (T3 α β γ) where
  rep := fun K H v x => ∃ a v1 v2 v3, v = .ref a ∧ SqT K H a [v1, v2, v3] ∧ Enc.rep K H v1 x.a ∧ Enc.rep K H v2 x.b ∧ Enc.rep K H v3 x.c
  mono := fun e ⟨a, v1, v2, v3, h1, h2, h3, h4, h5⟩ => ⟨a, v1, v2, v3, h1, Evl.ex_t e h2, Enc.mono e h3, Enc.mono e h4, Enc.mono e h5⟩
/-- a tuple of any number of items of one kind -/
structure Tup (α : Type) where
  l : List α
instance encTup {α : Type} [Enc α] : Enc (Tup α) where
  rep := fun K H v x => ∃ a vs, v = .ref a ∧ SqT K H a vs ∧ Paired (Enc.rep K H) vs x.l
  mono := fun e ⟨a, vs, h1, h2, h3⟩ => ⟨a, vs, h1, Evl.ex_t e h2, PairedMono e h3⟩
/-- a value of any kind, as data -/
theorem dp_mono {K : PySem.W.Frag} {H H' : Hp} (e : Ex H H') : ∀ {v : V} {d : PyData}, Dp K H v d → Dp K H' v d := by
  intro v d h
  refine Dp.rec (motive_1 := fun v d _ => Dp K H' v d) (motive_2 := fun vs ds _ => DpAll K H' vs ds) .non (fun b => .bl b) (fun i => .int i) (fun x => .str x) ?_ ?_ .nil ?_ h
  · intro a xs ds h1 _ ih
    exact .lst (Evl.ex_l e h1) ih
  · intro a xs ds h1 _ ih
    exact .tup (Evl.ex_t e h1) ih
  · intro v vs d ds _ _ h1 h2
    exact .cons h1 h2
instance encDat : Enc PyData := ⟨fun K H v d => Dp K H v d, fun e h => dp_mono e h⟩

/-! ### what a slot holds -/
inductive Sl : Type 1
  | no : Sl
  | is {α : Type} [Enc α] (x : α) : Sl
  | own {α : Type} [Enc α] (xs : List α) : Sl
  | bor {α : Type} [Enc α] (xs : List α) : Sl
  | arg {α : Type} [Enc α] (xs : List α) : Sl
  | ownA (a : Addr) {α : Type} [Enc α] (xs : List α) : Sl
  | gen (fp : List Addr) (Φ : Hp → Hp → V → Prop) : Sl
def SlotOk (K : PySem.W.Frag) (B Hd H : Hp) (o : Option V) : Sl → Prop
  | .no => True
  | @Sl.is _ _ x => ∃ v, o = some v ∧ Enc.rep K Hd v x
  | @Sl.own _ _ xs => ∃ a vs, o = some (.ref a) ∧ B a = none ∧ Hd a = none ∧ H a = some (.lst vs) ∧ Paired (Enc.rep K Hd) vs xs
  | @Sl.bor _ _ xs => ∃ a vs, o = some (.ref a) ∧ H a = some (.lst vs) ∧ Paired (Enc.rep K Hd) vs xs
  | @Sl.arg _ _ xs => ∃ a vs, o = some (.ref a) ∧ B a ≠ none ∧ H a = some (.lst vs) ∧ Paired (Enc.rep K Hd) vs xs
  | @Sl.ownA b _ _ xs => ∃ a vs, o = some (.ref a) ∧ B a = none ∧ Hd a = none ∧ H a = some (.lst vs) ∧ Paired (Enc.rep K Hd) vs xs ∧ a = b
  | .gen fp Φ => ∃ v, o = some v ∧ (∀ a ∈ fp, B a = none ∧ Hd a = none ∧ H a ≠ none) ∧ ∀ Hd' H', Ex Hd Hd' → (∀ a ∈ fp, Hd' a = none) → (∀ a ∈ fp, H' a = H a) → Φ Hd' H' v
abbrev Slot := Option V × Sl
def owns (p : Slot) (a : Addr) : Prop := match p.2 with
  | @Sl.own _ _ _ => p.1 = some (.ref a)
  | @Sl.ownA _ _ _ _ => p.1 = some (.ref a)
  | .gen fp _ => a ∈ fp
  | _ => False
def apart (p q : Slot) : Prop := ∀ a, owns p a → owns q a → False
theorem apart.symm {p q : Slot} (h : apart p q) : apart q p := fun a x y => h a y x
/-- no list is only borrowed -/
def noBor (p : Slot) : Prop := match p.2 with
  | @Sl.bor _ _ _ => False
  | _ => True

structure HasE (K : PySem.W.Frag) (B : Hp × Hp) (H : Hp) (ρ : List Slot) (σ : L2.St) (Γ : List Sl) : Prop where
  len : σ.length = Γ.length
  ex : ∃ Hd, Ex B.1 Hd ∧ Ex Hd H ∧ Ex B.2 H ∧ (∀ a, B.1 a = none → B.2 a ≠ none → Hd a = none) ∧ (∀ p ∈ ρ ++ σ.zip Γ, SlotOk K B.2 Hd H p.1 p.2) ∧ (ρ ++ σ.zip Γ).Pairwise apart

section
variable {K : PySem.W.Frag} {B : Hp × Hp} {H H' : Hp} {ρ : List Slot} {σ : L2.St} {Γ : List Sl} {p : Slot} {s : Sl} {o : Option V}

theorem SlotOk.mono {B1 Hd Hd' : Hp} (e1 : Ex Hd Hd') (e2 : Ex H H') (hf : ∀ a, H a ≠ none → Hd a = none → Hd' a = none) (h : SlotOk K B1 Hd H o s) : SlotOk K B1 Hd' H' o s := by
  cases s with
  | no => trivial
  | is x => obtain ⟨v, h1, h2⟩ := h; exact ⟨v, h1, Enc.mono e1 h2⟩
  | own xs =>
    obtain ⟨a, vs, h1, h2, h3, h4, h5⟩ := h
    exact ⟨a, vs, h1, h2, hf a (by rw [h4]; exact fun z => nomatch z) h3, e2 _ _ h4, PairedMono e1 h5⟩
  | bor xs => obtain ⟨a, vs, h1, h4, h5⟩ := h; exact ⟨a, vs, h1, e2 _ _ h4, PairedMono e1 h5⟩
  | arg xs => obtain ⟨a, vs, h1, h3, h4, h5⟩ := h; exact ⟨a, vs, h1, h3, e2 _ _ h4, PairedMono e1 h5⟩
  | ownA c xs =>
    obtain ⟨a, vs, h1, h2, h3, h4, h5, h6⟩ := h
    exact ⟨a, vs, h1, h2, hf a (by rw [h4]; exact fun z => nomatch z) h3, e2 _ _ h4, PairedMono e1 h5, h6⟩
  | gen fp Φ =>
    obtain ⟨v, h1, h2, h3⟩ := h
    have hk : ∀ a ∈ fp, H' a = H a := fun a ha => by
      have := (h2 a ha).2.2
      cases q : H a with
      | none => exact absurd q this
      | some u => rw [e2 a u q]
    refine ⟨v, h1, fun a ha => ⟨(h2 a ha).1, hf a (h2 a ha).2.2 (h2 a ha).2.1, by rw [hk a ha]; exact (h2 a ha).2.2⟩, fun Hd2 H2 f1 f2 f3 => h3 Hd2 H2 (e1.trans f1) f2 fun a ha => (f3 a ha).trans (hk a ha)⟩

theorem HasE.pop (h : HasE K B H (p :: ρ) σ Γ) : HasE K B H ρ σ Γ := by
  obtain ⟨l, Hd, h1, h2, h3, h4, h5, h6⟩ := h
  exact ⟨l, Hd, h1, h2, h3, h4, fun q hq => h5 q (List.mem_cons_of_mem _ hq), (List.pairwise_cons.mp h6).2⟩
theorem HasE.pop2 {q : Slot} (h : HasE K B H (p :: q :: ρ) σ Γ) : HasE K B H (p :: ρ) σ Γ := by
  obtain ⟨l, Hd, h1, h2, h3, h4, h5, h6⟩ := h
  refine ⟨l, Hd, h1, h2, h3, h4, fun r hr => h5 r ?_, ?_⟩
  · rcases List.mem_cons.mp hr with z | z
    · rw [z]; exact List.mem_cons_self
    · exact List.mem_cons_of_mem _ (List.mem_cons_of_mem _ z)
  · have h7 := List.pairwise_cons.mp h6
    have h8 := List.pairwise_cons.mp h7.2
    exact List.pairwise_cons.mpr ⟨fun r hr => h7.1 r (List.mem_cons_of_mem _ hr), h8.2⟩
theorem HasE.swap {q : Slot} (h : HasE K B H (p :: q :: ρ) σ Γ) : HasE K B H (q :: p :: ρ) σ Γ := by
  obtain ⟨l, Hd, h1, h2, h3, h4, h5, h6⟩ := h
  refine ⟨l, Hd, h1, h2, h3, h4, fun r hr => h5 r ?_, ?_⟩
  · rcases List.mem_cons.mp hr with z | z
    · rw [z]; exact List.mem_cons_of_mem _ List.mem_cons_self
    · rcases List.mem_cons.mp z with z | z
      · rw [z]; exact List.mem_cons_self
      · exact List.mem_cons_of_mem _ (List.mem_cons_of_mem _ z)
  · have h7 := List.pairwise_cons.mp h6
    have h8 := List.pairwise_cons.mp h7.2
    refine List.pairwise_cons.mpr ⟨fun r hr => ?_, List.pairwise_cons.mpr ⟨fun r hr => h7.1 r (List.mem_cons_of_mem _ hr), h8.2⟩⟩
    rcases List.mem_cons.mp hr with z | z
    · rw [z]; exact (h7.1 q List.mem_cons_self).symm
    · exact h8.1 r z
theorem apart_is {α : Type} [Enc α] {x : α} {o : Option V} (q : Slot) : apart (o, .is x) q := fun _ z _ => z.elim
theorem apart_bor {α : Type} [Enc α] {x : List α} {o : Option V} (q : Slot) : apart (o, .bor x) q := fun _ z _ => z.elim
theorem apart_arg {α : Type} [Enc α] {x : List α} {o : Option V} (q : Slot) : apart (o, .arg x) q := fun _ z _ => z.elim
theorem apart_no {o : Option V} (q : Slot) : apart (o, .no) q := fun _ z _ => z.elim

/-- what holds of a new top that owns nothing, told from the data -/
theorem HasE.push {s : Sl} (h : HasE K B H ρ σ Γ) (hs : ∀ q, apart (o, s) q) (hv : ∀ Hd, Ex Hd H → (∀ q ∈ ρ ++ σ.zip Γ, SlotOk K B.2 Hd H q.1 q.2) → SlotOk K B.2 Hd H o s) : HasE K B H ((o, s) :: ρ) σ Γ := by
  obtain ⟨l, Hd, h1, h2, h3, h4, h5, h6⟩ := h
  refine ⟨l, Hd, h1, h2, h3, h4, fun q hq => ?_, List.pairwise_cons.mpr ⟨fun q _ => hs q, h6⟩⟩
  rcases List.mem_cons.mp hq with z | z
  · rw [z]; exact hv Hd h2 h5
  · exact h5 q z
theorem HasE.pushSc {α : Type} [Sc α] (x : α) (h : HasE K B H ρ σ Γ) : HasE K B H ((some (Sc.val x), .is x) :: ρ) σ Γ :=
  h.push (fun q => apart_is q) fun _ _ _ => ⟨_, rfl, rfl⟩
theorem HasE.topSc {α : Type} [Sc α] {x : α} (h : HasE K B H ((o, .is x) :: ρ) σ Γ) : o = some (Sc.val x) := by
  obtain ⟨l, Hd, h1, h2, h3, h4, h5, h6⟩ := h
  obtain ⟨v, e1, e2⟩ := h5 (o, .is x) List.mem_cons_self
  have e2 : v = Sc.val x := e2
  have e1 : o = some v := e1
  rw [e1, e2]
/-- the slot at i -/
theorem zip_get {α : Type} {β : Type 1} : ∀ {σ : List α} {Γ : List β} {i : Nat} {s : β}, σ.length = Γ.length → Γ[i]? = some s → ∃ o, σ[i]? = some o ∧ (o, s) ∈ σ.zip Γ
  | [], [], _, _, _, h => by simp at h
  | [], _ :: _, _, _, l, _ => by simp at l
  | _ :: _, [], _, _, l, _ => by simp at l
  | o :: σ, t :: Γ, 0, s, _, h => by
    have e : t = s := by simpa using h
    subst e
    exact ⟨o, rfl, List.mem_cons_self⟩
  | o :: σ, t :: Γ, i + 1, s, l, h => by
    obtain ⟨o', h1, h2⟩ := zip_get (σ := σ) (Γ := Γ) (i := i) (s := s) (by simpa using l) (by simpa using h)
    exact ⟨o', by simpa using h1, List.mem_cons_of_mem _ h2⟩
theorem HasE.var {α : Type} [Enc α] {x : α} {i : Nat} (h : HasE K B H ρ σ Γ) (g : Γ[i]? = some (.is x)) : ∃ v, σ[i]? = some (some v) ∧ HasE K B H ((some v, .is x) :: ρ) σ Γ := by
  obtain ⟨o, e, m⟩ := zip_get h.len g
  obtain ⟨l, Hd, h1, h2, h3, h4, h5, h6⟩ := id h
  obtain ⟨v, e1, e2⟩ := h5 (o, .is x) (List.mem_append_right _ m)
  have e1 : o = some v := e1
  subst e1
  exact ⟨v, e, l, Hd, h1, h2, h3, h4, fun q hq => (List.mem_cons.mp hq).elim (fun z => by rw [z]; exact ⟨v, rfl, e2⟩) (h5 q), List.pairwise_cons.mpr ⟨fun q _ => apart_is q, h6⟩⟩
/-- a thing that reads as a list -/
inductive Lk {α : Type} [Enc α] : Sl → List α → Prop
  | is (xs : List α) : Lk (@Sl.is (List α) encList xs) xs
  | own (xs : List α) : Lk (.own xs) xs
  | bor (xs : List α) : Lk (.bor xs) xs
  | arg (xs : List α) : Lk (.arg xs) xs
  | ownA (a : Addr) (xs : List α) : Lk (.ownA a xs) xs
theorem Lk.ok {α : Type} [Enc α] {xs : List α} {B1 Hd : Hp} (lk : Lk s xs) (e : Ex Hd H) (h : SlotOk K B1 Hd H o s) : ∃ a vs, o = some (.ref a) ∧ H a = some (.lst vs) ∧ Paired (Enc.rep K Hd) vs xs := by
  cases lk with
  | is =>
    obtain ⟨v, h1, a, vs, h2, h3, h4⟩ := h
    exact ⟨a, vs, by rw [h1, h2], e _ _ h3, h4⟩
  | own =>
    obtain ⟨a, vs, h1, _, _, h4, h5⟩ := h
    exact ⟨a, vs, h1, h4, h5⟩
  | bor => exact h
  | arg =>
    obtain ⟨a, vs, h1, _, h4, h5⟩ := h
    exact ⟨a, vs, h1, h4, h5⟩
  | ownA =>
    obtain ⟨a, vs, h1, _, _, h4, h5, _⟩ := h
    exact ⟨a, vs, h1, h4, h5⟩
theorem paired_len {α β : Type} {F : α → β → Prop} : ∀ {l : List α} {m : List β}, Paired F l m → l.length = m.length
  | _, _, .nil => rfl
  | _, _, .cons _ t => by simp [paired_len t]
theorem paired_get {α β : Type} {F : α → β → Prop} : ∀ {l : List α} {m : List β} {i : Nat} {y : β}, Paired F l m → m[i]? = some y → ∃ x, l[i]? = some x ∧ F x y
  | _, _, _, _, .nil, h => by simp at h
  | _, _, 0, y, .cons r _, h => by
    simp at h
    subst h
    exact ⟨_, rfl, r⟩
  | _, _, i + 1, y, .cons _ t, h => by
    obtain ⟨x, h1, h2⟩ := paired_get (i := i) (y := y) t (by simpa using h)
    exact ⟨x, by simpa using h1, h2⟩
theorem paired_getL {α β : Type} {F : α → β → Prop} : ∀ {l : List α} {m : List β} {i : Nat} {x : α}, Paired F l m → l[i]? = some x → ∃ y, m[i]? = some y ∧ F x y
  | _, _, _, _, .nil, h => by simp at h
  | _, _, 0, x, .cons r _, h => by
    simp at h
    subst h
    exact ⟨_, rfl, r⟩
  | _, _, i + 1, x, .cons _ t, h => by
    obtain ⟨y, h1, h2⟩ := paired_getL (i := i) (x := x) t (by simpa using h)
    exact ⟨y, by simpa using h1, h2⟩
theorem paired_append {α β : Type} {F : α → β → Prop} : ∀ {l l' : List α} {m m' : List β}, Paired F l m → Paired F l' m' → Paired F (l ++ l') (m ++ m')
  | _, _, _, _, .nil, h => h
  | _, _, _, _, .cons r t, h => .cons r (paired_append t h)
theorem paired_take {α β : Type} {F : α → β → Prop} : ∀ {l : List α} {m : List β} (n : Nat), Paired F l m → Paired F (l.take n) (m.take n)
  | _, _, 0, _ => .nil
  | _, _, _ + 1, .nil => .nil
  | _, _, n + 1, .cons r t => .cons r (paired_take n t)
theorem paired_drop {α β : Type} {F : α → β → Prop} : ∀ {l : List α} {m : List β} (n : Nat), Paired F l m → Paired F (l.drop n) (m.drop n)
  | _, _, 0, h => h
  | _, _, _ + 1, .nil => .nil
  | _, _, n + 1, .cons _ t => paired_drop n t
theorem paired_set {α β : Type} {F : α → β → Prop} {x : α} {y : β} (r : F x y) : ∀ {l : List α} {m : List β} (n : Nat), Paired F l m → Paired F (l.set n x) (m.set n y)
  | _, _, _, .nil => .nil
  | _, _, 0, .cons _ t => .cons r t
  | _, _, n + 1, .cons q t => .cons q (paired_set r n t)
theorem HasE.varL {α : Type} [Enc α] {xs : List α} {i : Nat} (lk : Lk s xs) (h : HasE K B H ρ σ Γ) (g : Γ[i]? = some s) : ∃ v, σ[i]? = some (some v) ∧ HasE K B H ((some v, .bor xs) :: ρ) σ Γ := by
  obtain ⟨o, e, m⟩ := zip_get h.len g
  obtain ⟨l, Hd, h1, h2, h3, h4, h5, h6⟩ := id h
  obtain ⟨a, vs, e1, e4, e5⟩ := lk.ok h2 (h5 (o, s) (List.mem_append_right _ m))
  subst e1
  exact ⟨_, e, l, Hd, h1, h2, h3, h4, fun q hq => (List.mem_cons.mp hq).elim (fun z => by rw [z]; exact ⟨a, vs, rfl, e4, e5⟩) (h5 q), List.pairwise_cons.mpr ⟨fun q _ => apart_bor q, h6⟩⟩
/-- the top is a list: its items may come -/
theorem HasE.topL {α : Type} [Enc α] {xs : List α} (lk : Lk s xs) (h : HasE K B H ((o, s) :: ρ) σ Γ) : ∃ a vs, o = some (.ref a) ∧ H a = some (.lst vs) ∧ vs.length = xs.length ∧
    (∀ (i : Nat) (x : α), xs[i]? = some x → ∃ v, vs[i]? = some v ∧ HasE K B H ((some v, .is x) :: (o, s) :: ρ) σ Γ) := by
  obtain ⟨l, Hd, h1, h2, h3, h4, h5, h6⟩ := id h
  obtain ⟨a, vs, e1, e2, e3⟩ := lk.ok h2 (h5 (o, s) List.mem_cons_self)
  refine ⟨a, vs, e1, e2, paired_len e3, fun i x hx => ?_⟩
  obtain ⟨v, g1, g2⟩ := paired_get e3 hx
  exact ⟨v, g1, l, Hd, h1, h2, h3, h4, fun q hq => (List.mem_cons.mp hq).elim (fun z => by rw [z]; exact ⟨v, rfl, g2⟩) (h5 q), List.pairwise_cons.mpr ⟨fun q _ => apart_is q, h6⟩⟩
/-- the heap grows by untracked data -/
theorem HasE.grow (h : HasE K B H ρ σ Γ) (e : Ex H H') : HasE K B H' ρ σ Γ := by
  obtain ⟨l, Hd, h1, h2, h3, h4, h5, h6⟩ := h
  exact ⟨l, Hd, h1, h2.trans e, h3.trans e, h4, fun p hp => (h5 p hp).mono (Ex.refl _) e fun _ _ z => z, h6⟩
theorem owns_ne {B1 Hd : Hp} {q : Slot} {a b : Addr} (ok : SlotOk K B1 Hd H q.1 q.2) (h : owns q a) (hb : H b = none) : a ≠ b := by
  obtain ⟨o, s⟩ := q
  cases s with
  | own xs =>
    obtain ⟨a', vs, h1, h2, h3, h4, h5⟩ := ok
    have h : o = some (.ref a) := h
    have h1 : o = some (.ref a') := h1
    rw [h1] at h
    have e : a' = a := by
      injection h with h
      injection h
    subst e
    exact ne_of_none h4 hb
  | no => exact h.elim
  | is x => exact h.elim
  | bor x => exact h.elim
  | arg x => exact h.elim
  | ownA c xs =>
    obtain ⟨a', vs, h1, h2, h3, h4, h5, _⟩ := ok
    have h : o = some (.ref a) := h
    have h1 : o = some (.ref a') := h1
    rw [h1] at h
    have e : a' = a := by
      injection h with h
      injection h
    subst e
    exact ne_of_none h4 hb
  | gen fp Φ =>
    obtain ⟨v, h1, h2, h3⟩ := ok
    exact fun z => (h2 a h).2.2 (by rw [z]; exact hb)
/-- a new list of one's own -/
theorem HasE.newOwn {α : Type} [Enc α] {a : Addr} {vs : List V} {xs : List α} (h : HasE K B H ρ σ Γ) (hn : H a = none) (hv : ∀ Hd, Ex Hd H → (∀ q ∈ ρ ++ σ.zip Γ, SlotOk K B.2 Hd H q.1 q.2) → Paired (Enc.rep K Hd) vs xs) :
    HasE K B (upd H a (.lst vs)) ((some (.ref a), .own xs) :: ρ) σ Γ := by
  obtain ⟨l, Hd, h1, h2, h3, h4, h5, h6⟩ := h
  have e : Ex H (upd H a (.lst vs)) := Ex.new hn
  refine ⟨l, Hd, h1, h2.trans e, h3.trans e, h4, fun p hp => ?_, List.pairwise_cons.mpr ⟨fun q hq b z1 z2 => ?_, h6⟩⟩
  · rcases List.mem_cons.mp hp with z | z
    · rw [z]
      exact ⟨a, vs, rfl, h3.back hn, h2.back hn, upd_same, hv Hd h2 h5⟩
    · exact (h5 p z).mono (Ex.refl _) e fun _ _ z => z
  · have z1 : some (V.ref a) = some (.ref b) := z1
    injection z1 with z1
    injection z1 with z1
    exact owns_ne (h5 q hq) z2 hn z1.symm
/-- a new thing that is known by its data -/
theorem HasE.newIs {α : Type} [Enc α] {a : Addr} {u : HO} {x : α} (h : HasE K B H ρ σ Γ) (hn : H a = none) (hv : ∀ Hd, Ex Hd H → Hd a = none → (∀ q ∈ ρ ++ σ.zip Γ, SlotOk K B.2 Hd H q.1 q.2) → Enc.rep K (upd Hd a u) (.ref a) x) :
    HasE K B (upd H a u) ((some (.ref a), .is x) :: ρ) σ Γ := by
  obtain ⟨l, Hd, h1, h2, h3, h4, h5, h6⟩ := h
  have e : Ex H (upd H a u) := Ex.new hn
  have ed : Ex Hd (upd Hd a u) := Ex.new (h2.back hn)
  refine ⟨l, upd Hd a u, h1.trans ed, h2.upd2, h3.trans e, fun b b1 b2 => ?_, fun p hp => ?_, List.pairwise_cons.mpr ⟨fun q _ => apart_is q, h6⟩⟩
  · have ne : b ≠ a := fun z => by
      subst z
      exact b2 (h3.back hn)
    rw [upd_ne ne]
    exact h4 b b1 b2
  · rcases List.mem_cons.mp hp with z | z
    · rw [z]
      exact ⟨_, rfl, hv Hd h2 (h2.back hn) h5⟩
    · exact (h5 p z).mono ed e fun b b1 b2 => by
        have ne : b ≠ a := fun z => by
          subst z
          exact b1 hn
        rw [upd_ne ne]
        exact b2
/-- one's own list becomes known data -/
theorem HasE.share {α : Type} [Enc α] {xs : List α} (h : HasE K B H ((o, .own xs) :: ρ) σ Γ) : HasE K B H ((o, .is xs) :: ρ) σ Γ := by
  obtain ⟨l, Hd, h1, h2, h3, h4, h5, h6⟩ := h
  obtain ⟨a, vs, e1, e2, e3, e4, e5⟩ := h5 (o, .own xs) List.mem_cons_self
  have e1 : o = some (.ref a) := e1
  subst e1
  have ed : Ex Hd (upd Hd a (.lst vs)) := Ex.new e3
  have h7 := List.pairwise_cons.mp h6
  refine ⟨l, upd Hd a (.lst vs), h1.trans ed, fun b u hb => ?_, h3, fun b b1 b2 => ?_, fun p hp => ?_, List.pairwise_cons.mpr ⟨fun q _ => apart_is q, h7.2⟩⟩
  · by_cases z : b = a
    · subst z
      rw [upd_same] at hb
      rw [← hb]
      exact e4
    · rw [upd_ne z] at hb
      exact h2 b u hb
  · by_cases z : b = a
    · subst z
      exact absurd e2 b2
    · rw [upd_ne z]
      exact h4 b b1 b2
  · rcases List.mem_cons.mp hp with z | z
    · rw [z]
      exact ⟨_, rfl, a, vs, rfl, upd_same, PairedMono ed e5⟩
    · have ok := h5 p (List.mem_cons_of_mem _ z)
      obtain ⟨o', s'⟩ := p
      have key : ∀ b, owns (o', s') b → b ≠ a := fun b hb z2 => by
        subst z2
        exact h7.1 _ z b rfl hb
      cases s' with
      | no => trivial
      | is x => obtain ⟨v, g1, g2⟩ := ok; exact ⟨v, g1, Enc.mono ed g2⟩
      | own ys =>
        obtain ⟨b, ws, g1, g2, g3, g4, g5⟩ := ok
        exact ⟨b, ws, g1, g2, by rw [upd_ne (key b g1)]; exact g3, g4, PairedMono ed g5⟩
      | bor ys => obtain ⟨b, ws, g1, g4, g5⟩ := ok; exact ⟨b, ws, g1, g4, PairedMono ed g5⟩
      | arg ys => obtain ⟨b, ws, g1, g3, g4, g5⟩ := ok; exact ⟨b, ws, g1, g3, g4, PairedMono ed g5⟩
      | ownA c ys =>
        obtain ⟨b, ws, g1, g2, g3, g4, g5, g6⟩ := ok
        exact ⟨b, ws, g1, g2, by rw [upd_ne (key b g1)]; exact g3, g4, PairedMono ed g5, g6⟩
      | gen fp Φ =>
        obtain ⟨w, g1, g2, g3⟩ := ok
        exact ⟨w, g1, fun b hb => ⟨(g2 b hb).1, by rw [upd_ne (key b hb)]; exact (g2 b hb).2.1, (g2 b hb).2.2⟩, fun Hd2 H2 f1 f2 f3 => g3 Hd2 H2 (ed.trans f1) f2 f3⟩
/-- a list that is only borrowed stands at a -/
def lends (p : Slot) (a : Addr) : Prop := match p.2 with
  | @Sl.bor _ _ _ => p.1 = some (.ref a)
  | _ => False
theorem HasE.lent (h : HasE K B H ρ σ Γ) {p : Slot} (hp : p ∈ ρ ++ σ.zip Γ) {a : Addr} (l : lends p a) : H a ≠ none := by
  obtain ⟨_, Hd, h1, h2, h3, h4, h5, h6⟩ := h
  have ok := h5 p hp
  obtain ⟨o, s⟩ := p
  cases s with
  | bor xs =>
    obtain ⟨b, vs, e1, e2, e3⟩ := ok
    have l : o = some (.ref a) := l
    have e1 : o = some (.ref b) := e1
    rw [l] at e1
    injection e1 with e1
    injection e1 with e1
    subst e1
    rw [e2]
    exact fun z => nomatch z
  | no => exact l.elim
  | is x => exact l.elim
  | own x => exact l.elim
  | arg x => exact l.elim
  | ownA c x => exact l.elim
  | gen fp Φ => exact l.elim
/-- one's own list at the top changes -/
theorem HasE.mut {α β : Type} [Enc α] [Enc β] {a : Addr} {vs vs' : List V} {xs : List α} {xs' : List β} (h : HasE K B H ((some (.ref a), .own xs) :: ρ) σ Γ) (hb : ∀ p ∈ ρ ++ σ.zip Γ, ¬ lends p a)
    (hv : ∀ Hd, Ex Hd H → (∀ q ∈ ρ ++ σ.zip Γ, SlotOk K B.2 Hd H q.1 q.2) → (∀ vs, H a = some (.lst vs) → Paired (Enc.rep K Hd) vs xs) → Paired (Enc.rep K Hd) vs' xs') :
    HasE K B (upd H a (.lst vs')) ((some (.ref a), .own xs') :: ρ) σ Γ := by
  obtain ⟨l, Hd, h1, h2, h3, h4, h5, h6⟩ := h
  obtain ⟨b, ws, e1, e2, e3, e4, e5⟩ := h5 _ List.mem_cons_self
  have e1 : some (V.ref a) = some (V.ref b) := e1
  injection e1 with e1
  injection e1 with e1
  subst e1
  have h7 := List.pairwise_cons.mp h6
  refine ⟨l, Hd, h1, h2.mut e3, h3.mut e2, h4, fun p hp => ?_, List.pairwise_cons.mpr ⟨fun q hq c o1 o2 => h7.1 q hq c o1 o2, h7.2⟩⟩
  rcases List.mem_cons.mp hp with z | z
  · rw [z]
    exact ⟨a, vs', rfl, e2, e3, upd_same, hv Hd h2 (fun q hq => h5 q (List.mem_cons_of_mem _ hq)) fun ws' e => by
      rw [e4] at e
      injection e with e
      injection e with e
      subst e
      exact e5⟩
  · have ok := h5 p (List.mem_cons_of_mem _ z)
    have hap := h7.1 p z
    have hl := hb p z
    obtain ⟨o', s'⟩ := p
    cases s' with
    | no => trivial
    | is x => exact ok
    | own ys =>
      obtain ⟨b, us, g1, g2, g3, g4, g5⟩ := ok
      have ne : b ≠ a := fun c => by
        subst c
        exact hap b rfl g1
      exact ⟨b, us, g1, g2, g3, by rw [upd_ne ne]; exact g4, g5⟩
    | bor ys =>
      obtain ⟨b, us, g1, g4, g5⟩ := ok
      have ne : b ≠ a := fun c => by
        subst c
        exact hl g1
      exact ⟨b, us, g1, by rw [upd_ne ne]; exact g4, g5⟩
    | arg ys =>
      obtain ⟨b, us, g1, g3, g4, g5⟩ := ok
      have ne : b ≠ a := fun c => by
        subst c
        exact g3 e2
      exact ⟨b, us, g1, g3, by rw [upd_ne ne]; exact g4, g5⟩
    | ownA c ys =>
      obtain ⟨b, us, g1, g2, g3, g4, g5, g6⟩ := ok
      have ne : b ≠ a := fun c => by
        subst c
        exact hap b rfl g1
      exact ⟨b, us, g1, g2, g3, by rw [upd_ne ne]; exact g4, g5, g6⟩
    | gen fp Φ =>
      obtain ⟨w, g1, g2, g3⟩ := ok
      have ne : ∀ b ∈ fp, b ≠ a := fun b hbb c => by
        subst c
        exact hap b rfl hbb
      exact ⟨w, g1, fun b hb => ⟨(g2 b hb).1, (g2 b hb).2.1, by rw [upd_ne (ne b hb)]; exact (g2 b hb).2.2⟩, fun Hd2 H2 f1 f2 f3 => g3 Hd2 H2 f1 f2 fun b hb => by rw [f3 b hb, upd_ne (ne b hb)]⟩
end
end DX
namespace DX
open PySem PySem.Spec PyProof.Rows L2

/-! ### what runs -/
section
variable (X : Cx)
def wE (e : Expr) : TE := fun σ H Q => ∀ (pins : List (Addr × Obj)) (s : Shared), Inv X pins σ H s → wpAny (model X.prog X.w) X.A (eval e X.env) (EP X pins σ Q) X.xe s
def wT (e : Expr) : TT := fun σ H Q => ∀ (pins : List (Addr × Obj)) (s : Shared), Inv X pins σ H s → wpAny (model X.prog X.w) X.A (isTrue e X.env (eval e X.env)) (TP X pins σ Q) X.xe s
def wW (e : Expr) : TT := fun σ H Q => ∀ (whole : Sem Value) (pins : List (Addr × Obj)) (s : Shared), Inv X pins σ H s → wpAny (model X.prog X.w) X.A (isTrue e X.env whole) (TP X pins σ Q) X.xe s
def wA (es : List Expr) : TA := fun σ H Q => ∀ (pos : Pos) (pins : List (Addr × Obj)) (s : Shared), Inv X pins σ H s → wpAny (model X.prog X.w) X.A (spliced (backTo pos (starEach es X.env))) (AP X pins σ Q) X.xe s
def wS (sts : List Stmt) : TS := fun D σ H => ∀ (pins : List (Addr × Obj)) (s : Shared), Inv X pins σ H s → wpAny (model X.prog X.w) X.A (execs sts X.env) (SP X pins D) X.xe s
def w1 (st : Stmt) : TS := fun D σ H => ∀ (pins : List (Addr × Obj)) (s : Shared), Inv X pins σ H s → wpAny (model X.prog X.w) X.A (exec st X.env) (SP X pins D) X.xe s
def wI (tg iter : Expr) : TI := fun σ H R => ∀ (pins : List (Addr × Obj)) (s : Shared), Inv X pins σ H s → wpAny (model X.prog X.w) X.A (eval iter X.env) (fun v s1 => wpAny (model X.prog X.w) X.A (pyIter v) (PIE X pins σ tg R) X.xe s1) X.xe s
end
section
variable {X : Cx} {e : Expr} {es : List Expr} {sts : List Stmt} {st : Stmt}
theorem peW : PE X e (wE X e) := ⟨fun pins s _ _ _ I h => h pins s I⟩
theorem ptW : PT X e (wT X e) := ⟨fun pins s _ _ _ I h => h pins s I⟩
theorem pwW : PW X e (wW X e) := ⟨fun w pins s _ _ _ I h => h w pins s I⟩
theorem paW : PA X es (wA X es) := ⟨fun pos pins s _ _ _ I h => h pos pins s I⟩
theorem pssW : PSs X sts (wS X sts) := ⟨fun pins s _ _ _ I h => h pins s I⟩
theorem psW : PS X st (w1 X st) := ⟨fun pins s _ _ _ I h => h pins s I⟩
theorem piW {tg iter : Expr} : PI X tg iter (wI X tg iter) := ⟨fun pins s _ _ _ I h => h pins s I⟩
theorem goE {t : TE} {σ : L2.St} {H : Hp} {Q : VK} (h : PE X e t) (q : t σ H Q) : wE X e σ H Q := fun pins s I => h.run pins s σ H Q I q
theorem goT {t : TT} {σ : L2.St} {H : Hp} {Q : Bool → Hp → Prop} (h : PT X e t) (q : t σ H Q) : wT X e σ H Q := fun pins s I => h.run pins s σ H Q I q
theorem goW {t : TT} {σ : L2.St} {H : Hp} {Q : Bool → Hp → Prop} (h : PW X e t) (q : t σ H Q) : wW X e σ H Q := fun w pins s I => h.run w pins s σ H Q I q
theorem goA {t : TA} {σ : L2.St} {H : Hp} {Q : List V → Hp → Prop} (h : PA X es t) (q : t σ H Q) : wA X es σ H Q := fun pos pins s I => h.run pos pins s σ H Q I q
theorem goSs {t : TS} {σ : L2.St} {H : Hp} {D : Ends} (h : PSs X sts t) (q : t D σ H) : wS X sts D σ H := fun pins s I => h.run pins s σ H D I q
theorem go1 {t : TS} {σ : L2.St} {H : Hp} {D : Ends} (h : PS X st t) (q : t D σ H) : w1 X st D σ H := fun pins s I => h.run pins s σ H D I q
theorem goI {tg iter : Expr} {t : TI} {σ : L2.St} {H : Hp} {R : It → Hp → Prop} (h : PI X tg iter t) (q : t σ H R) : wI X tg iter σ H R := fun pins s I => h.run pins s σ H R I q
end

/-! ### judgements -/
def pushAll : List V → List Sl → List Slot → List Slot
  | v :: vs, s :: ss, ρ => pushAll vs ss ((some v, s) :: ρ)
  | _, _, ρ => ρ
structure PX (X : Cx) (Γ : List Sl) (e : Expr) (s : Sl) : Prop where
  run : ∀ (B : Hp × Hp) (ρ : List Slot) (σ : L2.St) (H : Hp), HasE X.K B H ρ σ Γ → ∀ Q : VK, (∀ v H', Ex H H' → HasE X.K B H' ((some v, s) :: ρ) σ Γ → Q v H') → wE X e σ H Q
structure TX (X : Cx) (Γ : List Sl) (e : Expr) (b : Bool) : Prop where
  run : ∀ (B : Hp × Hp) (ρ : List Slot) (σ : L2.St) (H : Hp), HasE X.K B H ρ σ Γ → ∀ Q : Bool → Hp → Prop, (∀ H', Ex H H' → HasE X.K B H' ρ σ Γ → Q b H') → wT X e σ H Q
structure WX (X : Cx) (Γ : List Sl) (e : Expr) (b : Bool) : Prop where
  run : ∀ (B : Hp × Hp) (ρ : List Slot) (σ : L2.St) (H : Hp), HasE X.K B H ρ σ Γ → ∀ Q : Bool → Hp → Prop, (∀ H', Ex H H' → HasE X.K B H' ρ σ Γ → Q b H') → wW X e σ H Q
structure AX (X : Cx) (Γ : List Sl) (es : List Expr) (ss : List Sl) : Prop where
  run : ∀ (B : Hp × Hp) (ρ : List Slot) (σ : L2.St) (H : Hp), HasE X.K B H ρ σ Γ → ∀ Q : List V → Hp → Prop, (∀ vs H', Ex H H' → vs.length = ss.length → HasE X.K B H' (pushAll vs ss ρ) σ Γ → Q vs H') → wA X es σ H Q

section
variable {X : Cx} {Γ : List Sl} {e a b c : Expr} {es : List Expr} {s : Sl} {pos p : Pos}

/-! ### atoms -/
theorem px_int {i : Int} {j : Nat} : PX X Γ (.Constant (.int i) j pos) (.is i) := ⟨fun B ρ σ H h Q q => goE pe_int (q _ H (Ex.refl H) (h.pushSc i))⟩
theorem px_bool {i : Bool} {j : Nat} : PX X Γ (.Constant (.bool i) j pos) (.is i) := ⟨fun B ρ σ H h Q q => goE pe_bl (q _ H (Ex.refl H) (h.pushSc i))⟩
theorem px_none {j : Nat} : PX X Γ (.Constant .none j pos) (.is ()) := ⟨fun B ρ σ H h Q q => goE pe_non (q _ H (Ex.refl H) (h.pushSc ()))⟩
theorem pushTx {K : PySem.W.Frag} {B : Hp × Hp} {H : Hp} {ρ : List Slot} {σ : L2.St} {Γ : List Sl} (x : List Nat) (h : HasE K B H ρ σ Γ) : HasE K B H ((some (V.str (mkS x)), .is x) :: ρ) σ Γ :=
  h.push (fun q => apart_is q) fun _ _ _ => ⟨_, rfl, rfl⟩
theorem topTx {K : PySem.W.Frag} {B : Hp × Hp} {H : Hp} {ρ : List Slot} {σ : L2.St} {Γ : List Sl} {x : List Nat} {o : Option V} (h : HasE K B H ((o, .is x) :: ρ) σ Γ) : o = some (V.str (mkS x)) := by
  obtain ⟨l, Hd, h1, h2, h3, h4, h5, h6⟩ := h
  obtain ⟨v, e1, e2⟩ := h5 (o, .is x) List.mem_cons_self
  have e2 : v = V.str (mkS x) := e2
  have e1 : o = some v := e1
  rw [e1, e2]
theorem px_str {z : Str} {j : Nat} {x : List Nat} (h : z = mkS x) : PX X Γ (.Constant (.str z) j pos) (.is x) := by
  subst h
  exact ⟨fun B ρ σ H h Q q => goE pe_str (q _ H (Ex.refl H) (pushTx x h))⟩
theorem px_var {α : Type} [Enc α] {x : α} {y : Str} (i : Nat) (g : Γ[i]? = some (.is x)) (hN : X.N[i]? = some y := by rfl) (hv : Vis X.env.scope y := by first | exact Or.inl rfl | exact Or.inr (Or.inl rfl) | exact Or.inr (Or.inr rfl))
    (hd : (y == ("__debug__" : Str)) = false := by decide) (hcd : (y == ("__classdict__" : Str)) = false := by decide) : PX X Γ (.Name y p) (.is x) := ⟨fun B ρ σ H h Q q => by
  obtain ⟨v, hi, h'⟩ := h.var g
  exact goE (pe_var hN hv hd hcd) ⟨v, hi, q v H (Ex.refl H) h'⟩⟩
theorem px_varO {α : Type} [Enc α] {x : List α} {y : Str} {s : Sl} (i : Nat) (lk : Lk s x) (g : Γ[i]? = some s) (hN : X.N[i]? = some y := by rfl) (hv : Vis X.env.scope y := by first | exact Or.inl rfl | exact Or.inr (Or.inl rfl) | exact Or.inr (Or.inr rfl))
    (hd : (y == ("__debug__" : Str)) = false := by decide) (hcd : (y == ("__classdict__" : Str)) = false := by decide) : PX X Γ (.Name y p) (.bor x) := ⟨fun B ρ σ H h Q q => by
  obtain ⟨v, hi, h'⟩ := h.varL lk g
  exact goE (pe_var hN hv hd hcd) ⟨v, hi, q v H (Ex.refl H) h'⟩⟩
theorem px_globI {i : Int} {y : Str} {t : Tok} (hg : Gl X y) (hm : X.mg y = some (.int i t)) (hd : (y == ("__debug__" : Str)) = false := by decide) : PX X Γ (.Name y p) (.is i) :=
  ⟨fun B ρ σ H h Q q => goE (pe_glob (v := .int i) hg hm ⟨t, rfl⟩ hd) (q _ H (Ex.refl H) (h.pushSc i))⟩
theorem px_share {α : Type} [Enc α] {x : List α} (h : PX X Γ e (.own x)) : PX X Γ e (.is x) := ⟨fun B ρ σ H h' Q q => h.run B ρ σ H h' Q fun v H' e k => q v H' e k.share⟩
theorem px_is {s t : Sl} (h : PX X Γ e s) (q : s = t) : PX X Γ e t := q ▸ h

/-! ### operators on scalars -/
theorem px_bin {α β γ : Type} [Sc α] [Sc β] [Sc γ] {op : Operator} {r : R2} {x : α} {y : β} (z : γ) (ho : OpR X (binaryOp op) r) (hr : ∀ H (Q : VK), Q (Sc.val z) H → r (Sc.val x) (Sc.val y) H Q)
    (ha : PX X Γ a (.is x)) (hb : PX X Γ b (.is y)) : PX X Γ (.BinOp a op b pos) (.is z) := ⟨fun B ρ σ H h Q q => goE (pe_op ho peW peW) (ha.run B ρ σ H h _ fun v H1 e1 h1 => hb.run B _ σ H1 h1 _ fun w H2 e2 h2 => by
  have ew := h2.topSc
  have ev := h2.swap.topSc
  injection ew with ew
  injection ev with ev
  subst ew ev
  exact hr _ _ (q _ H2 (e1.trans e2) (h2.pop.pop.pushSc z)))⟩
theorem px_add {x y : Int} (ha : PX X Γ a (.is x)) (hb : PX X Γ b (.is y)) : PX X Γ (.BinOp a .Add b pos) (.is (x + y)) := px_bin (x + y) op_add (fun _ _ q => ⟨x, y, rfl, rfl, q⟩) ha hb
theorem px_sub {x y : Int} (ha : PX X Γ a (.is x)) (hb : PX X Γ b (.is y)) : PX X Γ (.BinOp a .Sub b pos) (.is (x - y)) := px_bin (x - y) op_sub (fun _ _ q => ⟨x, y, rfl, rfl, q⟩) ha hb
theorem px_mul {x y : Int} (ha : PX X Γ a (.is x)) (hb : PX X Γ b (.is y)) (hc : CMul x y) : PX X Γ (.BinOp a .Mult b pos) (.is (x * y)) := px_bin (x * y) op_mul (fun _ _ q => ⟨x, y, rfl, rfl, hc, q⟩) ha hb
theorem px_mod {x y : Int} (ha : PX X Γ a (.is x)) (hb : PX X Γ b (.is y)) (hc : 0 < y) : PX X Γ (.BinOp a .Mod b pos) (.is (x % y)) := px_bin (x % y) op_mod (fun _ _ q => ⟨x, y, rfl, rfl, hc, q⟩) ha hb
theorem px_div {x y : Int} (ha : PX X Γ a (.is x)) (hb : PX X Γ b (.is y)) (hc : CDivW x y) : PX X Γ (.BinOp a .FloorDiv b pos) (.is (x / y)) := px_bin (x / y) op_fdivW (fun _ _ q => ⟨x, y, rfl, rfl, hc, q⟩) ha hb
theorem px_pow {x y : Int} (ha : PX X Γ a (.is x)) (hb : PX X Γ b (.is y)) (hc : CPow x y) : PX X Γ (.BinOp a .Pow b pos) (.is (x ^ y.toNat)) := px_bin (x ^ y.toNat) op_pow (fun _ _ q => ⟨x, y, rfl, rfl, hc, q⟩) ha hb
theorem px_neg {x : Int} (ha : PX X Γ a (.is x)) : PX X Γ (.UnaryOp .USub a pos) (.is (-x)) := ⟨fun B ρ σ H h Q q => goE (pe_un un_neg peW) (ha.run B ρ σ H h _ fun v H1 e1 h1 => by
  have ev := h1.topSc
  injection ev with ev
  subst ev
  exact ⟨x, rfl, q _ H1 e1 (h1.pop.pushSc (-x))⟩)⟩
theorem binTx {r : R2} {x y : List Nat} {z : Sl} {op : Operator} (ho : OpR X (binaryOp op) r)
    (hr : ∀ B ρ σ H (Q : VK), HasE X.K B H ρ σ Γ → (∀ v H', Ex H H' → HasE X.K B H' ((some v, z) :: ρ) σ Γ → Q v H') → r (.str (mkS x)) (.str (mkS y)) H Q)
    (ha : PX X Γ a (.is x)) (hb : PX X Γ b (.is y)) : PX X Γ (.BinOp a op b pos) z := ⟨fun B ρ σ H h Q q => goE (pe_op ho peW peW) (ha.run B ρ σ H h _ fun v H1 e1 h1 => hb.run B _ σ H1 h1 _ fun w H2 e2 h2 => by
  have ew := topTx h2
  have ev := topTx h2.swap
  injection ew with ew
  injection ev with ev
  subst ew ev
  exact hr B ρ σ H2 Q h2.pop.pop fun v H' e3 h3 => q v H' ((e1.trans e2).trans e3) h3)⟩
theorem px_addS {x y : List Nat} (ha : PX X Γ a (.is x)) (hb : PX X Γ b (.is y)) (hc : x.length + y.length ≤ sizeLine) : PX X Γ (.BinOp a .Add b pos) (.is (x ++ y)) :=
  binTx op_add_str (fun B ρ σ H Q h q => ⟨_, _, rfl, rfl, by rw [mkS_length, mkS_length]; exact hc, by rw [mkS_append]; exact q _ H (Ex.refl H) (pushTx _ h)⟩) ha hb

/-! ### comparisons as values -/
theorem px_cmp {α β : Type} [Sc α] [Sc β] {op : CmpOp} {r : R2} {x : α} {y : β} (z : Bool) (ho : OpR X (compareOp op) r) (hm : behindInMarks op b = false) (hr : ∀ H (Q : VK), Q (.bl z) H → r (Sc.val x) (Sc.val y) H Q)
    (ha : PX X Γ a (.is x)) (hb : PX X Γ b (.is y)) : PX X Γ (.Compare a [op] [b] pos) (.is z) := ⟨fun B ρ σ H h Q q => goE (pe_cmpR ho peW peW hm) (ha.run B ρ σ H h _ fun v H1 e1 h1 => hb.run B _ σ H1 h1 _ fun w H2 e2 h2 => by
  have ew := h2.topSc
  have ev := h2.swap.topSc
  injection ew with ew
  injection ev with ev
  subst ew ev
  exact hr _ _ (q _ H2 (e1.trans e2) (h2.pop.pop.pushSc z)))⟩
theorem tx_cmp {α β : Type} [Sc α] [Sc β] {op : CmpOp} {r : R2} {x : α} {y : β} (z : Bool) (ho : OpR X (compareOp op) r) (hm : behindInMarks op b = false) (hr : ∀ H (Q : VK), Q (.bl z) H → r (Sc.val x) (Sc.val y) H Q)
    (ha : PX X Γ a (.is x)) (hb : PX X Γ b (.is y)) : TX X Γ (.Compare a [op] [b] pos) z := ⟨fun B ρ σ H h Q q => goT (pt_cmpR ho peW peW hm) (ha.run B ρ σ H h _ fun v H1 e1 h1 => hb.run B _ σ H1 h1 _ fun w H2 e2 h2 => by
  have ew := h2.topSc
  have ev := h2.swap.topSc
  injection ew with ew
  injection ev with ev
  subst ew ev
  exact hr _ _ ⟨z, rfl, q H2 (e1.trans e2) h2.pop.pop⟩)⟩
theorem tx_val {x : Bool} (h : PX X Γ e (.is x)) (he : ∀ whole, isTrue e X.env whole = (do let v ← whole; standAt e.pos; holding [v] (truthy v)) := by intro _; rfl) : TX X Γ e x := ⟨fun B ρ σ H h' Q q => goT (pt_val peW he) (h.run B ρ σ H h' _ fun v H1 e1 h1 => by
  have ev := h1.topSc
  injection ev with ev
  subst ev
  exact ⟨x, rfl, q H1 e1 h1.pop⟩)⟩
theorem tx_not {x : Bool} (h : TX X Γ e x) : TX X Γ (.UnaryOp .Not e pos) (!x) := ⟨fun B ρ σ H h' Q q => goT (pt_not ptW) (h.run B ρ σ H h' _ fun H1 e1 h1 => q H1 e1 h1)⟩
theorem px_not {x : Bool} (h : PX X Γ e (.is x)) : PX X Γ (.UnaryOp .Not e pos) (.is (!x)) := ⟨fun B ρ σ H h' Q q => goE (pe_not peW) (h.run B ρ σ H h' _ fun v H1 e1 h1 => by
  have ev := h1.topSc
  injection ev with ev
  subst ev
  exact ⟨x, rfl, q _ H1 e1 (h1.pop.pushSc (!x))⟩)⟩
theorem tx_w {x : Bool} (h : WX X Γ e x) : TX X Γ e x := ⟨fun B ρ σ H h' Q q => goT (PW.pt pwW) (h.run B ρ σ H h' Q q)⟩
theorem wx_and1 {x : Bool} (h : TX X Γ e x) : WX X Γ (.BoolOp .And [e] pos) x := ⟨fun B ρ σ H h' Q q => goW (pw_and1 ptW) (h.run B ρ σ H h' Q q)⟩
theorem wx_or1 {x : Bool} (h : TX X Γ e x) : WX X Γ (.BoolOp .Or [e] pos) x := ⟨fun B ρ σ H h' Q q => goW (pw_or1 ptW) (h.run B ρ σ H h' Q q)⟩
theorem wx_and {x y : Bool} (h : TX X Γ e x) (h2 : x = true → WX X Γ (.BoolOp .And (a :: es) pos) y) : WX X Γ (.BoolOp .And (e :: a :: es) pos) (x && y) := ⟨fun B ρ σ H h' Q q => goW (pw_and ptW pwW) (h.run B ρ σ H h' _ fun H1 e1 h1 => by
  cases x with
  | true => exact (h2 rfl).run B ρ σ H1 h1 Q fun H2 e2 k => q H2 (e1.trans e2) k
  | false => exact q H1 e1 h1)⟩
theorem wx_or {x y : Bool} (h : TX X Γ e x) (h2 : x = false → WX X Γ (.BoolOp .Or (a :: es) pos) y) : WX X Γ (.BoolOp .Or (e :: a :: es) pos) (x || y) := ⟨fun B ρ σ H h' Q q => goW (pw_or ptW pwW) (h.run B ρ σ H h' _ fun H1 e1 h1 => by
  cases x with
  | false => exact (h2 rfl).run B ρ σ H1 h1 Q fun H2 e2 k => q H2 (e1.trans e2) k
  | true => exact q H1 e1 h1)⟩
theorem px_and1 {op} {s : Sl} (h : PX X Γ e s) : PX X Γ (.BoolOp op [e] pos) s := ⟨fun B ρ σ H h' Q q => goE (pe_one peW) (h.run B ρ σ H h' Q q)⟩
theorem px_and {x y : Bool} (h : PX X Γ e (.is x)) (h2 : x = true → PX X Γ (.BoolOp .And (a :: es) pos) (.is y)) : PX X Γ (.BoolOp .And (e :: a :: es) pos) (.is (x && y)) := ⟨fun B ρ σ H h' Q q => goE (pe_and peW peW) (h.run B ρ σ H h' _ fun v H1 e1 h1 => by
  have ev := h1.topSc
  injection ev with ev
  subst ev
  refine ⟨x, rfl, ?_⟩
  cases x with
  | true => exact (h2 rfl).run B ρ σ H1 h1.pop Q fun v H2 e2 k => q v H2 (e1.trans e2) k
  | false => exact q _ H1 e1 h1)⟩
theorem px_or {x y : Bool} (h : PX X Γ e (.is x)) (h2 : x = false → PX X Γ (.BoolOp .Or (a :: es) pos) (.is y)) : PX X Γ (.BoolOp .Or (e :: a :: es) pos) (.is (x || y)) := ⟨fun B ρ σ H h' Q q => goE (pe_or peW peW) (h.run B ρ σ H h' _ fun v H1 e1 h1 => by
  have ev := h1.topSc
  injection ev with ev
  subst ev
  refine ⟨x, rfl, ?_⟩
  cases x with
  | false => exact (h2 rfl).run B ρ σ H1 h1.pop Q fun v H2 e2 k => q v H2 (e1.trans e2) k
  | true => exact q _ H1 e1 h1)⟩
theorem px_if {α : Type} [Enc α] {x : Bool} {y z : α} (h : TX X Γ c x) (h1 : x = true → PX X Γ a (.is y)) (h2 : x = false → PX X Γ b (.is z)) : PX X Γ (.IfExp c a b pos) (.is (if x = true then y else z)) := ⟨fun B ρ σ H h' Q q => goE (pe_ifExp ptW peW peW) (h.run B ρ σ H h' _ fun H1 e1 k1 => by
  cases x with
  | true => exact (h1 rfl).run B ρ σ H1 k1 Q fun v H2 e2 k => q v H2 (e1.trans e2) k
  | false => exact (h2 rfl).run B ρ σ H1 k1 Q fun v H2 e2 k => q v H2 (e1.trans e2) k)⟩

theorem px_lt {x y : Int} (ha : PX X Γ a (.is x)) (hb : PX X Γ b (.is y)) : PX X Γ (.Compare a [.Lt] [b] pos) (.is (decide (x < y))) := px_cmp _ op_lt (nomark _) (fun _ _ q => ⟨x, y, rfl, rfl, q⟩) ha hb
theorem px_le {x y : Int} (ha : PX X Γ a (.is x)) (hb : PX X Γ b (.is y)) : PX X Γ (.Compare a [.LtE] [b] pos) (.is (decide (x ≤ y))) := px_cmp _ op_le (nomark _) (fun _ _ q => ⟨x, y, rfl, rfl, q⟩) ha hb
theorem px_gt {x y : Int} (ha : PX X Γ a (.is x)) (hb : PX X Γ b (.is y)) : PX X Γ (.Compare a [.Gt] [b] pos) (.is (decide (x > y))) := px_cmp _ op_gt (nomark _) (fun _ _ q => ⟨x, y, rfl, rfl, q⟩) ha hb
theorem px_ge {x y : Int} (ha : PX X Γ a (.is x)) (hb : PX X Γ b (.is y)) : PX X Γ (.Compare a [.GtE] [b] pos) (.is (decide (x ≥ y))) := px_cmp _ op_ge (nomark _) (fun _ _ q => ⟨x, y, rfl, rfl, q⟩) ha hb
theorem tx_lt {x y : Int} (ha : PX X Γ a (.is x)) (hb : PX X Γ b (.is y)) : TX X Γ (.Compare a [.Lt] [b] pos) (decide (x < y)) := tx_cmp _ op_lt (nomark _) (fun _ _ q => ⟨x, y, rfl, rfl, q⟩) ha hb
theorem tx_le {x y : Int} (ha : PX X Γ a (.is x)) (hb : PX X Γ b (.is y)) : TX X Γ (.Compare a [.LtE] [b] pos) (decide (x ≤ y)) := tx_cmp _ op_le (nomark _) (fun _ _ q => ⟨x, y, rfl, rfl, q⟩) ha hb
theorem tx_gt {x y : Int} (ha : PX X Γ a (.is x)) (hb : PX X Γ b (.is y)) : TX X Γ (.Compare a [.Gt] [b] pos) (decide (x > y)) := tx_cmp _ op_gt (nomark _) (fun _ _ q => ⟨x, y, rfl, rfl, q⟩) ha hb
theorem tx_ge {x y : Int} (ha : PX X Γ a (.is x)) (hb : PX X Γ b (.is y)) : TX X Γ (.Compare a [.GtE] [b] pos) (decide (x ≥ y)) := tx_cmp _ op_ge (nomark _) (fun _ _ q => ⟨x, y, rfl, rfl, q⟩) ha hb
theorem dec_valI {x y : Int} : decide (V.int x = V.int y) = decide (x = y) := by
  by_cases h : x = y
  · subst h; simp
  · rw [decide_eq_false h, decide_eq_false]
    intro q
    exact h (V.int.inj q)
theorem dec_valB {x y : Bool} : decide (V.bl x = V.bl y) = decide (x = y) := by
  by_cases h : x = y
  · subst h; simp
  · rw [decide_eq_false h, decide_eq_false]
    intro q
    exact h (V.bl.inj q)
theorem dec_valS {x y : List Nat} : decide (V.str (mkS x) = V.str (mkS y)) = decide (x = y) := by
  by_cases h : x = y
  · subst h; simp
  · rw [decide_eq_false h, decide_eq_false]
    intro q
    exact h (mkS_inj (V.str.inj q))
theorem px_eq {x y : Int} (ha : PX X Γ a (.is x)) (hb : PX X Γ b (.is y)) : PX X Γ (.Compare a [.Eq] [b] pos) (.is (decide (x = y))) := px_cmp _ op_eq (nomark _) (fun _ _ q => ⟨rfl, by rw [show decide (Sc.val x = Sc.val y) = decide (x = y) from dec_valI]; exact q⟩) ha hb
theorem tx_eq {x y : Int} (ha : PX X Γ a (.is x)) (hb : PX X Γ b (.is y)) : TX X Γ (.Compare a [.Eq] [b] pos) (decide (x = y)) := tx_cmp _ op_eq (nomark _) (fun _ _ q => ⟨rfl, by rw [show decide (Sc.val x = Sc.val y) = decide (x = y) from dec_valI]; exact q⟩) ha hb
theorem px_eqB {x y : Bool} (ha : PX X Γ a (.is x)) (hb : PX X Γ b (.is y)) : PX X Γ (.Compare a [.Eq] [b] pos) (.is (decide (x = y))) := px_cmp _ op_eq (nomark _) (fun _ _ q => ⟨rfl, by rw [show decide (Sc.val x = Sc.val y) = decide (x = y) from dec_valB]; exact q⟩) ha hb
theorem px_ne {x y : Int} (ha : PX X Γ a (.is x)) (hb : PX X Γ b (.is y)) : PX X Γ (.Compare a [.NotEq] [b] pos) (.is (!decide (x = y))) := px_cmp _ op_ne (nomark _) (fun _ _ q => ⟨rfl, by rw [show decide (Sc.val x = Sc.val y) = decide (x = y) from dec_valI]; exact q⟩) ha hb
theorem tx_ne {x y : Int} (ha : PX X Γ a (.is x)) (hb : PX X Γ b (.is y)) : TX X Γ (.Compare a [.NotEq] [b] pos) (!decide (x = y)) := tx_cmp _ op_ne (nomark _) (fun _ _ q => ⟨rfl, by rw [show decide (Sc.val x = Sc.val y) = decide (x = y) from dec_valI]; exact q⟩) ha hb
/-- two texts compared -/
theorem px_cmpS {op : CmpOp} {r : R2} {x y : List Nat} (z : Bool) (ho : OpR X (compareOp op) r) (hm : behindInMarks op b = false) (hr : ∀ H (Q : VK), Q (.bl z) H → r (.str (mkS x)) (.str (mkS y)) H Q)
    (ha : PX X Γ a (.is x)) (hb : PX X Γ b (.is y)) : PX X Γ (.Compare a [op] [b] pos) (.is z) := ⟨fun B ρ σ H h Q q => goE (pe_cmpR ho peW peW hm) (ha.run B ρ σ H h _ fun v H1 e1 h1 => hb.run B _ σ H1 h1 _ fun w H2 e2 h2 => by
  have ew := topTx h2
  have ev := topTx h2.swap
  injection ew with ew
  injection ev with ev
  subst ew ev
  exact hr _ _ (q _ H2 (e1.trans e2) (h2.pop.pop.pushSc z)))⟩
theorem tx_cmpS {op : CmpOp} {r : R2} {x y : List Nat} (z : Bool) (ho : OpR X (compareOp op) r) (hm : behindInMarks op b = false) (hr : ∀ H (Q : VK), Q (.bl z) H → r (.str (mkS x)) (.str (mkS y)) H Q)
    (ha : PX X Γ a (.is x)) (hb : PX X Γ b (.is y)) : TX X Γ (.Compare a [op] [b] pos) z := ⟨fun B ρ σ H h Q q => goT (pt_cmpR ho peW peW hm) (ha.run B ρ σ H h _ fun v H1 e1 h1 => hb.run B _ σ H1 h1 _ fun w H2 e2 h2 => by
  have ew := topTx h2
  have ev := topTx h2.swap
  injection ew with ew
  injection ev with ev
  subst ew ev
  exact hr _ _ ⟨z, rfl, q H2 (e1.trans e2) h2.pop.pop⟩)⟩
theorem px_eqS {x y : List Nat} (ha : PX X Γ a (.is x)) (hb : PX X Γ b (.is y)) : PX X Γ (.Compare a [.Eq] [b] pos) (.is (decide (x = y))) := px_cmpS _ op_eq (nomark _) (fun _ _ q => ⟨rfl, by rw [dec_valS]; exact q⟩) ha hb
theorem tx_eqS {x y : List Nat} (ha : PX X Γ a (.is x)) (hb : PX X Γ b (.is y)) : TX X Γ (.Compare a [.Eq] [b] pos) (decide (x = y)) := tx_cmpS _ op_eq (nomark _) (fun _ _ q => ⟨rfl, by rw [dec_valS]; exact q⟩) ha hb
theorem px_neS {x y : List Nat} (ha : PX X Γ a (.is x)) (hb : PX X Γ b (.is y)) : PX X Γ (.Compare a [.NotEq] [b] pos) (.is (!decide (x = y))) := px_cmpS _ op_ne (nomark _) (fun _ _ q => ⟨rfl, by rw [dec_valS]; exact q⟩) ha hb
theorem tx_neS {x y : List Nat} (ha : PX X Γ a (.is x)) (hb : PX X Γ b (.is y)) : TX X Γ (.Compare a [.NotEq] [b] pos) (!decide (x = y)) := tx_cmpS _ op_ne (nomark _) (fun _ _ q => ⟨rfl, by rw [dec_valS]; exact q⟩) ha hb
end
end DX
namespace DX
open PySem PySem.Spec PyProof.Rows L2

/-! ### argument lists -/
theorem HasE.popAll {K : PySem.W.Frag} {B : Hp × Hp} {H : Hp} {σ : L2.St} {Γ : List Sl} : ∀ {vs : List V} {ss : List Sl} {ρ : List Slot}, HasE K B H (pushAll vs ss ρ) σ Γ → HasE K B H ρ σ Γ
  | [], [], _, h => h
  | [], _ :: _, _, h => h
  | _ :: _, [], _, h => h
  | v :: vs, s :: ss, ρ, h => (HasE.popAll (vs := vs) (ss := ss) (ρ := (some v, s) :: ρ) h).pop
theorem pushAll_mem : ∀ {vs : List V} {ss : List Sl} {ρ : List Slot} {p : Slot}, (p ∈ (vs.map some).zip ss ∨ p ∈ ρ) → p ∈ pushAll vs ss ρ
  | [], [], _, _, h => h.elim (fun z => nomatch z) id
  | [], _ :: _, _, _, h => h.elim (fun z => nomatch z) id
  | _ :: _, [], _, _, h => h.elim (fun z => nomatch z) id
  | v :: vs, s :: ss, ρ, p, h => pushAll_mem (vs := vs) (ss := ss) (ρ := (some v, s) :: ρ) (by
      rcases h with h | h
      · rcases List.mem_cons.mp h with h | h
        · rw [h]; exact .inr List.mem_cons_self
        · exact .inl h
      · exact .inr (List.mem_cons_of_mem _ h))
section
variable {X : Cx} {Γ : List Sl} {e a b c : Expr} {es : List Expr} {s : Sl} {ss : List Sl} {pos p apos cpos p2 p3 : Pos}
theorem ax_nil : AX X Γ [] [] := ⟨fun B ρ σ H h Q q => goA pa_nil (q [] H (Ex.refl H) rfl h)⟩
theorem ax_cons (h : PX X Γ e s) (t : AX X Γ es ss) (hs : starEach (e :: es) X.env = (false, eval e X.env) :: starEach es X.env := by rfl) : AX X Γ (e :: es) (s :: ss) :=
  ⟨fun B ρ σ H h' Q q => goA (pa_cons peW paW hs) (h.run B ρ σ H h' _ fun v H1 e1 h1 => t.run B _ σ H1 h1 _ fun vs H2 e2 l h2 => q (v :: vs) H2 (e1.trans e2) (by simp [l]) h2)⟩
/-- written items of one kind -/
theorem paired_of {K : PySem.W.Frag} {α : Type} [Enc α] {B1 Hd H : Hp} : ∀ {vs : List V} {xs : List α}, vs.length = xs.length → (∀ q ∈ (vs.map some).zip (xs.map Sl.is), SlotOk K B1 Hd H q.1 q.2) → Paired (Enc.rep K Hd) vs xs
  | [], [], _, _ => .nil
  | [], _ :: _, l, _ => by simp at l
  | _ :: _, [], l, _ => by simp at l
  | v :: vs, x :: xs, l, h => by
    obtain ⟨w, e1, e2⟩ := h (some v, .is x) List.mem_cons_self
    have e1 : some v = some w := e1
    injection e1 with e1
    subst e1
    exact .cons e2 (paired_of (by simpa using l) fun q hq => h q (List.mem_cons_of_mem _ hq))
theorem px_list {α : Type} [Enc α] (xs : List α) (h : AX X Γ es ss) (e : ss = xs.map Sl.is := by rfl) (hz : xs.length ≤ sizeLine := by first | decide | (simp only [List.length_cons, List.length_nil]; decide)) : PX X Γ (.List es pos) (.own xs) := ⟨fun B ρ σ H h' Q q => goE (pe_lst paW) (h.run B ρ σ H h' _ fun vs H1 e1 l h1 => by
  subst e
  have l' : vs.length = xs.length := by simpa using l
  refine ⟨by rw [l']; exact hz, fun p hp => ?_⟩
  refine q _ _ (e1.trans (Ex.new hp)) ?_
  refine (HasE.newOwn (xs := xs) h1 hp fun Hd _ ok => paired_of l' fun r hr => ok r (List.mem_append_left _ (pushAll_mem (.inl hr)))) |> fun z => ?_
  obtain ⟨zl, zHd, z1, z2, z3, z4, z5, z6⟩ := z
  have key : HasE X.K B (upd H1 p (.lst vs)) ((some (.ref p), .own xs) :: pushAll vs (xs.map Sl.is) ρ) σ Γ := ⟨zl, zHd, z1, z2, z3, z4, z5, z6⟩
  exact drop_mid key)⟩
where drop_mid {B : Hp × Hp} {H : Hp} {σ : L2.St} {Γ : List Sl} : ∀ {vs : List V} {ss : List Sl} {ρ : List Slot} {q : Slot}, HasE X.K B H (q :: pushAll vs ss ρ) σ Γ → HasE X.K B H (q :: ρ) σ Γ
  | [], [], _, _, h => h
  | [], _ :: _, _, _, h => h
  | _ :: _, [], _, _, h => h
  | v :: vs, s :: ss, ρ, q, h => (drop_mid (vs := vs) (ss := ss) (ρ := (some v, s) :: ρ) h).pop2
theorem drop_mid {K : PySem.W.Frag} {B : Hp × Hp} {H : Hp} {σ : L2.St} {Γ : List Sl} : ∀ {vs : List V} {ss : List Sl} {ρ : List Slot} {q : Slot}, HasE K B H (q :: pushAll vs ss ρ) σ Γ → HasE K B H (q :: ρ) σ Γ
  | [], [], _, _, h => h
  | [], _ :: _, _, _, h => h
  | _ :: _, [], _, _, h => h
  | v :: vs, s :: ss, ρ, q, h => (drop_mid (vs := vs) (ss := ss) (ρ := (some v, s) :: ρ) h).pop2
theorem px_pair {α β : Type} [Enc α] [Enc β] {x : α} {y : β} {x1} (h : AX X Γ es [.is x, .is y]) : PX X Γ (.Tuple es x1 pos) (.is (x, y)) := ⟨fun B ρ σ H h' Q q => goE (pe_tup paW) (h.run B ρ σ H h' _ fun vs H1 e1 l h1 => by
  obtain ⟨v, w, rfl⟩ : ∃ v w, vs = [v, w] := by
    match vs, l with
    | [v, w], _ => exact ⟨v, w, rfl⟩
  refine ⟨by show 2 ≤ sizeLine; decide, fun p hp => q _ _ (e1.trans (Ex.new hp)) ?_⟩
  refine (HasE.newIs (x := (x, y)) h1 hp fun Hd ed hn ok => ?_).pop2.pop2
  obtain ⟨v', f1, f2⟩ := ok (some v, .is x) (List.mem_append_left _ (pushAll_mem (vs := [v, w]) (ss := [.is x, .is y]) (.inl List.mem_cons_self)))
  obtain ⟨w', g1, g2⟩ := ok (some w, .is y) (List.mem_append_left _ (pushAll_mem (vs := [v, w]) (ss := [.is x, .is y]) (.inl (List.mem_cons_of_mem _ List.mem_cons_self))))
  have f1 : some v = some v' := f1
  have g1 : some w = some w' := g1
  injection f1 with f1
  injection g1 with g1
  subst f1 g1
  have en : Ex Hd (upd Hd p (.tup [v, w])) := Ex.new hn
  exact ⟨p, v, w, rfl, SqT.of upd_same, Enc.mono en f2, Enc.mono en g2⟩)⟩
theorem px_t3 {α β γ : Type} [Enc α] [Enc β] [Enc γ] {x : α} {y : β} {z : γ} {x1} (h : AX X Γ es [.is x, .is y, .is z]) : PX X Γ (.Tuple es x1 pos) (.is (T3.mk x y z)) := ⟨fun B ρ σ H h' Q q => goE (pe_tup paW) (h.run B ρ σ H h' _ fun vs H1 e1 l h1 => by
  obtain ⟨v, w, u, rfl⟩ : ∃ v w u, vs = [v, w, u] := by
    match vs, l with
    | [v, w, u], _ => exact ⟨v, w, u, rfl⟩
  refine ⟨by show 3 ≤ sizeLine; decide, fun p hp => q _ _ (e1.trans (Ex.new hp)) ?_⟩
  refine (HasE.newIs (x := T3.mk x y z) h1 hp fun Hd ed hn ok => ?_).pop2.pop2.pop2
  obtain ⟨v', f1, f2⟩ := ok (some v, .is x) (List.mem_append_left _ (pushAll_mem (vs := [v, w, u]) (ss := [.is x, .is y, .is z]) (.inl List.mem_cons_self)))
  obtain ⟨w', g1, g2⟩ := ok (some w, .is y) (List.mem_append_left _ (pushAll_mem (vs := [v, w, u]) (ss := [.is x, .is y, .is z]) (.inl (List.mem_cons_of_mem _ List.mem_cons_self))))
  obtain ⟨u', k1, k2⟩ := ok (some u, .is z) (List.mem_append_left _ (pushAll_mem (vs := [v, w, u]) (ss := [.is x, .is y, .is z]) (.inl (List.mem_cons_of_mem _ (List.mem_cons_of_mem _ List.mem_cons_self)))))
  have f1 : some v = some v' := f1
  have g1 : some w = some w' := g1
  have k1 : some u = some u' := k1
  injection f1 with f1
  injection g1 with g1
  injection k1 with k1
  subst f1 g1 k1
  have en : Ex Hd (upd Hd p (.tup [v, w, u])) := Ex.new hn
  exact ⟨p, v, w, u, rfl, SqT.of upd_same, Enc.mono en f2, Enc.mono en g2, Enc.mono en k2⟩)⟩

/-! ### a built-in called with scalars -/
theorem px_B {β : Type} [Sc β] {id : String} {x : Str} {r : List V → Hp → VK → Prop} (z : β) (hc : CallR X (.builtin id) r) (hm : X.mg x = none) (hv : bootBuiltins x = some (.builtin id)) (ha : AX X Γ (e :: es) ss)
    (hr : ∀ B ρ σ H (vs : List V) (Q : VK), vs.length = ss.length → HasE X.K B H (pushAll vs ss ρ) σ Γ → Q (Sc.val z) H → r vs H Q) (hg : Gl X x := by rfl) (hn : x ≠ "__name__" := by decide) (hdb : (x == ("__debug__" : Str)) = false := by decide)
    (he : starEach (e :: es) X.env = (false, eval e X.env) :: starEach es X.env := by rfl) (hpl : (backTo pos (starEach es X.env)).any (·.1) = false := by rfl) : PX X Γ (.Call (.Name x p) (e :: es) [] pos) (.is z) :=
  ⟨fun B ρ σ H h Q q => goE (pe_callB hc hg hm hv paW hn hdb he hpl) (ha.run B ρ σ H h _ fun vs H1 e1 l h1 => hr B ρ σ H1 vs Q l h1 (q _ H1 e1 (h1.popAll.pushSc z)))⟩
theorem px_Ty {β : Type} [Sc β] {T : String} {x : Str} {r : List V → Hp → VK → Prop} (z : β) (hc : CallR X (.type T) r) (hm : X.mg x = none) (hv : bootBuiltins x = some (.type T)) (ha : AX X Γ (e :: es) ss)
    (hr : ∀ B ρ σ H (vs : List V) (Q : VK), vs.length = ss.length → HasE X.K B H (pushAll vs ss ρ) σ Γ → Q (Sc.val z) H → r vs H Q) (hg : Gl X x := by rfl) (hn : x ≠ "__name__" := by decide) (hdb : (x == ("__debug__" : Str)) = false := by decide)
    (he : starEach (e :: es) X.env = (false, eval e X.env) :: starEach es X.env := by rfl) (hpl : (backTo pos (starEach es X.env)).any (·.1) = false := by rfl) : PX X Γ (.Call (.Name x p) (e :: es) [] pos) (.is z) :=
  ⟨fun B ρ σ H h Q q => goE (pe_callTy hc hg hm hv paW hn hdb he hpl) (ha.run B ρ σ H h _ fun vs H1 e1 l h1 => hr B ρ σ H1 vs Q l h1 (q _ H1 e1 (h1.popAll.pushSc z)))⟩
theorem one_of {vs : List V} {s : Sl} (l : vs.length = [s].length) : ∃ v, vs = [v] := match vs, l with | [v], _ => ⟨v, rfl⟩
theorem two_of {vs : List V} {s t : Sl} (l : vs.length = [s, t].length) : ∃ v w, vs = [v, w] := match vs, l with | [v, w], _ => ⟨v, w, rfl⟩
section
variable (hg1 : starEach [a] X.env = (false, eval a X.env) :: starEach [] X.env)
theorem px_len {α : Type} [Enc α] {xs : List α} {s : Sl} (lk : Lk s xs) (hm : X.mg "len" = none) (ha : PX X Γ a s) (hg : Gl X "len" := by rfl) (he : starEach [a] X.env = (false, eval a X.env) :: starEach [] X.env := by rfl) :
    PX X Γ (.Call (.Name "len" p) [a] [] pos) (.is (xs.length : Int)) :=
  px_B _ call_len_seq hm PySem.boot_len (ax_cons ha ax_nil he) (fun B ρ σ H vs Q l h q => by
    obtain ⟨v, rfl⟩ := one_of l
    obtain ⟨a', ws, e1, e2, e3, _⟩ := HasE.topL lk h
    injection e1 with e1
    subst e1
    exact ⟨a', ws, rfl, .inl (SqL.of e2), by rw [e3]; exact q⟩) hg (by decide) (by decide) he rfl
theorem px_lenS {x : List Nat} (hm : X.mg "len" = none) (ha : PX X Γ a (.is x)) (hz : x.length ≤ sizeLine) (hg : Gl X "len" := by rfl) (he : starEach [a] X.env = (false, eval a X.env) :: starEach [] X.env := by rfl) :
    PX X Γ (.Call (.Name "len" p) [a] [] pos) (.is (x.length : Int)) :=
  px_B _ call_len_str hm PySem.boot_len (ax_cons ha ax_nil he) (fun B ρ σ H vs Q l h q => by
    obtain ⟨v, rfl⟩ := one_of l
    have e := topTx h
    injection e with e
    subst e
    exact ⟨mkS x, rfl, by rw [mkS_length]; exact hz, by rw [mkS_length]; exact q⟩) hg (by decide) (by decide) he rfl
theorem px_lenT {α : Type} [Enc α] {x : Tup α} (hm : X.mg "len" = none) (ha : PX X Γ a (.is x)) (hg : Gl X "len" := by rfl) (he : starEach [a] X.env = (false, eval a X.env) :: starEach [] X.env := by rfl) :
    PX X Γ (.Call (.Name "len" p) [a] [] pos) (.is (x.l.length : Int)) :=
  px_B _ call_len_seq hm PySem.boot_len (ax_cons ha ax_nil he) (fun B ρ σ H vs Q l h q => by
    obtain ⟨v, rfl⟩ := one_of l
    obtain ⟨_, Hd, _, h2, _, _, h5, _⟩ := h
    obtain ⟨w, e1, a', ws, e2, e3, e4⟩ := h5 (some v, .is x) List.mem_cons_self
    have e1 : some v = some w := e1
    injection e1 with e1
    subst e1 e2
    exact ⟨a', ws, rfl, .inr (Evl.ex_t h2 e3), by rw [paired_len e4]; exact q⟩) hg (by decide) (by decide) he rfl
theorem px_int1 {x : Int} (hm : X.mg "int" = none) (ha : PX X Γ a (.is x)) (hg : Gl X "int" := by rfl) (he : starEach [a] X.env = (false, eval a X.env) :: starEach [] X.env := by rfl) : PX X Γ (.Call (.Name "int" p) [a] [] pos) (.is x) :=
  px_Ty _ call_int1 hm PyProof.Rows.boot_int (ax_cons ha ax_nil he) (fun B ρ σ H vs Q l h q => by
    obtain ⟨v, rfl⟩ := one_of l
    have e := h.topSc
    injection e with e
    subst e
    exact .inl ⟨x, rfl, q⟩) hg (by decide) (by decide) he rfl
theorem px_intB {x : Bool} (hm : X.mg "int" = none) (ha : PX X Γ a (.is x)) (hg : Gl X "int" := by rfl) (he : starEach [a] X.env = (false, eval a X.env) :: starEach [] X.env := by rfl) : PX X Γ (.Call (.Name "int" p) [a] [] pos) (.is (if x = true then 1 else 0 : Int)) :=
  px_Ty _ call_int1 hm PyProof.Rows.boot_int (ax_cons ha ax_nil he) (fun B ρ σ H vs Q l h q => by
    obtain ⟨v, rfl⟩ := one_of l
    have e := h.topSc
    injection e with e
    subst e
    exact .inr ⟨x, rfl, q⟩) hg (by decide) (by decide) he rfl
theorem px_abs {x : Int} (hm : X.mg "abs" = none) (ha : PX X Γ a (.is x)) (hg : Gl X "abs" := by rfl) (he : starEach [a] X.env = (false, eval a X.env) :: starEach [] X.env := by rfl) : PX X Γ (.Call (.Name "abs" p) [a] [] pos) (.is (if x < 0 then -x else x : Int)) :=
  px_B _ call_abs hm PyProof.Rows.boot_abs (ax_cons ha ax_nil he) (fun B ρ σ H vs Q l h q => by
    obtain ⟨v, rfl⟩ := one_of l
    have e := h.topSc
    injection e with e
    subst e
    exact ⟨x, rfl, q⟩) hg (by decide) (by decide) he rfl
theorem px_min {x y : Int} (hc : X.calm = true) (hm : X.mg "min" = none) (ha : PX X Γ a (.is x)) (hb : PX X Γ b (.is y)) (hg : Gl X "min" := by rfl) (he : starEach [a, b] X.env = (false, eval a X.env) :: starEach [b] X.env := by rfl) (he2 : starEach [b] X.env = (false, eval b X.env) :: starEach [] X.env := by rfl)
    (hpl : (backTo pos (starEach [b] X.env)).any (·.1) = false := by rfl) : PX X Γ (.Call (.Name "min" p) [a, b] [] pos) (.is (if y < x then y else x : Int)) :=
  px_B _ (call_min2 hc) hm PyProof.Rows.boot_min (ax_cons ha (ax_cons hb ax_nil he2) he) (fun B ρ σ H vs Q l h q => by
    obtain ⟨v, w, rfl⟩ := two_of l
    have e := h.topSc
    have e2 := h.swap.topSc
    injection e with e
    injection e2 with e2
    subst e e2
    exact ⟨x, y, rfl, q⟩) hg (by decide) (by decide) he hpl
theorem px_max {x y : Int} (hc : X.calm = true) (hm : X.mg "max" = none) (ha : PX X Γ a (.is x)) (hb : PX X Γ b (.is y)) (hg : Gl X "max" := by rfl) (he : starEach [a, b] X.env = (false, eval a X.env) :: starEach [b] X.env := by rfl) (he2 : starEach [b] X.env = (false, eval b X.env) :: starEach [] X.env := by rfl)
    (hpl : (backTo pos (starEach [b] X.env)).any (·.1) = false := by rfl) : PX X Γ (.Call (.Name "max" p) [a, b] [] pos) (.is (if y > x then y else x : Int)) :=
  px_B _ (call_max2 hc) hm PyProof.Rows.boot_max (ax_cons ha (ax_cons hb ax_nil he2) he) (fun B ρ σ H vs Q l h q => by
    obtain ⟨v, w, rfl⟩ := two_of l
    have e := h.topSc
    have e2 := h.swap.topSc
    injection e with e
    injection e2 with e2
    subst e e2
    exact ⟨x, y, rfl, q⟩) hg (by decide) (by decide) he hpl
end

/-! ### a def of one's own -/
/-- what a def gives back -/
def Retable : Sl → Prop
  | @Sl.arg _ _ _ => False
  | @Sl.ownA _ _ _ _ => False
  | .gen _ _ => False
  | _ => True
def ResOk (K : PySem.W.Frag) (B Hd H : Hp) (o : Option V) (s : Sl) : Prop := SlotOk K B Hd H o s ∧ Retable s
/-- the promise of a def over data: what it is handed, what it gives back; all else stands -/
def spD {ι : Type} (K : PySem.W.Frag) (pre : ι → Prop) (args : ι → List Sl) (res : ι → Sl) : Sp := fun vs H Q _ => ∃ (Hd0 : Hp) (i : ι), Ex Hd0 H ∧ pre i ∧ vs.length = (args i).length ∧ (∀ p ∈ (vs.map some).zip (args i), SlotOk K H Hd0 H p.1 p.2 ∧ ∀ q, apart p q) ∧
  ∀ v H' Hd', Ex Hd0 Hd' → Ex Hd' H' → Ex H H' → (∀ a, Hd0 a = none → H a ≠ none → Hd' a = none) → ResOk K H Hd' H' (some v) (res i) → Q v H'
/-- a def of the module's that keeps such a promise -/
structure DefOk (P : Program) (w : World) (K : PySem.W.Frag) (mg : Str → Option Value) (base : Heap) (k : Nat) (x : Str) (n : Nat) (sp : Sp) : Prop where
  ex : ∃ (f : Addr) (fd : FuncData) (ps : List Str), FnOk P w K mg base CX0 k f fd ps sp ∧ mg x = some (.ref f) ∧ PySem.W.keepIn K (.ref f) = true ∧ Binds K fd ps [] ∧ ps.length = n
/-- an argument that owns nothing -/
def Bare : Sl → Prop
  | @Sl.own _ _ _ => False
  | @Sl.ownA _ _ _ _ => False
  | .gen _ _ => False
  | _ => True
theorem Bare.apart {s : Sl} (h : Bare s) (o : Option V) (q : Slot) : apart (o, s) q := by
  cases s with
  | no => exact apart_no q
  | is x => exact apart_is q
  | bor x => exact apart_bor q
  | arg x => exact apart_arg q
  | own x => exact h.elim
  | ownA c x => exact h.elim
  | gen fp Φ => exact h.elim
/-- what a caller has, as the callee may take it -/
inductive Fits : List Sl → List Sl → Prop
  | nil : Fits [] []
  | is {α : Type} [Enc α] {x : α} {l m : List Sl} : Fits l m → Fits (.is x :: l) (.is x :: m)
  | arg {α : Type} [Enc α] {s : Sl} {x : List α} {l m : List Sl} (lk : Lk s x) : Fits l m → Fits (s :: l) (.arg x :: m)
theorem Fits.len {l m : List Sl} (h : Fits l m) : l.length = m.length := by
  induction h with
  | nil => rfl
  | is _ ih => simp [ih]
  | arg _ _ ih => simp [ih]
theorem Fits.ok {K : PySem.W.Frag} {B1 Hd H : Hp} (ed : Ex Hd H) {l m : List Sl} (h : Fits l m) : ∀ {vs : List V}, (∀ p ∈ (vs.map some).zip l, SlotOk K B1 Hd H p.1 p.2) → ∀ p ∈ (vs.map some).zip m, SlotOk K H Hd H p.1 p.2 ∧ ∀ q, apart p q := by
  induction h with
  | nil => intro vs f p hp; simp at hp
  | is _ ih =>
    intro vs f p hp
    cases vs with
    | nil => simp at hp
    | cons v vs =>
      rcases List.mem_cons.mp hp with z | z
      · rw [z]
        exact ⟨f _ List.mem_cons_self, fun q => apart_is q⟩
      · exact ih (fun q hq => f q (List.mem_cons_of_mem _ hq)) p z
  | arg lk _ ih =>
    intro vs f p hp
    cases vs with
    | nil => simp at hp
    | cons v vs =>
      rcases List.mem_cons.mp hp with z | z
      · rw [z]
        obtain ⟨a, ws, g1, g2, g3⟩ := lk.ok ed (f _ List.mem_cons_self)
        exact ⟨⟨a, ws, g1, fun z => (by rw [g2] at z; cases z), g2, g3⟩, fun q => apart_arg q⟩
      · exact ih (fun q hq => f q (List.mem_cons_of_mem _ hq)) p z
theorem px_call {ι : Type} {k : Nat} {x : Str} {n : Nat} {pre : ι → Prop} {args : ι → List Sl} {res : ι → Sl} (F : DefOk X.prog X.w X.K X.mg X.base k x n (spD X.K pre args res)) (i : ι) (hp : pre i) (hr : Room k X.A)
    (ha : AX X Γ (e :: es) ss) (fit : Fits ss (args i)) (hg : Gl X x := by rfl) (hdb : (x == ("__debug__" : Str)) = false := by decide) (he : starEach (e :: es) X.env = (false, eval e X.env) :: starEach es X.env := by rfl) (hpl : (backTo pos (starEach es X.env)).any (·.1) = false := by rfl)
    (hx : Passes CX0 X E0 := by exact pass0) {s0 : Sl} (hs0 : res i = s0 := by rfl) : PX X Γ (.Call (.Name x p) (e :: es) [] pos) s0 := by
  subst hs0
  obtain ⟨f, fd, ps, F, hm, hk, hb, _⟩ := F.ex
  refine ⟨fun B ρ σ H h Q q => goE (pe_call F hr hg hm hk hb .nil hx paW hdb he hpl) (ha.run B ρ σ H h _ fun vs H1 e1 l h1 => ?_)⟩
  rw [List.append_nil]
  obtain ⟨zl, Hd, z1, z2, z3, z4, z5, z6⟩ := id h1
  refine ⟨Hd, i, z2, hp, l.trans fit.len, fit.ok z2 fun r hr => z5 r (List.mem_append_left _ (pushAll_mem (.inl hr))), fun v H' Hd' f1 f2 f3 f4 f5 => q v H' (e1.trans f3) ?_⟩
  refine drop_mid (vs := vs) (ss := ss) ⟨zl, Hd', z1.trans f1, f2, z3.trans f3, fun a' b1 b2 => ?_, fun r hr => ?_, ?_⟩
  · have c : H1 a' ≠ none := fun c => b2 (z3.back c)
    exact f4 a' (z4 a' b1 b2) c
  · rcases List.mem_cons.mp hr with c | c
    · rw [c]
      show SlotOk X.K B.2 Hd' H' (some v) (res i)
      revert f5
      cases res i with
      | no => exact fun _ => trivial
      | is y => exact fun f5 => f5.1
      | bor y => exact fun f5 => f5.1
      | arg y => exact fun f5 => f5.2.elim
      | ownA c y => exact fun f5 => f5.2.elim
      | gen fp Φ => exact fun f5 => f5.2.elim
      | own y =>
        intro f5
        obtain ⟨a', ws, g1, g2, g3, g4, g5⟩ := f5.1
        exact ⟨a', ws, g1, z3.back g2, g3, g4, g5⟩
    · exact (z5 r c).mono f1 f3 fun a' b1 b2 => f4 a' b2 b1
  · refine List.pairwise_cons.mpr ⟨fun r hr a' o1 o2 => ?_, z6⟩
    have o1' : ∃ ys : Σ α : Type, Σ _ : Enc α, List α, res i = @Sl.own ys.1 ys.2.1 ys.2.2 := by
      revert o1
      unfold owns
      cases hres : res i with
      | own ys => exact fun _ => ⟨⟨_, _, ys⟩, rfl⟩
      | no => exact fun z => z.elim
      | is y => exact fun z => z.elim
      | bor y => exact fun z => z.elim
      | arg y => exact fun z => z.elim
      | ownA c y =>
        rw [hres] at f5
        exact f5.2.elim
      | gen fp Φ =>
        rw [hres] at f5
        exact f5.2.elim
    obtain ⟨⟨α, en, ys⟩, hres⟩ := o1'
    rw [hres] at f5 o1
    obtain ⟨b', ws, g1, g2, g3, g4, g5⟩ := f5.1
    have o1 : some v = some (V.ref a') := o1
    have g1 : some v = some (V.ref b') := g1
    rw [o1] at g1
    injection g1 with g1
    injection g1 with g1
    subst g1
    exact owns_ne (z5 r hr) o2 g2 rfl

/-! ### items, slices -/
def ix {α : Type} [Inhabited α] (xs : List α) (i : Int) : α := (atI xs i).getD default
theorem ix_ok {α : Type} [Inhabited α] {xs : List α} {i : Int} (h : -(xs.length : Int) ≤ i ∧ i < xs.length) : atI xs i = some (ix xs i) := by
  unfold ix atI ixN
  by_cases h0 : 0 ≤ i
  · rw [if_pos h0, if_pos h.2]
    have : i.toNat < xs.length := by omega
    simp [this]
  · rw [if_neg h0, if_pos h.1]
    have : (i + (xs.length : Int)).toNat < xs.length := by omega
    simp [this]
theorem atI_paired {α β : Type} {F : α → β → Prop} {l : List α} {m : List β} {i : Int} {y : β} (h : Paired F l m) (e : atI m i = some y) : ∃ x, atI l i = some x ∧ F x y := by
  unfold atI at e ⊢
  rw [paired_len h]
  cases q : ixN m.length i with
  | none => rw [q] at e; simp at e
  | some j =>
    rw [q] at e
    exact paired_get h e
theorem px_ixL {α : Type} [Enc α] [Inhabited α] {xs : List α} {i : Int} {s : Sl} (lk : Lk s xs) (ha : PX X Γ a s) (hb : PX X Γ b (.is i)) (hi : -(xs.length : Int) ≤ i ∧ i < xs.length) (hs : PlainIx b := by exact fun _ _ => rfl) : PX X Γ (.Subscript a b pos) (.is (ix xs i)) :=
  ⟨fun B ρ σ H h Q q => goE (pe_ix ix_list peW peW hs) (ha.run B ρ σ H h _ fun v H1 e1 h1 => hb.run B _ σ H1 h1 _ fun w H2 e2 h2 => by
    have ew := h2.topSc
    injection ew with ew
    subst ew
    have h3 := h2.pop
    obtain ⟨l, Hd, z1, z2, z3, z4, z5, z6⟩ := id h3
    obtain ⟨a', vs, g1, g2, g3⟩ := lk.ok z2 (z5 (some v, s) List.mem_cons_self)
    injection g1 with g1
    subst g1
    obtain ⟨u, k1, k2⟩ := atI_paired g3 (ix_ok hi)
    refine ⟨a', vs, i, u, rfl, rfl, SqL.of g2, k1, q u H2 (e1.trans e2) ?_⟩
    exact (HasE.pop2 ⟨l, Hd, z1, z2, z3, z4, fun r hr => (List.mem_cons.mp hr).elim (fun c => by rw [c]; exact ⟨u, rfl, k2⟩) (z5 r), List.pairwise_cons.mpr ⟨fun r _ => apart_is r, z6⟩⟩))⟩
theorem px_ixT {α : Type} [Enc α] [Inhabited α] {x : Tup α} {i : Int} (ha : PX X Γ a (.is x)) (hb : PX X Γ b (.is i)) (hi : -(x.l.length : Int) ≤ i ∧ i < x.l.length) (hs : PlainIx b := by exact fun _ _ => rfl) : PX X Γ (.Subscript a b pos) (.is (ix x.l i)) :=
  ⟨fun B ρ σ H h Q q => goE (pe_ix ix_tup peW peW hs) (ha.run B ρ σ H h _ fun v H1 e1 h1 => hb.run B _ σ H1 h1 _ fun w H2 e2 h2 => by
    have ew := h2.topSc
    injection ew with ew
    subst ew
    have h3 := h2.pop
    obtain ⟨l, Hd, z1, z2, z3, z4, z5, z6⟩ := id h3
    obtain ⟨v', g0, a', vs, g1, g2, g3⟩ := z5 (some v, .is x) List.mem_cons_self
    have g0 : some v = some v' := g0
    injection g0 with g0
    subst g0 g1
    obtain ⟨u, k1, k2⟩ := atI_paired g3 (ix_ok hi)
    refine ⟨a', vs, i, u, rfl, rfl, Evl.ex_t z2 g2, k1, q u H2 (e1.trans e2) ?_⟩
    exact (HasE.pop2 ⟨l, Hd, z1, z2, z3, z4, fun r hr => (List.mem_cons.mp hr).elim (fun c => by rw [c]; exact ⟨u, rfl, k2⟩) (z5 r), List.pairwise_cons.mpr ⟨fun r _ => apart_is r, z6⟩⟩))⟩
/-- an item of a written tuple, by its place -/
theorem px_proj {τ α : Type} [Enc τ] [Enc α] {x : τ} {y : α} {i : Int} (ha : PX X Γ a (.is x)) (hb : PX X Γ b (.is i))
    (hp : ∀ (Hd : Hp) (v : V), Enc.rep X.K Hd v x → ∃ a' vs u, v = .ref a' ∧ SqT X.K Hd a' vs ∧ atI vs i = some u ∧ Enc.rep X.K Hd u y) (hs : PlainIx b := by exact fun _ _ => rfl) : PX X Γ (.Subscript a b pos) (.is y) :=
  ⟨fun B ρ σ H h Q q => goE (pe_ix ix_tup peW peW hs) (ha.run B ρ σ H h _ fun v H1 e1 h1 => hb.run B _ σ H1 h1 _ fun w H2 e2 h2 => by
    have ew := h2.topSc
    injection ew with ew
    subst ew
    have h3 := h2.pop
    obtain ⟨l, Hd, z1, z2, z3, z4, z5, z6⟩ := id h3
    obtain ⟨v', g0, g1⟩ := z5 (some v, .is x) List.mem_cons_self
    have g0 : some v = some v' := g0
    injection g0 with g0
    subst g0
    obtain ⟨a', vs, u, rfl, k1, k2, k3⟩ := hp Hd v g1
    refine ⟨a', vs, i, u, rfl, rfl, Evl.ex_t z2 k1, k2, q u H2 (e1.trans e2) ?_⟩
    exact (HasE.pop2 ⟨l, Hd, z1, z2, z3, z4, fun r hr => (List.mem_cons.mp hr).elim (fun c => by rw [c]; exact ⟨u, rfl, k3⟩) (z5 r), List.pairwise_cons.mpr ⟨fun r _ => apart_is r, z6⟩⟩))⟩
theorem px_fst {α β : Type} [Enc α] [Enc β] {x : α × β} (ha : PX X Γ a (.is x)) (hb : PX X Γ b (.is (0 : Int))) (hs : PlainIx b := by exact fun _ _ => rfl) : PX X Γ (.Subscript a b pos) (.is x.1) :=
  px_proj ha hb (fun Hd v ⟨a', v1, v2, h1, h2, h3, h4⟩ => ⟨a', _, v1, h1, h2, rfl, h3⟩) hs
theorem px_snd {α β : Type} [Enc α] [Enc β] {x : α × β} (ha : PX X Γ a (.is x)) (hb : PX X Γ b (.is (1 : Int))) (hs : PlainIx b := by exact fun _ _ => rfl) : PX X Γ (.Subscript a b pos) (.is x.2) :=
  px_proj ha hb (fun Hd v ⟨a', v1, v2, h1, h2, h3, h4⟩ => ⟨a', _, v2, h1, h2, rfl, h4⟩) hs
theorem px_t3a {α β γ : Type} [Enc α] [Enc β] [Enc γ] {x : T3 α β γ} (ha : PX X Γ a (.is x)) (hb : PX X Γ b (.is (0 : Int))) (hs : PlainIx b := by exact fun _ _ => rfl) : PX X Γ (.Subscript a b pos) (.is x.a) :=
  px_proj ha hb (fun Hd v ⟨a', v1, v2, v3, h1, h2, h3, h4, h5⟩ => ⟨a', _, v1, h1, h2, rfl, h3⟩) hs
theorem px_t3b {α β γ : Type} [Enc α] [Enc β] [Enc γ] {x : T3 α β γ} (ha : PX X Γ a (.is x)) (hb : PX X Γ b (.is (1 : Int))) (hs : PlainIx b := by exact fun _ _ => rfl) : PX X Γ (.Subscript a b pos) (.is x.b) :=
  px_proj ha hb (fun Hd v ⟨a', v1, v2, v3, h1, h2, h3, h4, h5⟩ => ⟨a', _, v2, h1, h2, rfl, h4⟩) hs
theorem px_t3c {α β γ : Type} [Enc α] [Enc β] [Enc γ] {x : T3 α β γ} (ha : PX X Γ a (.is x)) (hb : PX X Γ b (.is (2 : Int))) (hs : PlainIx b := by exact fun _ _ => rfl) : PX X Γ (.Subscript a b pos) (.is x.c) :=
  px_proj ha hb (fun Hd v ⟨a', v1, v2, v3, h1, h2, h3, h4, h5⟩ => ⟨a', _, v3, h1, h2, rfl, h5⟩) hs
theorem px_ixS {x : List Nat} {i : Int} (ha : PX X Γ a (.is x)) (hb : PX X Γ b (.is i)) (hz : x.length ≤ sizeLine) (hi : -(x.length : Int) ≤ i ∧ i < x.length) (hs : PlainIx b := by exact fun _ _ => rfl) : PX X Γ (.Subscript a b pos) (.is [ix x i]) :=
  ⟨fun B ρ σ H h Q q => goE (pe_ix ix_str peW peW hs) (ha.run B ρ σ H h _ fun v H1 e1 h1 => hb.run B _ σ H1 h1 _ fun w H2 e2 h2 => by
    have ew := h2.topSc
    injection ew with ew
    have ev := topTx h2.swap
    injection ev with ev
    subst ew ev
    exact ⟨mkS x, i, ix x i, rfl, rfl, by rw [mkS_length]; exact hz, ix_ok hi, q _ H2 (e1.trans e2) (pushTx [ix x i] h2.pop.pop)⟩)⟩
/-- xs[lo:hi] -/
def sl {α : Type} (xs : List α) (lo hi : Option Int) : List α := (xs.drop (HT.sIx xs.length 0 lo)).take (HT.sIx xs.length xs.length hi - HT.sIx xs.length 0 lo)
/-- a part of a slice -/
structure OX (X : Cx) (Γ : List Sl) (e : Option Expr) (i : Option Int) : Prop where
  run : ∃ t : TO, PO X e t ∧ ∀ (B : Hp × Hp) (ρ : List Slot) (σ : L2.St) (H : Hp), HasE X.K B H ρ σ Γ → ∀ Q : Option Int → Hp → Prop, (∀ H', Ex H H' → HasE X.K B H' ρ σ Γ → Q i H') → t σ H Q
theorem ox_none : OX X Γ none none := ⟨_, po_none, fun B ρ σ H h Q q => q H (Ex.refl H) h⟩
theorem ox_some {i : Int} (h : PX X Γ e (.is i)) : OX X Γ (some e) (some i) := ⟨_, po_some peW, fun B ρ σ H h' Q q => h.run B ρ σ H h' _ fun v H1 e1 h1 => by
  have ew := h1.topSc
  injection ew with ew
  subst ew
  exact ⟨i, rfl, q H1 e1 h1.pop⟩⟩
theorem px_sl {α : Type} [Enc α] {xs : List α} {s : Sl} {lo hi : Option Expr} {i j : Option Int} (lk : Lk s xs) (ha : PX X Γ a s) (hl : OX X Γ lo i) (hh : OX X Γ hi j) : PX X Γ (.Subscript a (.Slice lo hi none p2) pos) (.own (sl xs i j)) := by
  obtain ⟨tl, pl, kl⟩ := hl.run
  obtain ⟨th, ph, kh⟩ := hh.run
  refine ⟨fun B ρ σ H h Q q => goE (pe_slice sl_list peW pl ph) (ha.run B ρ σ H h _ fun v H1 e1 h1 => kl B _ σ H1 h1 _ fun H2 e2 h2 => kh B _ σ H2 h2 _ fun H3 e3 h3 => ?_)⟩
  obtain ⟨l, Hd, z1, z2, z3, z4, z5, z6⟩ := id h3
  obtain ⟨a', vs, g1, g2, g3⟩ := lk.ok z2 (z5 (some v, s) List.mem_cons_self)
  injection g1 with g1
  subst g1
  refine ⟨a', vs, rfl, SqL.of g2, fun p hp => q _ _ (((e1.trans e2).trans e3).trans (Ex.new hp)) ?_⟩
  refine (HasE.newOwn (xs := sl xs i j) h3 hp fun Hd' ed ok => ?_).pop2
  obtain ⟨a2, vs2, k1, k2, k3⟩ := lk.ok ed (ok (some (V.ref a'), s) List.mem_cons_self)
  injection k1 with k1
  injection k1 with k1
  subst k1
  rw [g2] at k2
  injection k2 with k2
  injection k2 with k2
  subst k2
  unfold cutV sl
  rw [paired_len k3]
  exact paired_take _ (paired_drop _ k3)
theorem px_slS {x : List Nat} {lo hi : Option Expr} {i j : Option Int} (ha : PX X Γ a (.is x)) (hz : x.length ≤ sizeLine) (hl : OX X Γ lo i) (hh : OX X Γ hi j) : PX X Γ (.Subscript a (.Slice lo hi none p2) pos) (.is (sl x i j)) := by
  obtain ⟨tl, pl, kl⟩ := hl.run
  obtain ⟨th, ph, kh⟩ := hh.run
  refine ⟨fun B ρ σ H h Q q => goE (pe_slice sl_str peW pl ph) (ha.run B ρ σ H h _ fun v H1 e1 h1 => kl B _ σ H1 h1 _ fun H2 e2 h2 => kh B _ σ H2 h2 _ fun H3 e3 h3 => ?_)⟩
  have ev := topTx h3
  injection ev with ev
  subst ev
  refine ⟨mkS x, rfl, by rw [mkS_length]; exact hz, ?_⟩
  have e : cutS (mkS x) i j = mkS (sl x i j) := by
    unfold cutS sl
    rw [mkS_length]
    rfl
  rw [e]
  exact q _ H3 ((e1.trans e2).trans e3) (pushTx _ h3.pop)
theorem px_cat {α : Type} [Enc α] {xs ys : List α} {s t : Sl} (lk : Lk s xs) (lk2 : Lk t ys) (ha : PX X Γ a s) (hb : PX X Γ b t) (hz : xs.length + ys.length ≤ sizeLine) : PX X Γ (.BinOp a .Add b pos) (.own (xs ++ ys)) :=
  ⟨fun B ρ σ H h Q q => goE (pe_op op_cat peW peW) (ha.run B ρ σ H h _ fun v H1 e1 h1 => hb.run B _ σ H1 h1 _ fun w H2 e2 h2 => by
    obtain ⟨l, Hd, z1, z2, z3, z4, z5, z6⟩ := id h2
    obtain ⟨b', ws, k1, k2, k3⟩ := lk2.ok z2 (z5 (some w, t) List.mem_cons_self)
    obtain ⟨a', vs, g1, g2, g3⟩ := lk.ok z2 (z5 (some v, s) (List.mem_cons_of_mem _ List.mem_cons_self))
    injection g1 with g1
    injection k1 with k1
    subst g1 k1
    refine ⟨a', b', vs, ws, rfl, rfl, g2, k2, by rw [paired_len g3, paired_len k3]; exact hz, fun p hp => q _ _ ((e1.trans e2).trans (Ex.new hp)) ?_⟩
    refine (HasE.newOwn (xs := xs ++ ys) h2 hp fun Hd' ed ok => ?_).pop2.pop2
    obtain ⟨b2, ws2, m1, m2, m3⟩ := lk2.ok ed (ok (some (V.ref b'), t) List.mem_cons_self)
    obtain ⟨a2, vs2, n1, n2, n3⟩ := lk.ok ed (ok (some (V.ref a'), s) (List.mem_cons_of_mem _ List.mem_cons_self))
    injection m1 with m1
    injection m1 with m1
    injection n1 with n1
    injection n1 with n1
    subst m1 n1
    rw [k2] at m2
    rw [g2] at n2
    injection m2 with m2
    injection m2 with m2
    injection n2 with n2
    injection n2 with n2
    subst m2 n2
    exact paired_append n3 m3)⟩
/-- list(xs) -/
theorem px_listof {α : Type} [Enc α] {xs : List α} {s : Sl} (lk : Lk s xs) (hm : X.mg "list" = none) (ha : PX X Γ a s) (hg : Gl X "list" := by rfl) (he : starEach [a] X.env = (false, eval a X.env) :: starEach [] X.env := by rfl) :
    PX X Γ (.Call (.Name "list" p) [a] [] pos) (.own xs) :=
  ⟨fun B ρ σ H h Q q => goE (pe_callTy call_list_of hg hm PyProof.Rows.boot_list (pa_cons peW pa_nil he) (by decide) (by decide) he rfl) (ha.run B ρ σ H h _ fun v H1 e1 h1 => by
    obtain ⟨l, Hd, z1, z2, z3, z4, z5, z6⟩ := id h1
    obtain ⟨a', vs, g1, g2, g3⟩ := lk.ok z2 (z5 (some v, s) List.mem_cons_self)
    injection g1 with g1
    subst g1
    refine ⟨a', vs, rfl, .inl (SqL.of g2), fun p hp => q _ _ (e1.trans (Ex.new hp)) ?_⟩
    refine (HasE.newOwn (xs := xs) h1 hp fun Hd' ed ok => ?_).pop2
    obtain ⟨a2, vs2, n1, n2, n3⟩ := lk.ok ed (ok (some (V.ref a'), s) List.mem_cons_self)
    injection n1 with n1
    injection n1 with n1
    subst n1
    rw [g2] at n2
    injection n2 with n2
    injection n2 with n2
    subst n2
    exact n3)⟩
/-- sep.join(xs) -/
def joinT (sep : List Nat) : List (List Nat) → List Nat
  | [] => []
  | [x] => x
  | x :: y :: r => x ++ (sep ++ joinT sep (y :: r))
theorem joinT_nil : ∀ xs : List (List Nat), joinT [] xs = xs.flatten
  | [] => rfl
  | [x] => by simp [joinT]
  | x :: y :: r => by
    show x ++ ([] ++ joinT [] (y :: r)) = _
    rw [joinT_nil (y :: r)]
    rfl
theorem join_mkS (sep : List Nat) : ∀ xs : List (List Nat), Str.join (mkS sep) (xs.map mkS) = mkS (joinT sep xs)
  | [] => rfl
  | [x] => rfl
  | x :: y :: r => by
    show mkS x ++ mkS sep ++ Str.join (mkS sep) ((y :: r).map mkS) = mkS (x ++ (sep ++ joinT sep (y :: r)))
    rw [join_mkS sep (y :: r), mkS_append, mkS_append, List.append_assoc]
theorem paired_txt : ∀ {vs : List V} {xs : List (List Nat)} {K : PySem.W.Frag} {Hd : Hp}, Paired (Enc.rep K Hd) vs xs → vs = (xs.map mkS).map V.str
  | _, _, _, _, .nil => rfl
  | _, _, _, _, .cons r t => by
    rw [paired_txt t]
    have r : _ = V.str (mkS _) := r
    rw [r]
    rfl
theorem px_join {sep : List Nat} {xs : List (List Nat)} {s : Sl} (lk : Lk s xs) (ho : PX X Γ a (.is sep)) (he : PX X Γ b s) (hz : (xs.map List.length).sum + xs.length * sep.length ≤ 16777216) (hs : starEach [b] X.env = [(false, eval b X.env)] := by rfl)
    (hbase : attributeBase a "join" X.env (eval a X.env) = eval a X.env := by rfl) (hline : (apos.endLine == pos.line) = true := by rfl) : PX X Γ (.Call (.Attribute a "join" apos) [b] [] pos) (.is (joinT sep xs)) :=
  ⟨fun B ρ σ H h Q q => goE (pe_join peW peW hs hbase hline) (ho.run B ρ σ H h _ fun v H1 e1 h1 => by
    have ev := topTx h1
    injection ev with ev
    subst ev
    refine ⟨⟨_, rfl⟩, he.run B _ σ H1 h1 _ fun w H2 e2 h2 => ?_⟩
    obtain ⟨l, Hd, z1, z2, z3, z4, z5, z6⟩ := id h2
    obtain ⟨a', vs, g1, g2, g3⟩ := lk.ok z2 (z5 (some w, s) List.mem_cons_self)
    injection g1 with g1
    subst g1
    have hv := paired_txt g3
    subst hv
    refine ⟨mkS sep, a', xs.map mkS, rfl, rfl, .inl (SqL.of g2), ?_, ?_⟩
    · rw [List.map_map, List.length_map, mkS_length]
      have : (Str.length ∘ mkS) = List.length := by
        funext x
        exact mkS_length x
      rw [this]
      exact hz
    · rw [TL.join_eq, join_mkS]
      exact q _ H2 (e1.trans e2) (pushTx _ h2.pop.pop))⟩
end
end DX
namespace DX
open PySem PySem.Spec PyProof.Rows L2

/-! ### what is walked -/
def Lens (H : Hp) : Prop := ∀ a vs, H a = some (.lst vs) → vs.length ≤ sizeLine
theorem wE_len {X : Cx} {e : Expr} {σ : L2.St} {H : Hp} {Q : VK} (h : wE X e σ H (fun v H' => Lens H' → Q v H')) : wE X e σ H Q := fun pins s I =>
  thn (h pins s I) fun u s1 ⟨v, H1, I1, r, q⟩ => ⟨v, H1, I1, r, q fun a vs e => (I1.hok a _ e).1⟩
structure IX (X : Cx) (Γ : List Sl) (tg iter : Expr) {α : Type} [Enc α] (xs : List α) (P : Prop) : Prop where
  run : ∀ (B : Hp × Hp) (ρ : List Slot) (σ : L2.St) (H : Hp), HasE X.K B H ρ σ Γ → ∀ R : It → Hp → Prop,
    (∀ (J : It) (H1 : Hp) (τ : List Slot), P → Ex H H1 → (∀ p ∈ τ, noBor p) → HasE X.K B H1 (τ ++ ρ) σ Γ →
      (∀ (ρ' : List Slot) (σ' : L2.St) (Γ' : List Sl) (H' : Hp) (i : Nat) (x : α), HasE X.K B H' (ρ' ++ (τ ++ ρ)) σ' Γ' → xs[i]? = some x →
        J.go i H' ∧ ∀ v H'', J.yld i H' v H'' → Ex H' H'' ∧ HasE X.K B H'' ((some v, .is x) :: (ρ' ++ (τ ++ ρ))) σ' Γ') →
      (∀ (ρ' : List Slot) (σ' : L2.St) (Γ' : List Sl) (H' : Hp), HasE X.K B H' (ρ' ++ (τ ++ ρ)) σ' Γ' → J.stop xs.length H') → R J H1) → wI X tg iter σ H R
/-- what a comprehension walks over: also a list that is only borrowed -/
structure IXB (X : Cx) (Γ : List Sl) (tg iter : Expr) {α : Type} [Enc α] (xs : List α) (P : Prop) : Prop where
  run : ∀ (B : Hp × Hp) (ρ : List Slot) (σ : L2.St) (H : Hp), HasE X.K B H ρ σ Γ → ∀ R : It → Hp → Prop,
    (∀ (J : It) (H1 : Hp) (τ : List Slot), P → Ex H H1 → HasE X.K B H1 (τ ++ ρ) σ Γ →
      (∀ (ρ' : List Slot) (σ' : L2.St) (Γ' : List Sl) (H' : Hp) (i : Nat) (x : α), HasE X.K B H' (ρ' ++ (τ ++ ρ)) σ' Γ' → xs[i]? = some x →
        J.go i H' ∧ ∀ v H'', J.yld i H' v H'' → Ex H' H'' ∧ HasE X.K B H'' ((some v, .is x) :: (ρ' ++ (τ ++ ρ))) σ' Γ') →
      (∀ (ρ' : List Slot) (σ' : L2.St) (Γ' : List Sl) (H' : Hp), HasE X.K B H' (ρ' ++ (τ ++ ρ)) σ' Γ' → J.stop xs.length H') → R J H1) → wI X tg iter σ H R
theorem IX.b {X : Cx} {Γ : List Sl} {tg iter : Expr} {α : Type} [Enc α] {xs : List α} {P : Prop} (h : IX X Γ tg iter xs P) : IXB X Γ tg iter xs P :=
  ⟨fun B ρ σ H h' R q => h.run B ρ σ H h' R fun J H1 τ p e _ k => q J H1 τ p e k⟩
section
variable {X : Cx} {Γ : List Sl} {tg iter e a b c : Expr} {es : List Expr} {s : Sl} {pos p : Pos}
theorem HasE.mid {K : PySem.W.Frag} {B : Hp × Hp} {H : Hp} {σ : L2.St} {Γ : List Sl} {ρ' τ ρ : List Slot} {o : Option V} {s : Sl} (h : HasE K B H (ρ' ++ ((o, s) :: τ ++ ρ)) σ Γ) {P : Slot → Prop}
    (f : ∀ Hd, Ex Hd H → SlotOk K B.2 Hd H o s → ∃ q, P q ∧ SlotOk K B.2 Hd H q.1 q.2 ∧ ∀ r, apart q r) : ∃ q, P q ∧ HasE K B H (q :: (ρ' ++ ((o, s) :: τ ++ ρ))) σ Γ := by
  obtain ⟨l, Hd, h1, h2, h3, h4, h5, h6⟩ := h
  obtain ⟨q, k0, k1, k2⟩ := f Hd h2 (h5 (o, s) (List.mem_append_left _ (List.mem_append_right _ (List.mem_cons_self))))
  exact ⟨q, k0, l, Hd, h1, h2, h3, h4, fun r hr => (List.mem_cons.mp hr).elim (fun z => by rw [z]; exact k1) (h5 r), List.pairwise_cons.mpr ⟨fun r _ => k2 r, h6⟩⟩
theorem HasE.midS {K : PySem.W.Frag} {B : Hp × Hp} {H : Hp} {σ : L2.St} {Γ : List Sl} {ρ' τ ρ : List Slot} {o : Option V} {s : Sl} (h : HasE K B H (ρ' ++ ((o, s) :: τ ++ ρ)) σ Γ) : ∃ Hd, Ex Hd H ∧ SlotOk K B.2 Hd H o s := by
  obtain ⟨l, Hd, h1, h2, h3, h4, h5, h6⟩ := h
  exact ⟨Hd, h2, h5 (o, s) (List.mem_append_left _ (List.mem_append_right _ (List.mem_cons_self)))⟩
theorem it_list {α : Type} [Enc α] {xs : List α} (h : PX X Γ iter (@Sl.is (List α) encList xs)) : IX X Γ tg iter xs (xs.length ≤ sizeLine) := ⟨fun B ρ σ H h' R q => goI (pi_list peW) (wE_len (h.run B ρ σ H h' _ fun v H1 e1 h1 len => by
  obtain ⟨a', vs, g1, g2, g3, _⟩ := HasE.topL (.is xs) h1
  injection g1 with g1
  subst g1
  refine ⟨a', rfl, ⟨vs, SqL.of g2⟩, q (Itl X.K a') H1 [(some (.ref a'), .is xs)] (by rw [← g3]; exact len _ _ g2) e1 (fun p hp => by rw [List.mem_singleton.mp hp]; trivial) h1 ?_ ?_⟩
  · intro ρ' σ' Γ' H' i x k hx
    obtain ⟨Hd, ed, ok⟩ := HasE.midS (τ := []) k
    obtain ⟨b', ws, m1, m2, m3⟩ := (Lk.is xs).ok ed ok
    injection m1 with m1
    injection m1 with m1
    subst m1
    obtain ⟨u, n1, n2⟩ := paired_get m3 hx
    refine ⟨⟨ws, u, SqL.of m2, n1⟩, fun v H'' y => ?_⟩
    obtain ⟨y1, y2⟩ := y
    subst y1
    have ev : ws[i]? = some v := y2 ws (SqL.of m2)
    refine ⟨Ex.refl _, ?_⟩
    obtain ⟨q', e', r'⟩ := HasE.mid (τ := []) k (P := fun q => q = (some v, .is x)) fun Hd2 ed2 ok2 => by
      obtain ⟨b2, ws2, m1', m2', m3'⟩ := (Lk.is xs).ok ed2 ok2
      injection m1' with m1'
      injection m1' with m1'
      subst m1'
      rw [m2] at m2'
      injection m2' with m2'
      injection m2' with m2'
      subst m2'
      obtain ⟨u2, n1', n2'⟩ := paired_get m3' hx
      rw [ev] at n1'
      injection n1' with n1'
      subst n1'
      exact ⟨_, rfl, ⟨v, rfl, n2'⟩, fun r => apart_is r⟩
    rw [e'] at r'
    exact r'
  · intro ρ' σ' Γ' H' k
    obtain ⟨Hd, ed, ok⟩ := HasE.midS (τ := []) k
    obtain ⟨b', ws, m1, m2, m3⟩ := (Lk.is xs).ok ed ok
    injection m1 with m1
    injection m1 with m1
    subst m1
    exact ⟨ws, SqL.of m2, by rw [paired_len m3]; exact Nat.le_refl _⟩))⟩
theorem it_listB {α : Type} [Enc α] {xs : List α} (lk : Lk s xs) (h : PX X Γ iter s) : IXB X Γ tg iter xs (xs.length ≤ sizeLine) := ⟨fun B ρ σ H h' R q => goI (pi_list peW) (wE_len (h.run B ρ σ H h' _ fun v H1 e1 h1 len => by
  obtain ⟨a', vs, g1, g2, g3, _⟩ := HasE.topL lk h1
  injection g1 with g1
  subst g1
  refine ⟨a', rfl, ⟨vs, SqL.of g2⟩, q (Itl X.K a') H1 [(some (.ref a'), s)] (by rw [← g3]; exact len _ _ g2) e1 h1 ?_ ?_⟩
  · intro ρ' σ' Γ' H' i x k hx
    obtain ⟨Hd, ed, ok⟩ := HasE.midS (τ := []) k
    obtain ⟨b', ws, m1, m2, m3⟩ := lk.ok ed ok
    injection m1 with m1
    injection m1 with m1
    subst m1
    obtain ⟨u, n1, n2⟩ := paired_get m3 hx
    refine ⟨⟨ws, u, SqL.of m2, n1⟩, fun v H'' y => ?_⟩
    obtain ⟨y1, y2⟩ := y
    subst y1
    have ev : ws[i]? = some v := y2 ws (SqL.of m2)
    refine ⟨Ex.refl _, ?_⟩
    obtain ⟨q', e', r'⟩ := HasE.mid (τ := []) k (P := fun q => q = (some v, .is x)) fun Hd2 ed2 ok2 => by
      obtain ⟨b2, ws2, m1', m2', m3'⟩ := lk.ok ed2 ok2
      injection m1' with m1'
      injection m1' with m1'
      subst m1'
      rw [m2] at m2'
      injection m2' with m2'
      injection m2' with m2'
      subst m2'
      obtain ⟨u2, n1', n2'⟩ := paired_get m3' hx
      rw [ev] at n1'
      injection n1' with n1'
      subst n1'
      exact ⟨_, rfl, ⟨v, rfl, n2'⟩, fun r => apart_is r⟩
    rw [e'] at r'
    exact r'
  · intro ρ' σ' Γ' H' k
    obtain ⟨Hd, ed, ok⟩ := HasE.midS (τ := []) k
    obtain ⟨b', ws, m1, m2, m3⟩ := lk.ok ed ok
    injection m1 with m1
    injection m1 with m1
    subst m1
    exact ⟨ws, SqL.of m2, by rw [paired_len m3]; exact Nat.le_refl _⟩))⟩
theorem it_tup {α : Type} [Enc α] {x : Tup α} (h : PX X Γ iter (.is x)) : IX X Γ tg iter x.l True := ⟨fun B ρ σ H h' R q => goI (pi_tup peW) (h.run B ρ σ H h' _ fun v H1 e1 h1 => by
  have key : ∀ {Hd : Hp} {H2 : Hp} {o : Option V}, Ex Hd H2 → SlotOk X.K B.2 Hd H2 o (.is x) → ∃ a' vs, o = some (.ref a') ∧ SqT X.K H2 a' vs ∧ Paired (Enc.rep X.K Hd) vs x.l := fun ed ok => by
    obtain ⟨v', f1, a', vs, f2, f3, f4⟩ := ok
    exact ⟨a', vs, by rw [f1, f2], Evl.ex_t ed f3, f4⟩
  obtain ⟨_, Hd0, _, z2, _, _, z5, _⟩ := id h1
  obtain ⟨a', vs, g1, g2, g3⟩ := key z2 (z5 _ List.mem_cons_self)
  injection g1 with g1
  subst g1
  refine ⟨a', rfl, ⟨vs, g2⟩, q (Itt X.K a') H1 [(some (.ref a'), .is x)] trivial e1 (fun p hp => by rw [List.mem_singleton.mp hp]; trivial) h1 ?_ ?_⟩
  · intro ρ' σ' Γ' H' i y k hx
    obtain ⟨Hd, ed, ok⟩ := HasE.midS (τ := []) k
    obtain ⟨b', ws, m1, m2, m3⟩ := key ed ok
    injection m1 with m1
    injection m1 with m1
    subst m1
    obtain ⟨u, n1, n2⟩ := paired_get m3 hx
    refine ⟨⟨ws, u, m2, n1⟩, fun v H'' y' => ?_⟩
    obtain ⟨y1, y2⟩ := y'
    subst y1
    refine ⟨Ex.refl _, ?_⟩
    obtain ⟨q', e', r'⟩ := HasE.mid (τ := []) k (P := fun q => q = (some v, .is y)) fun Hd2 ed2 ok2 => by
      obtain ⟨b2, ws2, m1', m2', m3'⟩ := key ed2 ok2
      injection m1' with m1'
      injection m1' with m1'
      subst m1'
      obtain ⟨u2, n1', n2'⟩ := paired_get m3' hx
      have ev : ws2[i]? = some v := y2 ws2 m2'
      rw [ev] at n1'
      injection n1' with n1'
      subst n1'
      exact ⟨_, rfl, ⟨v, rfl, n2'⟩, fun r => apart_is r⟩
    rw [e'] at r'
    exact r'
  · intro ρ' σ' Γ' H' k
    obtain ⟨Hd, ed, ok⟩ := HasE.midS (τ := []) k
    obtain ⟨b', ws, m1, m2, m3⟩ := key ed ok
    injection m1 with m1
    injection m1 with m1
    subst m1
    exact ⟨ws, m2, by rw [paired_len m3]; exact Nat.le_refl _⟩)⟩
def rangeI (lo : Int) (n : Nat) : List Int := (List.range n).map fun (k : Nat) => lo + (k : Int)
theorem rangeI_length (lo : Int) (n : Nat) : (rangeI lo n).length = n := by simp [rangeI]
theorem rangeI_get {lo : Int} {n i : Nat} {x : Int} (h : (rangeI lo n)[i]? = some x) : i < n ∧ x = lo + (i : Int) := by
  have hi : i < n := by
    have := (List.getElem?_eq_some_iff.mp h).1
    rw [rangeI_length] at this
    exact this
  refine ⟨hi, ?_⟩
  unfold rangeI at h
  rw [List.getElem?_map, List.getElem?_range hi] at h
  simpa using h.symm
theorem mem_rangeI {lo : Int} {n : Nat} {x : Int} : x ∈ rangeI lo n ↔ lo ≤ x ∧ x < lo + n := by
  unfold rangeI
  rw [List.mem_map]
  constructor
  · rintro ⟨k, h1, h2⟩
    have := List.mem_range.mp h1
    omega
  · intro h
    exact ⟨(x - lo).toNat, List.mem_range.mpr (by omega), by omega⟩
theorem it_rng {lo : Int} {n : Nat} {P : Prop} (hP : P) (h : ∀ B ρ σ H, HasE X.K B H ρ σ Γ → ∀ R : It → Hp → Prop, (∀ H1, Ex H H1 → HasE X.K B H1 ρ σ Γ → R (Itr lo n) H1) → wI X tg iter σ H R) : IX X Γ tg iter (rangeI lo n) P := ⟨fun B ρ σ H h' R q => h B ρ σ H h' R fun H1 e1 h1 =>
  q (Itr lo n) H1 [] hP e1 (fun p hp => nomatch hp) h1 (fun ρ' σ' Γ' H' i x k hx => by
    obtain ⟨hi, rfl⟩ := rangeI_get hx
    refine ⟨hi, fun v H'' y => ?_⟩
    obtain ⟨y1, y2⟩ := y
    subst y1 y2
    exact ⟨Ex.refl _, HasE.pushSc (lo + (i : Int)) k⟩) (fun ρ' σ' Γ' H' k => by
    rw [rangeI_length]
    exact Nat.le_refl _)⟩
theorem it_range1 {j : Int} (hm : X.mg "range" = none) (h : PX X Γ a (.is j)) (hj : -(2 ^ 62) ≤ j ∧ j < 2 ^ 62) (hg : Gl X "range" := by rfl) (hs : starEach [a] X.env = [(false, eval a X.env)] := by rfl) : IX X Γ tg (.Call (.Name "range" p) [a] [] pos) (rangeI 0 j.toNat) True :=
  it_rng trivial fun B ρ σ H h' R q => goI (pi_range1 hg hm (pa_cons peW pa_nil hs) hs) (h.run B ρ σ H h' _ fun v H1 e1 h1 => by
    have ew := h1.topSc
    injection ew with ew
    subst ew
    exact ⟨j, rfl, hj.1, hj.2, q H1 e1 h1.pop⟩)
theorem it_range2 {i j : Int} (hm : X.mg "range" = none) (h : PX X Γ a (.is i)) (h2 : PX X Γ b (.is j)) (hj : -(2 ^ 62) ≤ i ∧ i < 2 ^ 62 ∧ -(2 ^ 62) ≤ j ∧ j < 2 ^ 62) (hg : Gl X "range" := by rfl) (hs : starEach [a, b] X.env = [(false, eval a X.env), (false, eval b X.env)] := by rfl) (hs2 : starEach [b] X.env = [(false, eval b X.env)] := by rfl) :
    IX X Γ tg (.Call (.Name "range" p) [a, b] [] pos) (rangeI i (j - i).toNat) True :=
  it_rng trivial fun B ρ σ H h' R q => goI (pi_range2 hg hm (pa_cons peW (pa_cons peW pa_nil hs2) (by rw [hs, hs2])) hs hs2) (h.run B ρ σ H h' _ fun v H1 e1 h1 => h2.run B _ σ H1 h1 _ fun w H2 e2 h3 => by
    have ew := h3.topSc
    have ev := h3.swap.topSc
    injection ew with ew
    injection ev with ev
    subst ew ev
    exact ⟨i, j, rfl, hj, q H2 (e1.trans e2) h3.pop.pop⟩)
theorem it_str {x : List Nat} (h : PX X Γ iter (.is x)) : IX X Γ tg iter (x.map fun c => [c]) True := ⟨fun B ρ σ H h' R q => goI (pi_str peW) (h.run B ρ σ H h' _ fun v H1 e1 h1 => by
  have ev := topTx h1
  injection ev with ev
  subst ev
  refine ⟨mkS x, rfl, q (Its (mkS x)) H1 [] trivial e1 (fun p hp => nomatch hp) h1.pop (fun ρ' σ' Γ' H' i y k hx => ?_) (fun ρ' σ' Γ' H' k => ?_)⟩
  · rw [List.getElem?_map] at hx
    cases hc : x[i]? with
    | none => rw [hc] at hx; cases hx
    | some c =>
      rw [hc] at hx
      have hx : [c] = y := Option.some.inj hx
      subst hx
      have hi : i < x.length := (List.getElem?_eq_some_iff.mp hc).1
      refine ⟨by show i < x.toArray.size; simpa using hi, fun v H'' y => ?_⟩
      obtain ⟨y1, c', y2, y3⟩ := y
      have y2 : x.toArray[i]? = some c' := y2
      rw [List.getElem?_toArray, hc] at y2
      injection y2 with y2
      subst y1 y2 y3
      exact ⟨Ex.refl _, pushTx [c] k⟩
  · show x.toArray.size ≤ (x.map fun c => [c]).length
    simp)⟩

/-! ### slots -/
/-- fewer things known -/
inductive Wk : List Sl → List Sl → Prop
  | nil : Wk [] []
  | same {s : Sl} {Γ Γ' : List Sl} : Wk Γ Γ' → Wk (s :: Γ) (s :: Γ')
  | drop {s : Sl} {Γ Γ' : List Sl} : Wk Γ Γ' → Wk (s :: Γ) (.no :: Γ')
theorem Wk.refl : ∀ Γ : List Sl, Wk Γ Γ
  | [] => .nil
  | _ :: Γ => .same (Wk.refl Γ)
theorem Wk.len : ∀ {Γ Γ' : List Sl}, Wk Γ Γ' → Γ.length = Γ'.length
  | _, _, .nil => rfl
  | _, _, .same h => by simp [h.len]
  | _, _, .drop h => by simp [h.len]
theorem Wk.mem : ∀ {Γ Γ' : List Sl} {σ : L2.St}, Wk Γ Γ' → ∀ p ∈ σ.zip Γ', p ∈ σ.zip Γ ∨ p.2 = .no
  | _, _, _, .nil, p, h => .inl h
  | _, _, [], .same _, p, h => .inl h
  | _, _, [], .drop _, p, h => .inl h
  | _, _, o :: σ, .same h, p, hp => by
    rcases List.mem_cons.mp hp with z | z
    · rw [z]; exact .inl List.mem_cons_self
    · rcases Wk.mem (σ := σ) h p z with z | z
      · exact .inl (List.mem_cons_of_mem _ z)
      · exact .inr z
  | _, _, o :: σ, .drop h, p, hp => by
    rcases List.mem_cons.mp hp with z | z
    · rw [z]; exact .inr rfl
    · rcases Wk.mem (σ := σ) h p z with z | z
      · exact .inl (List.mem_cons_of_mem _ z)
      · exact .inr z
theorem Wk.pair : ∀ {Γ Γ' : List Sl} {σ : L2.St}, Wk Γ Γ' → (σ.zip Γ).Pairwise apart → (σ.zip Γ').Pairwise apart
  | _, _, _, .nil, h => h
  | _, _, [], .same _, h => h
  | _, _, [], .drop _, h => h
  | _, _, o :: σ, .same w, h => by
    have h' := List.pairwise_cons.mp h
    refine List.pairwise_cons.mpr ⟨fun q hq => ?_, Wk.pair w h'.2⟩
    rcases Wk.mem w q hq with z | z
    · exact h'.1 q z
    · intro a _ x
      unfold owns at x
      rw [z] at x
      exact x
  | _, _, o :: σ, .drop w, h => by
    have h' := List.pairwise_cons.mp h
    exact List.pairwise_cons.mpr ⟨fun q _ => apart_no q, Wk.pair w h'.2⟩
theorem HasE.weak {K : PySem.W.Frag} {B : Hp × Hp} {H : Hp} {ρ : List Slot} {σ : L2.St} {Γ Γ' : List Sl} (w : Wk Γ Γ') (h : HasE K B H ρ σ Γ) : HasE K B H ρ σ Γ' := by
  obtain ⟨l, Hd, h1, h2, h3, h4, h5, h6⟩ := h
  refine ⟨l.trans w.len, Hd, h1, h2, h3, h4, fun p hp => ?_, ?_⟩
  · rcases List.mem_append.mp hp with z | z
    · exact h5 p (List.mem_append_left _ z)
    · rcases w.mem p z with z | z
      · exact h5 p (List.mem_append_right _ z)
      · rw [z]; trivial
  · rw [List.pairwise_append] at h6 ⊢
    refine ⟨h6.1, w.pair h6.2.1, fun p hp q hq => ?_⟩
    rcases w.mem q hq with z | z
    · exact h6.2.2 p hp q z
    · intro a _ x
      unfold owns at x
      rw [z] at x
      exact x
theorem zip_set {α : Type} {β : Type 1} : ∀ (σ : List α) (Γ : List β) (i : Nat) (o : α) (s : β), (σ.set i o).zip (Γ.set i s) = (σ.zip Γ).set i (o, s)
  | [], _, _, _, _ => by simp
  | _ :: _, [], i, _, _ => by cases i <;> simp
  | _ :: _, _ :: _, 0, _, _ => rfl
  | _ :: σ, _ :: Γ, i + 1, o, s => by simp [zip_set σ Γ i o s]
theorem pairwise_set {α : Type 1} {R : α → α → Prop} (symm : ∀ a b, R a b → R b a) {x : α} : ∀ {l : List α} (i : Nat), (x :: l).Pairwise R → (l.set i x).Pairwise R
  | [], _, _ => .nil
  | a :: l, 0, h => by
    have h' := List.pairwise_cons.mp h
    exact List.pairwise_cons.mpr ⟨fun y hy => h'.1 y (List.mem_cons_of_mem _ hy), (List.pairwise_cons.mp h'.2).2⟩
  | a :: l, i + 1, h => by
    have h' := List.pairwise_cons.mp h
    have h2 := List.pairwise_cons.mp h'.2
    refine List.pairwise_cons.mpr ⟨fun y hy => ?_, pairwise_set symm (l := l) i (List.pairwise_cons.mpr ⟨fun y hy => h'.1 y (List.mem_cons_of_mem _ hy), h2.2⟩)⟩
    rcases List.mem_or_eq_of_mem_set hy with z | z
    · exact h2.1 y z
    · rw [z]; exact symm _ _ (h'.1 a List.mem_cons_self)
/-- the top goes into a slot -/
theorem HasE.set {K : PySem.W.Frag} {B : Hp × Hp} {H : Hp} {ρ : List Slot} {σ : L2.St} {Γ : List Sl} {o : Option V} {s : Sl} (i : Nat) (h : HasE K B H ((o, s) :: ρ) σ Γ) : HasE K B H ρ (σ.set i o) (Γ.set i s) := by
  obtain ⟨l, Hd, h1, h2, h3, h4, h5, h6⟩ := h
  refine ⟨by simp [l], Hd, h1, h2, h3, h4, fun p hp => ?_, ?_⟩
  · rw [zip_set] at hp
    rcases List.mem_append.mp hp with z | z
    · exact h5 p (List.mem_cons_of_mem _ (List.mem_append_left _ z))
    · rcases List.mem_or_eq_of_mem_set z with z | z
      · exact h5 p (List.mem_cons_of_mem _ (List.mem_append_right _ z))
      · rw [z]; exact h5 _ List.mem_cons_self
  · rw [zip_set]
    have h7 := List.pairwise_cons.mp h6
    have h8 := List.pairwise_append.mp h7.2
    refine List.pairwise_append.mpr ⟨h8.1, pairwise_set (fun _ _ => apart.symm) i (List.pairwise_cons.mpr ⟨fun y hy => h7.1 y (List.mem_append_right _ hy), h8.2.1⟩), fun p hp q hq => ?_⟩
    rcases List.mem_or_eq_of_mem_set hq with z | z
    · exact h8.2.2 p hp q z
    · rw [z]; exact (h7.1 p (List.mem_append_left _ hp)).symm
/-- a slot is forgotten -/
theorem HasE.clear {K : PySem.W.Frag} {B : Hp × Hp} {H : Hp} {ρ : List Slot} {σ : L2.St} {Γ : List Sl} (i : Nat) (o : Option V) (h : HasE K B H ρ σ Γ) : HasE K B H ρ (σ.set i o) (Γ.set i .no) :=
  HasE.set i (h.push (fun q => apart_no q) fun _ _ _ => trivial)
def wipeΓ (Γ : List Sl) : List Nat → List Sl
  | [] => Γ
  | v :: vs => (wipeΓ Γ vs).set v .no
theorem HasE.wipe {K : PySem.W.Frag} {B : Hp × Hp} {H : Hp} {ρ : List Slot} {σ : L2.St} {Γ : List Sl} (h : HasE K B H ρ σ Γ) : ∀ vs : List Nat, HasE K B H ρ (L2.wipe σ vs) (wipeΓ Γ vs)
  | [] => h
  | v :: vs => (h.wipe vs).clear v none

/-! ### comprehensions -/
/-- within a comprehension one's own lists are only read -/
def lend : Sl → Sl
  | @Sl.own _ _ xs => .bor xs
  | @Sl.ownA _ _ _ xs => .bor xs
  | .gen _ _ => .no
  | s => s
theorem lend_ok {K : PySem.W.Frag} {B1 Hd H : Hp} {o : Option V} {s : Sl} (h : SlotOk K B1 Hd H o s) : SlotOk K B1 Hd H o (lend s) := by
  cases s with
  | own xs => obtain ⟨a, vs, g1, g2, g3, g4, g5⟩ := h; exact ⟨a, vs, g1, g4, g5⟩
  | no => exact h
  | is x => exact h
  | bor x => exact h
  | arg x => exact h
  | ownA c xs => obtain ⟨a, vs, g1, g2, g3, g4, g5, _⟩ := h; exact ⟨a, vs, g1, g4, g5⟩
  | gen fp Φ => trivial
theorem lend_apart {o : Option V} {s : Sl} (q : Slot) : apart (o, lend s) q := by
  cases s with
  | own xs => exact apart_bor q
  | no => exact apart_no q
  | is x => exact apart_is q
  | bor x => exact apart_bor q
  | arg x => exact apart_arg q
  | ownA c xs => exact apart_bor q
  | gen fp Φ => exact apart_no q
theorem zip_lend : ∀ {σ : L2.St} {Γ : List Sl} {p : Slot}, p ∈ σ.zip (Γ.map lend) → ∃ q ∈ σ.zip Γ, p = (q.1, lend q.2)
  | [], _, _, h => by simp at h
  | _ :: _, [], _, h => by simp at h
  | o :: σ, s :: Γ, p, h => by
    rcases List.mem_cons.mp h with z | z
    · exact ⟨(o, s), List.mem_cons_self, z⟩
    · obtain ⟨q, h1, h2⟩ := zip_lend z
      exact ⟨q, List.mem_cons_of_mem _ h1, h2⟩
/-- the slots are kept beside, a copy of them goes on -/
theorem HasE.fork {K : PySem.W.Frag} {B : Hp × Hp} {H : Hp} {ρ : List Slot} {σ : L2.St} {Γ : List Sl} (h : HasE K B H ρ σ Γ) : HasE K B H (σ.zip Γ ++ ρ) σ (Γ.map lend) := by
  obtain ⟨l, Hd, h1, h2, h3, h4, h5, h6⟩ := h
  refine ⟨by simp [l], Hd, h1, h2, h3, h4, fun p hp => ?_, ?_⟩
  · rcases List.mem_append.mp hp with z | z
    · rcases List.mem_append.mp z with z | z
      · exact h5 p (List.mem_append_right _ z)
      · exact h5 p (List.mem_append_left _ z)
    · obtain ⟨q, hq, e⟩ := zip_lend z
      rw [e]
      exact lend_ok (h5 q (List.mem_append_right _ hq))
  · have h7 := List.pairwise_append.mp h6
    refine List.pairwise_append.mpr ⟨List.pairwise_append.mpr ⟨h7.2.1, h7.1, fun p hp q hq => (h7.2.2 q hq p hp).symm⟩, ?_, fun p _ q hq => ?_⟩
    · have key : ∀ (l : List Slot), (∀ p ∈ l, ∀ q, apart p q) → l.Pairwise apart := by
        intro l
        induction l with
        | nil => intro _; exact .nil
        | cons p l ih => intro f; exact List.pairwise_cons.mpr ⟨fun q _ => f p List.mem_cons_self q, ih fun r hr => f r (List.mem_cons_of_mem _ hr)⟩
      refine key _ fun p hp q => ?_
      obtain ⟨r, hr, e⟩ := zip_lend hp
      rw [e]
      exact lend_apart q
    · obtain ⟨r, hr, e⟩ := zip_lend hq
      rw [e]
      exact (lend_apart p).symm
theorem HasE.join {K : PySem.W.Frag} {B : Hp × Hp} {H : Hp} {ρ : List Slot} {σ σ2 : L2.St} {Γ Γ2 : List Sl} (l : σ.length = Γ.length) (h : HasE K B H (σ.zip Γ ++ ρ) σ2 Γ2) : HasE K B H ρ σ Γ := by
  obtain ⟨_, Hd, h1, h2, h3, h4, h5, h6⟩ := h
  refine ⟨l, Hd, h1, h2, h3, h4, fun p hp => h5 p (List.mem_append_left _ ?_), ?_⟩
  · rcases List.mem_append.mp hp with z | z
    · exact List.mem_append_right _ z
    · exact List.mem_append_left _ z
  · have h7 := List.pairwise_append.mp (List.pairwise_append.mp h6).1
    exact List.pairwise_append.mpr ⟨h7.2.1, h7.1, fun p hp q hq => (h7.2.2 q hq p hp).symm⟩
/-- .. the top left where it is -/
theorem HasE.join1 {K : PySem.W.Frag} {B : Hp × Hp} {H : Hp} {ρ : List Slot} {σ σ2 : L2.St} {Γ Γ2 : List Sl} {p : Slot} (l : σ.length = Γ.length) (h : HasE K B H (p :: (σ.zip Γ ++ ρ)) σ2 Γ2) : HasE K B H (p :: ρ) σ Γ := by
  refine HasE.join (σ2 := σ2) (Γ2 := Γ2) l ?_
  obtain ⟨l2, Hd, h1, h2, h3, h4, h5, h6⟩ := h
  refine ⟨l2, Hd, h1, h2, h3, h4, fun q hq => h5 q ?_, ?_⟩
  · rcases List.mem_append.mp hq with z | z
    · rcases List.mem_append.mp z with z | z
      · exact List.mem_cons_of_mem _ (List.mem_append_left _ (List.mem_append_left _ z))
      · rcases List.mem_cons.mp z with z | z
        · rw [z]; exact List.mem_cons_self
        · exact List.mem_cons_of_mem _ (List.mem_append_left _ (List.mem_append_right _ z))
    · exact List.mem_cons_of_mem _ (List.mem_append_right _ z)
  · have h7 := List.pairwise_cons.mp h6
    have h8 := List.pairwise_append.mp h7.2
    have h9 := List.pairwise_append.mp h8.1
    refine List.pairwise_append.mpr ⟨List.pairwise_append.mpr ⟨h9.1, List.pairwise_cons.mpr ⟨fun q hq => h7.1 q (List.mem_append_left _ (List.mem_append_right _ hq)), h9.2.1⟩, fun q hq r hr => ?_⟩, h8.2.1, fun q hq r hr => ?_⟩
    · rcases List.mem_cons.mp hr with z | z
      · rw [z]; exact (h7.1 q (List.mem_append_left _ (List.mem_append_left _ hq))).symm
      · exact h9.2.2 q hq r z
    · rcases List.mem_append.mp hq with z | z
      · exact h8.2.2 q (List.mem_append_left _ z) r hr
      · rcases List.mem_cons.mp z with z | z
        · rw [z]; exact h7.1 r (List.mem_append_right _ hr)
        · exact h8.2.2 q (List.mem_append_right _ z) r hr
def wEb (X : Cx) (scope : Scope) (e : Expr) : TE := fun σ H' Q => ∀ (s : Shared) (H : Hp) (C : Addr) (cl : List (Str × Addr)) (fp : List Addr), wE (X.blk s H scope (compEnvC scope cl C X.env) fp) e σ H' Q
def wTb (X : Cx) (scope : Scope) (e : Expr) : TT := fun σ H' Q => ∀ (s : Shared) (H : Hp) (C : Addr) (cl : List (Str × Addr)) (fp : List Addr), wT (X.blk s H scope (compEnvC scope cl C X.env) fp) e σ H' Q
theorem lc_run {α β : Type} [Enc α] [Enc β] {elt : Expr} {scope : Scope} {xs : List α} {P : Prop} {tt : TT} (j : Nat) (g : α → β) (f : α → Bool) (hi : IXB X Γ tg iter xs P) (hz : P → xs.length ≤ sizeLine)
    (ht : ∀ (i : Nat) (x : α), xs[i]? = some x → ∀ (B : Hp × Hp) (ρ : List Slot) (σ : L2.St) (H : Hp), HasE X.K B H ρ σ ((Γ.map lend).set j (.is x)) → ∀ Q : Bool → Hp → Prop, (∀ H', Ex H H' → HasE X.K B H' ρ σ ((Γ.map lend).set j (.is x)) → Q (f x) H') → tt σ H Q)
    (he : ∀ (i : Nat) (x : α), xs[i]? = some x → f x = true → ∀ (s : Shared) (H : Hp) (C : Addr) (cl : List (Str × Addr)) (fp : List Addr), PX (X.blk s H scope (compEnvC scope cl C X.env) fp) ((Γ.map lend).set j (.is x)) elt (.is (g x)))
    (B : Hp × Hp) (ρ : List Slot) (σ : L2.St) (H : Hp) (h : HasE X.K B H ρ σ Γ) (Q : VK) (q : ∀ v H', Ex H H' → HasE X.K B H' ((some v, .own ((xs.filter f).map g)) :: ρ) σ Γ → Q v H') :
    tLc (wI X tg iter) (gName j) tt (wEb X scope elt) [j] σ H Q := by
  refine hi.run B ρ σ H h _ fun J H1 τ hp e1 h1 hgo hstop => fun D hD => ?_
  have hlen := hz hp
  have hl := h.len
  refine ⟨fun i m H' => m = xs.length - i ∧ i ≤ xs.length ∧ Ex H1 H' ∧ HasE X.K B H' ([(some (V.ref D), .own (((xs.take i).filter f).map g))] ++ (τ ++ ρ)) σ Γ, ⟨xs.length, by simp, Nat.zero_le _, Ex.new hD, ?_⟩, ?_⟩
  · exact HasE.newOwn (xs := ([] : List β)) h1 hD fun Hd _ _ => .nil
  · rintro i m H2 ⟨rfl, hin, ex2, k⟩
    by_cases hlt : i < xs.length
    · have hx : xs[i]? = some xs[i] := List.getElem?_eq_getElem hlt
      obtain ⟨g1, g2⟩ := hgo [(some (V.ref D), .own (((xs.take i).filter f).map g))] σ Γ H2 i xs[i] k hx
      refine .inr ⟨g1, fun H' => Ex H1 H' ∧ HasE X.K B H' ([(some (V.ref D), .own (((xs.take (i + 1)).filter f).map g))] ++ (τ ++ ρ)) σ Γ, fun H' p => ⟨xs.length - (i + 1), by omega, rfl, hlt, p.1, p.2⟩, fun x H3 y => ?_⟩
      obtain ⟨e3, k3⟩ := g2 x H3 y
      have ex3 : Ex H1 H3 := ex2.trans e3
      have hw : L2.wipe ((L2.wipe σ [j]).set j (some x)) [j] = L2.wipe σ [j] := by
        show ((σ.set j none).set j (some x)).set j none = σ.set j none
        rw [List.set_set, List.set_set]
      have hσ : (L2.wipe σ [j]).set j (some x) = σ.set j (some x) := by
        show (σ.set j none).set j (some x) = _
        rw [List.set_set]
      have tk : (xs.take (i + 1)) = xs.take i ++ [xs[i]] := by
        rw [List.take_succ, hx]
        rfl
      -- the block's slots, the outer ones beside
      have k4 : HasE X.K B H3 (σ.zip Γ ++ ([(some (V.ref D), .own (((xs.take i).filter f).map g))] ++ (τ ++ ρ))) (σ.set j (some x)) ((Γ.map lend).set j (.is xs[i])) := by
        have a := k3.fork
        obtain ⟨l, Hd, a1, a2, a3, a4, a5, a6⟩ := a
        refine HasE.set j ⟨l, Hd, a1, a2, a3, a4, fun p hp => a5 p ?_, ?_⟩
        · rcases List.mem_append.mp hp with z | z
          · rcases List.mem_cons.mp z with z | z
            · rw [z]; exact List.mem_append_left _ (List.mem_append_right _ List.mem_cons_self)
            · rcases List.mem_append.mp z with z | z
              · exact List.mem_append_left _ (List.mem_append_left _ z)
              · exact List.mem_append_left _ (List.mem_append_right _ (List.mem_cons_of_mem _ z))
          · exact List.mem_append_right _ z
        · have b := List.pairwise_append.mp a6
          have c := List.pairwise_append.mp b.1
          have d := List.pairwise_cons.mp c.2.1
          refine List.pairwise_append.mpr ⟨List.pairwise_cons.mpr ⟨fun r _ => apart_is r, List.pairwise_append.mpr ⟨c.1, d.2, fun p hp q hq => c.2.2 p hp q (List.mem_cons_of_mem _ hq)⟩⟩, b.2.1, fun p hp q hq => ?_⟩
          rcases List.mem_cons.mp hp with z | z
          · rw [z]; exact apart_is q
          · refine b.2.2 p ?_ q hq
            rcases List.mem_append.mp z with z | z
            · exact List.mem_append_left _ z
            · exact List.mem_append_right _ (List.mem_cons_of_mem _ z)
      show L2.wipe ((L2.wipe σ [j]).set j (some x)) [j] = L2.wipe σ [j] ∧ _
      refine ⟨hw, ?_⟩
      rw [hσ]
      refine ht i xs[i] hx B _ _ H3 k4 _ fun H4 e4 k5 => ?_
      cases hf : f xs[i] with
      | false =>
        rw [if_neg Bool.false_ne_true]
        refine ⟨ex3.trans e4, ?_⟩
        rw [tk, List.filter_append, List.map_append]
        have : List.filter f [xs[i]] = [] := by simp [hf]
        rw [this, List.map_nil, List.append_nil]
        exact HasE.join hl k5
      | true =>
        rw [if_pos rfl]
        intro s0 H0 C cl fp
        refine (he i xs[i] hx hf s0 H0 C cl fp).run B _ _ H4 k5 _ fun y' H5 e5 k6 => ?_
        -- y' the new item; the outer slots come back
        have k7 : HasE X.K B H5 ((some y', .is (g xs[i])) :: ([(some (V.ref D), .own (((xs.take i).filter f).map g))] ++ (τ ++ ρ))) σ Γ := HasE.join1 hl k6
        have k8 := k7.swap
        obtain ⟨l, Hd, a1, a2, a3, a4, a5, a6⟩ := id k8
        obtain ⟨b, ws, c1, c2, c3, c4, c5⟩ := a5 _ List.mem_cons_self
        have c1 : some (V.ref D) = some (V.ref b) := c1
        injection c1 with c1
        injection c1 with c1
        subst c1
        have ws_len : ws.length ≤ i := by
          rw [paired_len c5, List.length_map]
          refine Nat.le_trans (List.length_filter_le _ _) ?_
          rw [List.length_take]
          omega
        refine ⟨ws, c4, by omega, (ex3.trans (e4.trans e5)).mut hD, ?_⟩
        rw [tk, List.filter_append, List.map_append]
        have : List.filter f [xs[i]] = [xs[i]] := by simp [hf]
        rw [this]
        refine (HasE.mut (xs' := ((xs.take i).filter f).map g ++ [xs[i]].map g) (vs := ws) k8 (fun p hp lp => ?_) fun Hd' ed ok own => ?_).pop2
        · -- what is only borrowed was there before the new list
          rcases List.mem_append.mp hp with z | z
          · rcases List.mem_cons.mp z with z | z
            · rw [z] at lp; exact lp
            · exact HasE.lent h1 (List.mem_append_left _ z) lp hD
          · exact HasE.lent h1 (List.mem_append_right _ z) lp hD
        · obtain ⟨v', d1, d2⟩ := ok (some y', .is (g xs[i])) List.mem_cons_self
          have d1 : some y' = some v' := d1
          injection d1 with d1
          subst d1
          exact paired_append (own ws c4) (.cons d2 .nil)
    · have e : i = xs.length := by omega
      subst e
      rw [List.take_length] at k
      refine .inl ⟨hstop _ σ Γ H2 k, q _ H2 (e1.trans ex2) ?_⟩
      clear hgo hstop h1 hlt
      induction τ with
      | nil => exact k
      | cons t τ ih => exact ih (HasE.pop2 k)
theorem px_lc0 {α β : Type} [Enc α] [Enc β] {elt : Expr} {scope : Scope} {nm : Str} {xs : List α} {P : Prop} (j : Nat) (g : α → β) (hi : IXB X Γ tg iter xs P) (hz : P → xs.length ≤ sizeLine)
    (htg : ∀ (s : Shared) (H : Hp) (C : Addr) (cl : List (Str × Addr)) (fp : List Addr), PG (X.blk s H scope (compEnvC scope cl C X.env) fp) tg (gName j)) (ok : BlkOk X.N X.env.scope scope [(nm, j)]) (hN : X.N.Nodup) (hc : X.calm = true)
    (he : ∀ (i : Nat) (x : α), xs[i]? = some x → ∀ (s : Shared) (H : Hp) (C : Addr) (cl : List (Str × Addr)) (fp : List Addr), PX (X.blk s H scope (compEnvC scope cl C X.env) fp) ((Γ.map lend).set j (.is x)) elt (.is (g x)))
    (hs : ∀ x, foldedSetIterable iter X.env x = pure x := by intro _; rfl) : PX X Γ (.ListComp elt [⟨tg, iter, [], 0⟩] scope pos) (.own (xs.map g)) :=
  ⟨fun B ρ σ H h Q q => goE (pe_lc (own := [(nm, j)]) (te := wEb X scope elt) hc hN piW ok htg (fun s H C cl fp => pts_nil) (fun s H C cl fp => ⟨fun pins s' σ H' Q I h => h s H C cl fp pins s' I⟩) hs)
    (lc_run j g (fun _ => true) hi hz (fun i x hx B ρ σ H h Q q => q H (Ex.refl H) h) (fun i x hx _ => he i x hx) B ρ σ H h Q fun v H' e k => q v H' e (by rw [List.filter_eq_self.mpr (fun _ _ => rfl)] at k; exact k))⟩
theorem px_lc1 {α β : Type} [Enc α] [Enc β] {elt cnd : Expr} {scope : Scope} {nm : Str} {xs : List α} {P : Prop} (j : Nat) (g : α → β) (f : α → Bool) (hi : IXB X Γ tg iter xs P) (hz : P → xs.length ≤ sizeLine)
    (htg : ∀ (s : Shared) (H : Hp) (C : Addr) (cl : List (Str × Addr)) (fp : List Addr), PG (X.blk s H scope (compEnvC scope cl C X.env) fp) tg (gName j)) (ok : BlkOk X.N X.env.scope scope [(nm, j)]) (hN : X.N.Nodup) (hc : X.calm = true)
    (ht : ∀ (i : Nat) (x : α), xs[i]? = some x → ∀ (s : Shared) (H : Hp) (C : Addr) (cl : List (Str × Addr)) (fp : List Addr), TX (X.blk s H scope (compEnvC scope cl C X.env) fp) ((Γ.map lend).set j (.is x)) cnd (f x))
    (he : ∀ (i : Nat) (x : α), xs[i]? = some x → f x = true → ∀ (s : Shared) (H : Hp) (C : Addr) (cl : List (Str × Addr)) (fp : List Addr), PX (X.blk s H scope (compEnvC scope cl C X.env) fp) ((Γ.map lend).set j (.is x)) elt (.is (g x)))
    (hs : ∀ x, foldedSetIterable iter X.env x = pure x := by intro _; rfl) : PX X Γ (.ListComp elt [⟨tg, iter, [cnd], 0⟩] scope pos) (.own ((xs.filter f).map g)) :=
  ⟨fun B ρ σ H h Q q => goE (pe_lc (own := [(nm, j)]) (tt := wTb X scope cnd) (te := wEb X scope elt) hc hN piW ok htg (fun s H C cl fp => pts_one ⟨fun pins s' σ H' Q I h => h s H C cl fp pins s' I⟩) (fun s H C cl fp => ⟨fun pins s' σ H' Q I h => h s H C cl fp pins s' I⟩) hs)
    (lc_run j g f hi hz (fun i x hx B ρ σ H h Q q s0 H0 C cl fp => (ht i x hx s0 H0 C cl fp).run B ρ σ H h Q q) he B ρ σ H h Q q)⟩
end
end DX
namespace DX
open PySem PySem.Spec PyProof.Rows L2

/-! ### statements -/
def wC (X : Cx) : List (List Stmt) → TS
  | [] => tNext
  | b :: k => fun D σ H => wS X b { D with nx := fun σ' H' => wC X k D σ' H' } σ H
abbrev Leaf (M : Type) := (Hp × Hp) → M → Ends → List Slot → Prop
structure SX (X : Cx) {M : Type} (L : Leaf M) (Γ : List Sl) (k : List (List Stmt)) (m : M) : Prop where
  run : ∀ (B : Hp × Hp) (ρ : List Slot) (σ : L2.St) (H : Hp) (D : Ends), (∀ p ∈ ρ, noBor p) → HasE X.K B H ρ σ Γ → L B m D ρ → wC X k D σ H
/-- a value with a name -/
def lt {α β : Type} (x : α) (f : α → β) : β := f x
inductive Out (S R : Type) where
  | go (s : S)
  | brk (s : S)
  | ret (r : R)
def forO {S R α : Type} (step : S → α → Out S R) : S → List α → Out S R
  | s, [] => .go s
  | s, x :: xs => match step s x with
    | .go s' => forO step s' xs
    | .brk s' => .brk s'
    | .ret r => .ret r
def forK {S R α M : Type} (step : S → α → Out S R) (s0 : S) (xs : List α) (m : S → M) (mr : R → M) : M := match forO step s0 xs with
  | .go s => m s
  | .brk s => m s
  | .ret r => mr r
def RetE (K : PySem.W.Frag) (B : Hp × Hp) (H : Hp) (v : V) (s : Sl) : Prop := ∃ Hd, Ex B.1 Hd ∧ Ex Hd H ∧ Ex B.2 H ∧ (∀ a, B.1 a = none → B.2 a ≠ none → Hd a = none) ∧ ResOk K B.2 Hd H (some v) s
def LRet (K : PySem.W.Frag) {R : Type} (res : R → Sl) : Leaf R := fun B m D _ => ∀ v H', RetE K B H' v (res m) → D.rt v H'
def LNx (K : PySem.W.Frag) {S : Type} (Γf : S → List Sl) : Leaf S := fun B m D ρ => ∀ σ' H', HasE K B H' ρ σ' (Γf m) → D.nx σ' H'
def LOut (K : PySem.W.Frag) {S R : Type} (Γf : S → List Sl) (res : R → Sl) : Leaf (Out S R) := fun B m D ρ => match m with
  | .go s => (∀ σ' H', HasE K B H' ρ σ' (Γf s) → D.nx σ' H') ∧ (∀ σ' H', HasE K B H' ρ σ' (Γf s) → D.ct σ' H')
  | .brk s => ∀ σ' H', HasE K B H' ρ σ' (Γf s) → D.bk σ' H'
  | .ret r => ∀ v H', RetE K B H' v (res r) → D.rt v H'
/-- where a leaf takes what is returned -/
def Rets (K : PySem.W.Frag) {M R : Type} (L : Leaf M) (res : R → Sl) (mr : R → M) : Prop := ∀ B r D ρ, L B (mr r) D ρ → ∀ v H', RetE K B H' v (res r) → D.rt v H'
theorem rets_ret {K : PySem.W.Frag} {R : Type} {res : R → Sl} : Rets K (LRet K res) res (fun r => r) := fun B r D ρ h => h
theorem rets_out {K : PySem.W.Frag} {S R : Type} {Γf : S → List Sl} {res : R → Sl} : Rets K (LOut K Γf res) res Out.ret := fun B r D ρ h => h

section
variable {X : Cx} {M : Type} {L : Leaf M} {Γ Γ' : List Sl} {k : List (List Stmt)} {m : M} {st : Stmt} {sts : List Stmt} {e a b c tg iter : Expr} {pos p p' p2 apos cpos : Pos} {s : Sl}
theorem sx_nil (h : SX X L Γ k m) : SX X L Γ ([] :: k) m := ⟨fun B ρ σ H D hb h' l => goSs pss_nil (h.run B ρ σ H D hb h' l)⟩
theorem wC_cons {D : Ends} {σ : L2.St} {H : Hp} (h : w1 X st { D with nx := fun σ' H' => wC X (sts :: k) D σ' H' } σ H) : wC X ((st :: sts) :: k) D σ H := goSs (pss_cons psW pssW) h
theorem sx_weak (w : Wk Γ Γ') (h : SX X L Γ' k m) : SX X L Γ k m := ⟨fun B ρ σ H D hb h' l => h.run B ρ σ H D hb (h'.weak w) l⟩
theorem sx_eq {m' : M} (h : SX X L Γ k m) (e : m = m') : SX X L Γ k m' := e ▸ h

theorem sx_set {α : Type} [Enc α] {x0 : α} {y : Str} {mm : α → M} (i : Nat) (he : PX X Γ e (.is x0)) (hr : ∀ x, x = x0 → SX X L (Γ.set i (.is x)) (sts :: k) (mm x)) (hN : X.N.Nodup) (hi : X.N[i]? = some y := by rfl) (hx : Loc X.env.scope y := by first | exact Or.inl rfl | exact Or.inr rfl)
    (hs : swapsWith e (some (.Name y p')) pos.line X.env = pure false := by rfl) (hf : X.fn y = true ∨ X.env.scope.names.lookup y = some .local := by first | exact .inl rfl | exact .inr rfl) : SX X L Γ ((.Assign [.Name y p'] e pos :: sts) :: k) (lt x0 mm) :=
  ⟨fun B ρ σ H D hb h l => wC_cons (go1 (ps_set hN hi hx peW hs hf) (he.run B ρ σ H h _ fun v H1 e1 h1 => (hr x0 rfl).run B ρ _ H1 D hb (HasE.set i h1) l))⟩
theorem sx_setO {α : Type} [Enc α] {x0 : List α} {y : Str} {mm : List α → M} (i : Nat) (he : PX X Γ e (.own x0)) (hr : ∀ x, x = x0 → SX X L (Γ.set i (.own x)) (sts :: k) (mm x)) (hN : X.N.Nodup) (hi : X.N[i]? = some y := by rfl) (hx : Loc X.env.scope y := by first | exact Or.inl rfl | exact Or.inr rfl)
    (hs : swapsWith e (some (.Name y p')) pos.line X.env = pure false := by rfl) (hf : X.fn y = true ∨ X.env.scope.names.lookup y = some .local := by first | exact .inl rfl | exact .inr rfl) : SX X L Γ ((.Assign [.Name y p'] e pos :: sts) :: k) (lt x0 mm) :=
  ⟨fun B ρ σ H D hb h l => wC_cons (go1 (ps_set hN hi hx peW hs hf) (he.run B ρ σ H h _ fun v H1 e1 h1 => (hr x0 rfl).run B ρ _ H1 D hb (HasE.set i h1) l))⟩
/-- name = [.. for ..], the name a local -/
theorem sx_setLc0 {α β : Type} [Enc α] [Enc β] {elt : Expr} {scope : Scope} {nm y : Str} {xs : List α} {P : Prop} {py spos : Pos} {mm : List β → M} (i j : Nat) (g : α → β) (hi : IXB X Γ tg iter xs P) (hz : P → xs.length ≤ sizeLine)
    (hr : ∀ x, x = xs.map g → SX X L (Γ.set i (.own x)) (sts :: k) (mm x))
    (htg : ∀ (s : Shared) (H : Hp) (C : Addr) (cl : List (Str × Addr)) (fp : List Addr), PG (X.blk s H scope (compEnvC scope cl C X.env) fp) tg (gName j)) (ok : BlkOk X.N X.env.scope scope [(nm, j)]) (hN : X.N.Nodup) (hc : X.calm = true)
    (he : ∀ (i : Nat) (x : α), xs[i]? = some x → ∀ (s : Shared) (H : Hp) (C : Addr) (cl : List (Str × Addr)) (fp : List Addr), PX (X.blk s H scope (compEnvC scope cl C X.env) fp) ((Γ.map lend).set j (.is x)) elt (.is (g x)))
    (hsw : swapsWith (.ListComp elt [⟨tg, iter, [], 0⟩] scope pos) (some (.Name y py)) spos.line X.env = pure true) (hy : X.N[i]? = some y := by rfl) (hyl : X.env.scope.names.lookup y = some .local := by rfl)
    (hs : ∀ x, foldedSetIterable iter X.env x = pure x := by intro _; rfl) : SX X L Γ ((.Assign [.Name y py] (.ListComp elt [⟨tg, iter, [], 0⟩] scope pos) spos :: sts) :: k) (lt (xs.map g) mm) :=
  ⟨fun B ρ σ H D hb h l => wC_cons (go1 (ps_setLc (own := [(nm, j)]) (te := wEb X scope elt) hc hN hy hyl hsw piW ok htg (fun s H C cl fp => pts_nil) (fun s H C cl fp => ⟨fun pins s' σ H' Q I h => h s H C cl fp pins s' I⟩) hs)
    (lc_run j g (fun _ => true) hi hz (fun i x hx B ρ σ H h Q q => q H (Ex.refl H) h) (fun i x hx _ => he i x hx) B ρ σ H h _ fun v H' e k' => (hr _ rfl).run B ρ _ H' D hb (HasE.set i (by rw [List.filter_eq_self.mpr (fun _ _ => rfl)] at k'; exact k')) l))⟩
theorem sx_setLc1 {α β : Type} [Enc α] [Enc β] {elt cnd : Expr} {scope : Scope} {nm y : Str} {xs : List α} {P : Prop} {py spos : Pos} {mm : List β → M} (i j : Nat) (g : α → β) (f : α → Bool) (hi : IXB X Γ tg iter xs P) (hz : P → xs.length ≤ sizeLine)
    (hr : ∀ x, x = (xs.filter f).map g → SX X L (Γ.set i (.own x)) (sts :: k) (mm x))
    (htg : ∀ (s : Shared) (H : Hp) (C : Addr) (cl : List (Str × Addr)) (fp : List Addr), PG (X.blk s H scope (compEnvC scope cl C X.env) fp) tg (gName j)) (ok : BlkOk X.N X.env.scope scope [(nm, j)]) (hN : X.N.Nodup) (hc : X.calm = true)
    (ht : ∀ (i : Nat) (x : α), xs[i]? = some x → ∀ (s : Shared) (H : Hp) (C : Addr) (cl : List (Str × Addr)) (fp : List Addr), TX (X.blk s H scope (compEnvC scope cl C X.env) fp) ((Γ.map lend).set j (.is x)) cnd (f x))
    (he : ∀ (i : Nat) (x : α), xs[i]? = some x → f x = true → ∀ (s : Shared) (H : Hp) (C : Addr) (cl : List (Str × Addr)) (fp : List Addr), PX (X.blk s H scope (compEnvC scope cl C X.env) fp) ((Γ.map lend).set j (.is x)) elt (.is (g x)))
    (hsw : swapsWith (.ListComp elt [⟨tg, iter, [cnd], 0⟩] scope pos) (some (.Name y py)) spos.line X.env = pure true) (hy : X.N[i]? = some y := by rfl) (hyl : X.env.scope.names.lookup y = some .local := by rfl)
    (hs : ∀ x, foldedSetIterable iter X.env x = pure x := by intro _; rfl) : SX X L Γ ((.Assign [.Name y py] (.ListComp elt [⟨tg, iter, [cnd], 0⟩] scope pos) spos :: sts) :: k) (lt ((xs.filter f).map g) mm) :=
  ⟨fun B ρ σ H D hb h l => wC_cons (go1 (ps_setLc (own := [(nm, j)]) (tt := wTb X scope cnd) (te := wEb X scope elt) hc hN hy hyl hsw piW ok htg (fun s H C cl fp => pts_one ⟨fun pins s' σ H' Q I h => h s H C cl fp pins s' I⟩) (fun s H C cl fp => ⟨fun pins s' σ H' Q I h => h s H C cl fp pins s' I⟩) hs)
    (lc_run j g f hi hz (fun i x hx B ρ σ H h Q q s0 H0 C cl fp => (ht i x hx s0 H0 C cl fp).run B ρ σ H h Q q) he B ρ σ H h _ fun v H' e k' => (hr _ rfl).run B ρ _ H' D hb (HasE.set i k') l))⟩

/-! ### own lists in slots -/
theorem pairwise_out {α : Type 1} {R : α → α → Prop} (symm : ∀ a b, R a b → R b a) {x y : α} (hy : ∀ q, R y q) : ∀ {l : List α} {i : Nat}, l[i]? = some x → l.Pairwise R → (x :: l.set i y).Pairwise R
  | [], _, h, _ => by simp at h
  | a :: l, 0, h, hp => by
    have e : a = x := by simpa using h
    subst e
    have h' := List.pairwise_cons.mp hp
    exact List.pairwise_cons.mpr ⟨fun q hq => (List.mem_cons.mp hq).elim (fun z => by rw [z]; exact symm _ _ (hy a)) (h'.1 q), List.pairwise_cons.mpr ⟨fun q _ => hy q, h'.2⟩⟩
  | a :: l, i + 1, h, hp => by
    have h' := List.pairwise_cons.mp hp
    have hx : l[i]? = some x := by simpa using h
    have ih := pairwise_out symm hy hx h'.2
    have ih' := List.pairwise_cons.mp ih
    refine List.pairwise_cons.mpr ⟨fun q hq => ?_, List.pairwise_cons.mpr ⟨fun q hq => ?_, ih'.2⟩⟩
    · rcases List.mem_cons.mp hq with z | z
      · rw [z]; exact symm _ _ (h'.1 x (List.mem_of_getElem? hx))
      · exact ih'.1 q z
    · rcases List.mem_or_eq_of_mem_set hq with z | z
      · exact h'.1 q z
      · rw [z]; exact symm _ _ (hy a)
theorem HasE.takeOut {K : PySem.W.Frag} {B : Hp × Hp} {H : Hp} {ρ : List Slot} {σ : L2.St} {Γ : List Sl} {i : Nat} {o : Option V} {s : Sl} (h : HasE K B H ρ σ Γ) (g : Γ[i]? = some s) (ho : σ[i]? = some o) : HasE K B H ((o, s) :: ρ) σ (Γ.set i .no) := by
  obtain ⟨l, Hd, h1, h2, h3, h4, h5, h6⟩ := h
  have hz : (σ.zip Γ)[i]? = some (o, s) := by
    rw [List.getElem?_zip_eq_some]
    exact ⟨ho, g⟩
  have hs : σ.set i o = σ := by
    obtain ⟨hlt, e⟩ := List.getElem?_eq_some_iff.mp ho
    subst e
    exact List.set_getElem_self hlt
  have hz2 : σ.zip (Γ.set i .no) = (σ.zip Γ).set i (o, .no) := by
    rw [← zip_set, hs]
  refine ⟨by simp [l], Hd, h1, h2, h3, h4, fun q hq => ?_, ?_⟩
  · rcases List.mem_cons.mp hq with z | z
    · rw [z]; exact h5 _ (List.mem_append_right _ (List.mem_of_getElem? hz))
    · rcases List.mem_append.mp z with z | z
      · exact h5 q (List.mem_append_left _ z)
      · rw [hz2] at z
        rcases List.mem_or_eq_of_mem_set z with z | z
        · exact h5 q (List.mem_append_right _ z)
        · rw [z]; trivial
  · rw [hz2]
    have h7 := List.pairwise_append.mp h6
    have h8 := List.pairwise_cons.mp (pairwise_out (y := (o, Sl.no)) (fun _ _ => apart.symm) (fun q => apart_no q) hz h7.2.1)
    refine List.pairwise_cons.mpr ⟨fun q hq => ?_, List.pairwise_append.mpr ⟨h7.1, h8.2, fun p hp q hq => ?_⟩⟩
    · rcases List.mem_append.mp hq with z | z
      · exact (h7.2.2 q z _ (List.mem_of_getElem? hz)).symm
      · exact h8.1 q z
    · rcases List.mem_or_eq_of_mem_set hq with z | z
      · exact h7.2.2 p hp q z
      · rw [z]; exact (apart_no p).symm
theorem set_same {α : Type} {σ : List α} {i : Nat} {o : α} (ho : σ[i]? = some o) : σ.set i o = σ := by
  obtain ⟨hlt, e⟩ := List.getElem?_eq_some_iff.mp ho
  subst e
  exact List.set_getElem_self hlt
theorem set_set_sl {Γ : List Sl} {i : Nat} {s t : Sl} : (Γ.set i s).set i t = Γ.set i t := List.set_set ..
theorem HasE.shareAt {K : PySem.W.Frag} {B : Hp × Hp} {H : Hp} {ρ : List Slot} {σ : L2.St} {Γ : List Sl} {i : Nat} {α : Type} [Enc α] {xs : List α} (h : HasE K B H ρ σ Γ) (g : Γ[i]? = some (.own xs)) : HasE K B H ρ σ (Γ.set i (.is xs)) := by
  obtain ⟨o, ho, _⟩ := zip_get h.len g
  have h2 := HasE.set i (h.takeOut g ho).share
  rw [set_same ho, set_set_sl] at h2
  exact h2
theorem sx_share {α : Type} [Enc α] {xs : List α} (i : Nat) (g : Γ[i]? = some (.own xs)) (h : SX X L (Γ.set i (.is xs)) k m) : SX X L Γ k m := ⟨fun B ρ σ H D hb h' l => h.run B ρ σ H D hb (h'.shareAt g) l⟩
def bors : Sl → Bool
  | @Sl.bor _ _ _ => true
  | _ => false
theorem no_lends {ρ : List Slot} {σ : L2.St} {Γ : List Sl} {a : Addr} (hb : ∀ p ∈ ρ, noBor p) (hg : Γ.any bors = false) : ∀ p ∈ ρ ++ σ.zip Γ, ¬ lends p a := fun p hp l => by
  rcases List.mem_append.mp hp with z | z
  · have := hb p z
    obtain ⟨o, s⟩ := p
    cases s with
    | bor x => exact this
    | no => exact l
    | is x => exact l
    | own x => exact l
    | arg x => exact l
    | ownA c x => exact l
    | gen fp Φ => exact l
  · obtain ⟨o, s⟩ := p
    have hm : s ∈ Γ := (List.of_mem_zip z).2
    cases s with
    | bor x =>
      have := List.any_eq_false.mp hg _ hm
      exact this rfl
    | no => exact l
    | is x => exact l
    | own x => exact l
    | arg x => exact l
    | ownA c x => exact l
    | gen fp Φ => exact l
theorem bors_set {Γ : List Sl} {i : Nat} (h : Γ.any bors = false) : (Γ.set i .no).any bors = false := by
  rw [List.any_eq_false] at h ⊢
  intro s hs
  rcases List.mem_or_eq_of_mem_set hs with z | z
  · exact h s z
  · rw [z]; exact fun z => nomatch z
/-- xs.append(e), xs one's own -/
theorem sx_app {α : Type} [Enc α] {xs : List α} {x0 : α} {y : Str} {mm : List α → M} (i : Nat) (g : Γ[i]? = some (.own xs)) (he : PX X Γ e (.is x0)) (hz : xs.length < sizeLine) (hr : ∀ x, x = xs ++ [x0] → SX X L (Γ.set i (.own x)) (sts :: k) (mm x)) (hbo : Γ.any bors = false := by rfl)
    (hi : X.N[i]? = some y := by rfl) (hv : Vis X.env.scope y := by first | exact Or.inl rfl | exact Or.inr (Or.inl rfl) | exact Or.inr (Or.inr rfl))
    (hd : (y == ("__debug__" : Str)) = false := by decide) (hcd : (y == ("__classdict__" : Str)) = false := by decide)
    (hbase : attributeBase (.Name y p) "append" X.env (eval (.Name y p) X.env) = eval (.Name y p) X.env := by rfl)
    (hfew : ((backTo cpos (starEach [e] X.env)).all (fun x => !x.1) && (backToKw cpos (keywordEach [] X.env)).all (fun x => x.1.isSome)
      && decide (([e] : List Expr).length + ([] : List Keyword).length + (if ([] : List Keyword).isEmpty then 0 else 1) < 30)) = true := by rfl)
    (hline : (apos.endLine == cpos.line) = true := by rfl) (hs : starEach [e] X.env = (false, eval e X.env) :: starEach [] X.env := by rfl) (hplain : (backTo cpos (starEach [] X.env)).any (·.1) = false := by rfl)
    (hsw : swapsWith (.Call (.Attribute (.Name y p) "append" apos) [e] [] cpos) none pos.line X.env = pure false := by rfl) :
    SX X L Γ ((.Expr (.Call (.Attribute (.Name y p) "append" apos) [e] [] cpos) pos :: sts) :: k) (lt (xs ++ [x0]) mm) :=
  ⟨fun B ρ σ H D hb h l => wC_cons (go1 (ps_expr (pe_bm PySem.F.plainAttrs_list PySem.F.slot_list_append PySem.F.type_list_append mt_append (pe_var hi hv hd hcd) (pa_cons peW pa_nil hs) hbase hfew hline hs hplain) hsw) (by
    obtain ⟨o, ho, hm⟩ := zip_get h.len g
    obtain ⟨zl, Hd, z1, z2, z3, z4, z5, z6⟩ := id h
    obtain ⟨a, vs, g1, g2, g3, g4, g5⟩ := z5 _ (List.mem_append_right _ hm)
    have g1 : o = some (.ref a) := g1
    subst g1
    refine ⟨.ref a, ho, .inl ⟨rfl, vs, SqL.of g4⟩, ?_⟩
    refine he.run B ρ σ H h _ fun v H1 e1 h1 => ?_
    have g4' : H1 a = some (.lst vs) := e1 _ _ g4
    refine ⟨a, vs, v, rfl, rfl, g4', by rw [paired_len g5]; exact hz, ?_⟩
    have h2 := h1.takeOut g ho
    have h3 := HasE.mut (vs := vs) (vs' := vs ++ [v]) (xs' := xs ++ [x0]) h2 (fun q hq lq => by
      rcases List.mem_append.mp hq with z | z
      · rcases List.mem_cons.mp z with z | z
        · rw [z] at lq; exact lq
        · exact no_lends (σ := σ) (Γ := Γ) hb hbo q (List.mem_append_left _ z) lq
      · exact no_lends (σ := σ) (Γ := Γ.set i .no) hb (bors_set hbo) q (List.mem_append_right _ z) lq) (fun Hd' ed ok own => by
        obtain ⟨v', d1, d2⟩ := ok (some v, .is x0) List.mem_cons_self
        have d1 : some v = some v' := d1
        injection d1 with d1
        subst d1
        exact paired_append (own vs g4') (.cons d2 .nil))
    have h4 := HasE.set i h3.pop2
    rw [set_same ho, set_set_sl] at h4
    exact (hr _ rfl).run B ρ σ _ D hb h4 l))⟩
/-- xs[at] = e, xs one's own -/
theorem sx_put {α : Type} [Enc α] {xs : List α} {x0 : α} {j : Int} {n : Nat} {y : Str} {mm : List α → M} (i : Nat) (g : Γ[i]? = some (.own xs)) (he : PX X Γ e (.is x0)) (hj : PX X Γ b (.is j)) (hn : ixN xs.length j = some n) (hr : ∀ x, x = xs.set n x0 → SX X L (Γ.set i (.own x)) (sts :: k) (mm x)) (hbo : Γ.any bors = false := by rfl)
    (hi : X.N[i]? = some y := by rfl) (hv : Vis X.env.scope y := by first | exact Or.inl rfl | exact Or.inr (Or.inl rfl) | exact Or.inr (Or.inr rfl))
    (hd : (y == ("__debug__" : Str)) = false := by decide) (hcd : (y == ("__classdict__" : Str)) = false := by decide)
    (hsub : PG X (.Subscript (.Name y p) b p2) (gSub (tVar i) (wE X b) rSetL) := by exact pg_sub (pe_var rfl (by first | exact Or.inl rfl | exact Or.inr (Or.inl rfl) | exact Or.inr (Or.inr rfl)) (by decide) (by decide)) peW set_list) (hs : swapsWithSole [.Subscript (.Name y p) b p2] e pos.line X.env = pure false := by rfl) (hw : swappedStores [.Subscript (.Name y p) b p2] e X.env = pure none := by rfl)
    (h1 : (assignEach [.Subscript (.Name y p) b p2] X.env).map (·.2) = [assign (.Subscript (.Name y p) b p2) X.env] := by rfl) :
    SX X L Γ ((.Assign [.Subscript (.Name y p) b p2] e pos :: sts) :: k) (lt (xs.set n x0) mm) :=
  ⟨fun B ρ σ H D hb h l => wC_cons (go1 (ps_asg peW hsub hs hw h1) (by
    refine he.run B ρ σ H h _ fun v H1 e1 h1 => ?_
    obtain ⟨o, ho, hm⟩ := zip_get h1.len g
    obtain ⟨zl, Hd, z1, z2, z3, z4, z5, z6⟩ := id h1
    obtain ⟨a, vs, g1, g2, g3, g4, g5⟩ := z5 _ (List.mem_append_right _ hm)
    have g1 : o = some (.ref a) := g1
    subst g1
    refine ⟨.ref a, ho, ?_⟩
    refine hj.run B _ σ H1 h1 _ fun w H2 e2 h2 => ?_
    have ew := h2.topSc
    injection ew with ew
    subst ew
    have g4' : H2 a = some (.lst vs) := e2 _ _ g4
    refine ⟨a, vs, j, n, rfl, rfl, g4', by rw [paired_len g5]; exact hn, ?_⟩
    have h3 := (h2.pop).takeOut g ho
    have h4 := HasE.mut (vs := vs) (vs' := vs.set n v) (xs' := xs.set n x0) h3 (fun q hq lq => by
      rcases List.mem_append.mp hq with z | z
      · rcases List.mem_cons.mp z with z | z
        · rw [z] at lq; exact lq
        · exact no_lends (σ := σ) (Γ := Γ) hb hbo q (List.mem_append_left _ z) lq
      · exact no_lends (σ := σ) (Γ := Γ.set i .no) hb (bors_set hbo) q (List.mem_append_right _ z) lq) (fun Hd' ed ok own => by
        obtain ⟨v', d1, d2⟩ := ok (some v, .is x0) List.mem_cons_self
        have d1 : some v = some v' := d1
        injection d1 with d1
        subst d1
        exact paired_set d2 n (own vs g4'))
    have h5 := HasE.set i h4.pop2
    rw [set_same ho, set_set_sl] at h5
    exact (hr _ rfl).run B ρ σ _ D hb h5 l))⟩

/-! ### if, return -/
theorem sx_if {x : Bool} {A B' : List Stmt} {m1 m2 : M} (hc : TX X Γ c x) (h1 : x = true → SX X L Γ (A :: sts :: k) m1) (h2 : x = false → SX X L Γ (B' :: sts :: k) m2) : SX X L Γ ((.If c A B' pos :: sts) :: k) (if x = true then m1 else m2) :=
  ⟨fun B ρ σ H D hb h l => wC_cons (go1 (ps_if ptW pssW pssW) (hc.run B ρ σ H h _ fun H1 e1 h' => by
    cases x with
    | true =>
      rw [if_pos rfl] at l
      rw [if_pos rfl]
      exact (h1 rfl).run B ρ σ H1 D hb h' l
    | false =>
      rw [if_neg Bool.false_ne_true] at l
      rw [if_neg Bool.false_ne_true]
      exact (h2 rfl).run B ρ σ H1 D hb h' l))⟩
/-- an if whose ways come together: s1, s2 what the changed names hold -/
theorem sx_ifj {S : Type} {x : Bool} {A B' : List Stmt} {s1 s2 : S} {mm : S → M} (Γf : S → List Sl) (hc : TX X Γ c x) (h1 : x = true → SX X (LNx X.K Γf) Γ [A] s1) (h2 : x = false → SX X (LNx X.K Γf) Γ [B'] s2) (hr : ∀ s, s = (if x = true then s1 else s2) → SX X L (Γf s) (sts :: k) (mm s)) :
    SX X L Γ ((.If c A B' pos :: sts) :: k) (lt (if x = true then s1 else s2) mm) :=
  ⟨fun B ρ σ H D hb h l => wC_cons (go1 (ps_if ptW pssW pssW) (hc.run B ρ σ H h _ fun H1 e1 h' => by
    have r := hr _ rfl
    unfold lt at l
    cases x with
    | true =>
      rw [if_pos rfl] at l r
      rw [if_pos rfl]
      exact (h1 rfl).run B ρ σ H1 { D with nx := fun σ' H' => wC X (sts :: k) D σ' H' } hb h' fun σ' H' h2 => r.run B ρ σ' H' D hb h2 l
    | false =>
      rw [if_neg Bool.false_ne_true] at l r
      rw [if_neg Bool.false_ne_true]
      exact (h2 rfl).run B ρ σ H1 { D with nx := fun σ' H' => wC X (sts :: k) D σ' H' } hb h' fun σ' H' h3 => r.run B ρ σ' H' D hb h3 l))⟩
theorem sx_endN {S : Type} {Γf : S → List Sl} {s : S} (w : Wk Γ (Γf s)) : SX X (LNx X.K Γf) Γ [] s := ⟨fun B ρ σ H D hb h l => l σ H (h.weak w)⟩
theorem sx_endO {S R : Type} {Γf : S → List Sl} {res : R → Sl} {s : S} (w : Wk Γ (Γf s)) : SX X (LOut X.K Γf res) Γ [] (.go s) := ⟨fun B ρ σ H D hb h l => l.1 σ H (h.weak w)⟩
theorem sx_cont {S R : Type} {Γf : S → List Sl} {res : R → Sl} {s : S} (w : Wk Γ (Γf s)) : SX X (LOut X.K Γf res) Γ ((.Continue pos :: sts) :: k) (.go s) := ⟨fun B ρ σ H D hb h l => wC_cons (go1 ps_continue (l.2 σ H (h.weak w)))⟩
theorem sx_brk {S R : Type} {Γf : S → List Sl} {res : R → Sl} {s : S} (w : Wk Γ (Γf s)) : SX X (LOut X.K Γf res) Γ ((.Break pos :: sts) :: k) (.brk s) := ⟨fun B ρ σ H D hb h l => wC_cons (go1 ps_break (l σ H (h.weak w)))⟩
theorem HasE.ret {K : PySem.W.Frag} {B : Hp × Hp} {H : Hp} {ρ : List Slot} {σ : L2.St} {Γ : List Sl} {v : V} {s : Sl} (h : HasE K B H ((some v, s) :: ρ) σ Γ) (hs : Retable s) : RetE K B H v s := by
  obtain ⟨l, Hd, h1, h2, h3, h4, h5, h6⟩ := h
  exact ⟨Hd, h1, h2, h3, h4, h5 _ List.mem_cons_self, hs⟩
theorem sx_retI {α : Type} [Enc α] {R : Type} {res : R → Sl} {mr : R → M} {x : α} {r : R} (hL : Rets X.K L res mr) (hres : res r = .is x) (he : PX X Γ e (.is x)) : SX X L Γ ((.Return (some e) pos :: sts) :: k) (mr r) :=
  ⟨fun B ρ σ H D hb h l => wC_cons (go1 (ps_ret peW) (he.run B ρ σ H h _ fun v H1 e1 h1 => hL B r D ρ l v H1 (by rw [hres]; exact h1.ret trivial)))⟩
theorem sx_retO {α : Type} [Enc α] {R : Type} {res : R → Sl} {mr : R → M} {x : List α} {r : R} (hL : Rets X.K L res mr) (hres : res r = .own x) (he : PX X Γ e (.own x)) : SX X L Γ ((.Return (some e) pos :: sts) :: k) (mr r) :=
  ⟨fun B ρ σ H D hb h l => wC_cons (go1 (ps_ret peW) (he.run B ρ σ H h _ fun v H1 e1 h1 => hL B r D ρ l v H1 (by rw [hres]; exact h1.ret trivial)))⟩
/-- one's own list is handed out -/
theorem sx_retV {α : Type} [Enc α] {R : Type} {res : R → Sl} {mr : R → M} {x : List α} {r : R} {y : Str} (i : Nat) (g : Γ[i]? = some (.own x)) (hL : Rets X.K L res mr) (hres : res r = .own x) (hN : X.N[i]? = some y := by rfl) (hv : Vis X.env.scope y := by first | exact Or.inl rfl | exact Or.inr (Or.inl rfl) | exact Or.inr (Or.inr rfl))
    (hd : (y == ("__debug__" : Str)) = false := by decide) (hcd : (y == ("__classdict__" : Str)) = false := by decide) : SX X L Γ ((.Return (some (.Name y p)) pos :: sts) :: k) (mr r) :=
  ⟨fun B ρ σ H D hb h l => wC_cons (go1 (ps_ret (pe_var hN hv hd hcd)) (by
    obtain ⟨o, ho, hm⟩ := zip_get h.len g
    have h2 := h.takeOut g ho
    obtain ⟨a, vs, g1, _⟩ := h2.ex.choose_spec.2.2.2.2.1 _ List.mem_cons_self
    have g1 : o = some (.ref a) := g1
    subst g1
    exact ⟨.ref a, ho, hL B r D ρ l _ H (by rw [hres]; exact h2.ret trivial)⟩))⟩
theorem retS_gen {α : Type} [Enc α] {x : List α} {v : V} {K : PySem.W.Frag} {B : Hp × Hp} {H : Hp} (h : RetE K B H v (.own x)) : True := trivial

/-! ### for -/
theorem forO_inv {S R α : Type} {step : S → α → Out S R} {xs : List α} {I : Nat → S → Prop} (hI : ∀ i s x s', xs[i]? = some x → I i s → step s x = .go s' → I (i + 1) s') : ∀ (n : Nat) (s s' : S), n ≤ xs.length → I (xs.length - n) s → forO step s (xs.drop (xs.length - n)) = .go s' → I xs.length s'
  | 0, s, s', _, h0, e => by
    rw [Nat.sub_zero, List.drop_length] at e
    have e : Out.go s = Out.go s' := e
    injection e with e
    subst e
    simpa using h0
  | n + 1, s, s', hn, h0, e => by
    have hlt : xs.length - (n + 1) < xs.length := by omega
    rw [List.drop_eq_getElem_cons hlt] at e
    have e : (match step s xs[xs.length - (n + 1)] with
      | .go s' => forO step s' (xs.drop (xs.length - (n + 1) + 1))
      | .brk s' => .brk s'
      | .ret r => .ret r) = Out.go s' := e
    cases q : step s xs[xs.length - (n + 1)] with
    | go s2 =>
      rw [q] at e
      have h2 := hI _ _ _ _ (List.getElem?_eq_getElem hlt) h0 q
      have en : xs.length - (n + 1) + 1 = xs.length - n := by omega
      rw [en] at e h2
      exact forO_inv hI n s2 s' (by omega) h2 e
    | brk s2 => rw [q] at e; cases e
    | ret r => rw [q] at e; cases e
theorem sx_for {S R α : Type} [Enc α] {xs : List α} {P : Prop} {body : List Stmt} {mm : S → M} {mr : R → M} (j : Nat) (Γf : S → List Sl) (res : R → Sl) (step : S → α → Out S R) (s0 : S) (I : Nat → S → Prop) (hi : IX X Γ tg iter xs P) (hg : PG X tg (gName j)) (hst : Wk Γ (Γf s0)) (h0 : I 0 s0)
    (hbd : ∀ (i : Nat) (s : S) (x : α), xs[i]? = some x → I i s → SX X (LOut X.K Γf res) ((Γf s).set j (.is x)) [body] (step s x))
    (hI : ∀ (i : Nat) (s : S) (x : α) (s' : S), xs[i]? = some x → I i s → step s x = .go s' → I (i + 1) s')
    (hret : Rets X.K L res mr) (hrest : ∀ s, (forO step s0 xs = .go s ∧ I xs.length s ∨ forO step s0 xs = .brk s) → SX X L (Γf s) (sts :: k) (mm s))
    (hc : X.calm = true := by rfl) (hp : PassesOwn (model X.prog X.w) X.A X.env X.xe := by first | exact PassesOwn.never | exact PassesOwn.leaving) (hs : ∀ x, foldedSetIterable iter X.env x = pure x := by intro _; rfl) : SX X L Γ ((.For tg iter body [] pos :: sts) :: k) (forK step s0 xs mm mr) := by
  refine ⟨fun B ρ σ H D hb h l => wC_cons (go1 (ps_for hp hc piW hg pssW hs) ?_)⟩
  refine hi.run B ρ σ H h _ fun J H1 τ hP e1 hbt h1 hgo hstop => ?_
  have unτ : ∀ {τ : List Slot} {H' : Hp} {σ' : L2.St} {Γ' : List Sl}, HasE X.K B H' (τ ++ ρ) σ' Γ' → HasE X.K B H' ρ σ' Γ' := by
    intro τ
    induction τ with
    | nil => exact fun h => h
    | cons t τ ih => exact fun h => ih h.pop
  have hbρ : ∀ p ∈ τ ++ ρ, noBor p := fun p hp => (List.mem_append.mp hp).elim (hbt p) (hb p)
  refine ⟨fun i mm' σ' H' => mm' = xs.length - i ∧ i ≤ xs.length ∧ ∃ s, I i s ∧ forO step s0 xs = forO step s (xs.drop i) ∧ HasE X.K B H' (τ ++ ρ) σ' (Γf s), ⟨xs.length, by simp, Nat.zero_le _, s0, h0, rfl, h1.weak hst⟩, ?_⟩
  rintro i mm' σ' H' ⟨rfl, hin, s, hIs, hf, hh⟩
  by_cases hlt : i < xs.length
  · have hx : xs[i]? = some xs[i] := List.getElem?_eq_getElem hlt
    obtain ⟨g1, g2⟩ := hgo [] σ' (Γf s) H' i xs[i] hh hx
    rw [List.drop_eq_getElem_cons hlt] at hf
    refine .inr ⟨g1, fun σ2 H2 => ∃ s', I (i + 1) s' ∧ forO step s0 xs = forO step s' (xs.drop (i + 1)) ∧ HasE X.K B H2 (τ ++ ρ) σ2 (Γf s'), fun σ2 H2 ⟨s', a1, a2, a3⟩ => ⟨xs.length - (i + 1), by omega, rfl, hlt, s', a1, a2, a3⟩, fun v H2 y => ?_⟩
    obtain ⟨e3, k3⟩ := g2 v H2 y
    have hf' : forO step s0 xs = (match step s xs[i] with
      | .go s' => forO step s' (xs.drop (i + 1))
      | .brk s' => .brk s'
      | .ret r => .ret r) := hf
    refine (hbd i s xs[i] hx hIs).run B (τ ++ ρ) _ H2 { D with nx := fun σ2 H2 => ∃ s', I (i + 1) s' ∧ forO step s0 xs = forO step s' (xs.drop (i + 1)) ∧ HasE X.K B H2 (τ ++ ρ) σ2 (Γf s'), ct := fun σ2 H2 => ∃ s', I (i + 1) s' ∧ forO step s0 xs = forO step s' (xs.drop (i + 1)) ∧ HasE X.K B H2 (τ ++ ρ) σ2 (Γf s'), bk := fun σ' H' => wC X (sts :: k) D σ' H' } hbρ (HasE.set j k3) ?_
    cases q : step s xs[i] with
    | go s' =>
      rw [q] at hf'
      have hI' := hI i s xs[i] s' hx hIs q
      exact ⟨fun σ3 H3 h3 => ⟨s', hI', hf', h3⟩, fun σ3 H3 h3 => ⟨s', hI', hf', h3⟩⟩
    | brk s' =>
      rw [q] at hf'
      intro σ3 H3 h3
      refine (hrest s' (.inr hf')).run B ρ σ3 H3 D hb (unτ h3) ?_
      unfold forK at l
      rw [hf'] at l
      exact l
    | ret r =>
      rw [q] at hf'
      intro v3 H3 h3
      unfold forK at l
      rw [hf'] at l
      exact hret B r D ρ l v3 H3 h3
  · have e : i = xs.length := by omega
    subst e
    rw [List.drop_length] at hf
    have hf' : forO step s0 xs = .go s := hf
    refine .inl ⟨hstop [] σ' (Γf s) H' hh, (hrest s (.inl ⟨hf', hIs⟩)).run B ρ σ' H' D hb (unτ hh) ?_⟩
    unfold forK at l
    rw [hf'] at l
    exact l
theorem forO_fold {S R α : Type} (step : S → α → S) : ∀ (s : S) (xs : List α), forO (R := R) (fun s x => .go (step s x)) s xs = .go (xs.foldl step s)
  | _, [] => rfl
  | s, x :: xs => forO_fold step (step s x) xs
/-- a for that runs through -/
theorem sx_forF {S α : Type} [Enc α] {xs : List α} {P : Prop} {body : List Stmt} {mm : S → M} (j : Nat) (Γf : S → List Sl) (step : S → α → S) (s0 : S) (I : Nat → S → Prop) (hi : IX X Γ tg iter xs P) (hg : PG X tg (gName j)) (hst : Wk Γ (Γf s0)) (h0 : I 0 s0)
    (hbd : ∀ (i : Nat) (s : S) (x : α), xs[i]? = some x → I i s → SX X (LNx X.K Γf) ((Γf s).set j (.is x)) [body] (step s x))
    (hI : ∀ (i : Nat) (s : S) (x : α), xs[i]? = some x → I i s → I (i + 1) (step s x))
    (hrest : ∀ s, s = xs.foldl step s0 → I xs.length s → SX X L (Γf s) (sts :: k) (mm s))
    (hc : X.calm = true := by rfl) (hp : PassesOwn (model X.prog X.w) X.A X.env X.xe := by first | exact PassesOwn.never | exact PassesOwn.leaving) (hs : ∀ x, foldedSetIterable iter X.env x = pure x := by intro _; rfl) : SX X L Γ ((.For tg iter body [] pos :: sts) :: k) (lt (xs.foldl step s0) mm) := by
  refine ⟨fun B ρ σ H D hb h' l => wC_cons (go1 (ps_for hp hc piW hg pssW hs) ?_)⟩
  refine hi.run B ρ σ H h' _ fun J H1 τ hP e1 hbt h1 hgo hstop => ?_
  have unτ : ∀ {τ : List Slot} {H' : Hp} {σ' : L2.St} {Γ' : List Sl}, HasE X.K B H' (τ ++ ρ) σ' Γ' → HasE X.K B H' ρ σ' Γ' := by
    intro τ
    induction τ with
    | nil => exact fun h => h
    | cons t τ ih => exact fun h => ih h.pop
  have hbρ : ∀ p ∈ τ ++ ρ, noBor p := fun p hp => (List.mem_append.mp hp).elim (hbt p) (hb p)
  refine ⟨fun i mm' σ' H' => mm' = xs.length - i ∧ i ≤ xs.length ∧ I i ((xs.take i).foldl step s0) ∧ HasE X.K B H' (τ ++ ρ) σ' (Γf ((xs.take i).foldl step s0)), ⟨xs.length, by simp, Nat.zero_le _, h0, h1.weak hst⟩, ?_⟩
  rintro i mm' σ' H' ⟨rfl, hin, hIs, hh⟩
  by_cases hlt : i < xs.length
  · have hx : xs[i]? = some xs[i] := List.getElem?_eq_getElem hlt
    obtain ⟨g1, g2⟩ := hgo [] σ' _ H' i xs[i] hh hx
    have tk : (xs.take (i + 1)).foldl step s0 = step ((xs.take i).foldl step s0) xs[i] := by
      rw [List.take_succ, hx, List.foldl_append]
      rfl
    refine .inr ⟨g1, fun σ2 H2 => I (i + 1) ((xs.take (i + 1)).foldl step s0) ∧ HasE X.K B H2 (τ ++ ρ) σ2 (Γf ((xs.take (i + 1)).foldl step s0)), fun σ2 H2 ⟨a1, a2⟩ => ⟨xs.length - (i + 1), by omega, rfl, hlt, a1, a2⟩, fun v H2 y => ?_⟩
    obtain ⟨e3, k3⟩ := g2 v H2 y
    refine (hbd i _ xs[i] hx hIs).run B (τ ++ ρ) _ H2 { D with nx := fun σ2 H2 => I (i + 1) ((xs.take (i + 1)).foldl step s0) ∧ HasE X.K B H2 (τ ++ ρ) σ2 (Γf ((xs.take (i + 1)).foldl step s0)), ct := fun σ2 H2 => I (i + 1) ((xs.take (i + 1)).foldl step s0) ∧ HasE X.K B H2 (τ ++ ρ) σ2 (Γf ((xs.take (i + 1)).foldl step s0)), bk := fun σ' H' => wC X (sts :: k) D σ' H' } hbρ (HasE.set j k3) fun σ3 H3 h3 => ?_
    rw [tk]
    exact ⟨hI i _ xs[i] hx hIs, h3⟩
  · have e : i = xs.length := by omega
    subst e
    rw [List.take_length] at hIs hh
    exact .inl ⟨hstop [] σ' _ H' hh, (hrest _ rfl hIs).run B ρ σ' H' D hb (unτ hh) l⟩

/-! ### a def -/
theorem spD_len {ι : Type} {K : PySem.W.Frag} {pre : ι → Prop} {args : ι → List Sl} {res : ι → Sl} {n : Nat} (hn : ∀ i, (args i).length = n) : ∀ vs H Q E, spD K pre args res vs H Q E → vs.length = n := fun vs H Q E ⟨_, i, _, _, l, _⟩ => l.trans (hn i)
theorem zip_append {α : Type} {β : Type 1} : ∀ {a b : List α} {c d : List β}, a.length = c.length → (a ++ b).zip (c ++ d) = a.zip c ++ b.zip d
  | [], _, [], _, _ => rfl
  | [], _, _ :: _, _, h => by simp at h
  | _ :: _, _, [], _, h => by simp at h
  | x :: a, b, y :: c, d, h => by
    show (x, y) :: (a ++ b).zip (c ++ d) = (x, y) :: (a.zip c ++ b.zip d)
    rw [zip_append (by simpa using h)]
theorem defFn {P : Program} {w : World} {K : PySem.W.Frag} {mg : Str → Option Value} {base : Heap} {ι R : Type} {x qual : Str} {st : Stmt} {f : Addr} {fd : FuncData} {N ps : List Str} {kk : Nat} (F : Fun K x qual st f fd) (S : FnScope N ps (defScope st))
    (pre : ι → Prop) (args : ι → List Sl) (res : R → Sl) (mi : ι → R) (hn : ∀ i, (args i).length = ps.length)
    (body : ∀ (i : ι), pre i → ∀ (cdv : Value) (A : Around) (outer : List Env) (s : Shared) (H : Hp) (E : XK), Room kk (A.deeper (envOfC qual (defScope st) s.heap.objs.size f cdv)) →
      SX (cxOf CX0 P w K mg base N qual (defScope st) f cdv A outer s H E).nox (LRet K res) (args i ++ List.replicate (N.length - ps.length) .no) [defBody st] (mi i)) :
    FnOk P w K mg base CX0 (kk + 1) f fd ps (spD K pre args fun i => res (mi i)) := by
  refine F.ok S (spD_len hn) fun cdv A outer s H vs Q E hr h => ?_
  refine ⟨wS _ (defBody st), pssW, ?_⟩
  obtain ⟨Hd0, i, h1, hp, hl, ha, q⟩ := h
  have hN : vs.length = ps.length := hl.trans (hn i)
  have r := (body i hp cdv A outer s H E hr).run (Hd0, H) [] (L2.start N vs) H { nx := fun _ H' => Q .non H', rt := Q } (fun p hp => nomatch hp) ?_ ?_
  · exact r0 r
  · refine ⟨?_, Hd0, Ex.refl _, h1, Ex.refl _, fun a b _ => b, ?_, ?_⟩
    · unfold L2.start
      simp [hl, hn i, hN]
    · intro p hp
      rw [List.nil_append] at hp
      unfold L2.start at hp
      rw [zip_append (by simp [hl])] at hp
      rcases List.mem_append.mp hp with z | z
      · exact (ha p z).1
      · have := (List.of_mem_zip (show (p.1, p.2) ∈ _ from z)).2
        rw [(List.mem_replicate.mp this).2]
        trivial
    · rw [List.nil_append]
      unfold L2.start
      rw [zip_append (by simp [hl])]
      refine List.pairwise_append.mpr ⟨?_, ?_, fun p hp q' _ => (ha p hp).2 q'⟩
      · exact pw_all fun p hp q' => (ha p hp).2 q'
      · refine pw_all fun p hp q' => ?_
        have := (List.of_mem_zip (show (p.1, p.2) ∈ _ from hp)).2
        obtain ⟨o, s'⟩ := p
        have e : s' = .no := (List.mem_replicate.mp this).2
        subst e
        exact apart_no q'
  · intro v H' hv
    obtain ⟨Hd, a1, a2, a3, a4, a5⟩ := hv
    exact q v H' Hd a1 a2 a3 a4 a5
where
  pw_all {l : List Slot} (h : ∀ p ∈ l, ∀ q, apart p q) : l.Pairwise apart := by
    induction l with
    | nil => exact .nil
    | cons p l ih => exact List.pairwise_cons.mpr ⟨fun q _ => h p List.mem_cons_self q, ih fun r hr => h r (List.mem_cons_of_mem _ hr)⟩
  r0 {X : Cx} {b : List Stmt} {D : Ends} {σ : L2.St} {H : Hp} (h : wC X [b] D σ H) : wS X b D σ H := h
theorem defOk {P : Program} {w : World} {K : PySem.W.Frag} {mg : Str → Option Value} {base : Heap} {ι R : Type} {x qual : Str} {st : Stmt} {f : Addr} {fd : FuncData} {N ps : List Str} {kk : Nat} (F : Fun K x qual st f fd) (hm : mg x = some (.ref f)) (S : FnScope N ps (defScope st)) (bd : Binds K fd ps [])
    (pre : ι → Prop) (args : ι → List Sl) (res : R → Sl) (mi : ι → R) (hn : ∀ i, (args i).length = ps.length)
    (body : ∀ (i : ι), pre i → ∀ (cdv : Value) (A : Around) (outer : List Env) (s : Shared) (H : Hp) (E : XK), Room kk (A.deeper (envOfC qual (defScope st) s.heap.objs.size f cdv)) →
      SX (cxOf CX0 P w K mg base N qual (defScope st) f cdv A outer s H E).nox (LRet K res) (args i ++ List.replicate (N.length - ps.length) .no) [defBody st] (mi i)) :
    DefOk P w K mg base (kk + 1) x ps.length (spD K pre args fun i => res (mi i)) :=
  ⟨f, fd, ps, defFn F S pre args res mi hn body, hm, F.kp, bd, rfl⟩
end
end DX
namespace DX
open PySem PySem.Spec PyProof.Rows L2

/-! ### more of it: the script, repeats, in, list(range), [::-1] -/
/-- the law's own argument -/
structure Scr where
  l : List Int
instance encScr : Enc Scr where
  rep := fun K H v x => ∃ a, v = .ref a ∧ SqL K H a (x.l.map V.int)
  mono := fun e ⟨a, h1, h2⟩ => ⟨a, h1, Evl.ex_l e h2⟩
section
variable {X : Cx} {Γ : List Sl} {e a b c : Expr} {es : List Expr} {s : Sl} {pos p p1 p2 p3 : Pos}
theorem topScr {B : Hp × Hp} {H : Hp} {ρ : List Slot} {σ : L2.St} {x : Scr} {o : Option V} (h : HasE X.K B H ((o, .is x) :: ρ) σ Γ) : ∃ a, o = some (.ref a) ∧ SqL X.K H a (x.l.map V.int) := by
  obtain ⟨_, Hd, _, h2, _, _, h5, _⟩ := h
  obtain ⟨w, e1, a', e2, e3⟩ := h5 (o, .is x) List.mem_cons_self
  have e1 : o = some w := e1
  exact ⟨a', by rw [e1, e2], Evl.ex_l h2 e3⟩
theorem px_lenScr {x : Scr} (hm : X.mg "len" = none) (ha : PX X Γ a (.is x)) (hg : Gl X "len" := by rfl) (he : starEach [a] X.env = (false, eval a X.env) :: starEach [] X.env := by rfl) :
    PX X Γ (.Call (.Name "len" p) [a] [] pos) (.is (x.l.length : Int)) :=
  px_B _ call_len_seq hm PySem.boot_len (ax_cons ha ax_nil he) (fun B ρ σ H vs Q l h q => by
    obtain ⟨v, rfl⟩ := one_of l
    obtain ⟨a', e1, e2⟩ := topScr h
    injection e1 with e1
    subst e1
    exact ⟨a', _, rfl, .inl e2, by rw [List.length_map]; exact q⟩) hg (by decide) (by decide) he rfl
theorem px_ixScr {x : Scr} {i : Int} (ha : PX X Γ a (.is x)) (hb : PX X Γ b (.is i)) (hi : -(x.l.length : Int) ≤ i ∧ i < x.l.length) (hs : PlainIx b := by exact fun _ _ => rfl) : PX X Γ (.Subscript a b pos) (.is (ix x.l i)) :=
  ⟨fun B ρ σ H h Q q => goE (pe_ix ix_list peW peW hs) (ha.run B ρ σ H h _ fun v H1 e1 h1 => hb.run B _ σ H1 h1 _ fun w H2 e2 h2 => by
    have ew := h2.topSc
    injection ew with ew
    subst ew
    obtain ⟨a', g1, g2⟩ := topScr h2.pop
    injection g1 with g1
    subst g1
    have k1 : atI (x.l.map V.int) i = some (.int (ix x.l i)) := by
      have k := ix_ok hi
      unfold atI at k ⊢
      rw [List.length_map]
      cases q : ixN x.l.length i with
      | none => rw [q] at k; cases k
      | some j =>
        rw [q] at k
        have k : x.l[j]? = some (ix x.l i) := k
        show (x.l.map V.int)[j]? = _
        rw [List.getElem?_map, k]
        rfl
    exact ⟨a', _, i, _, rfl, rfl, g2, k1, q _ H2 (e1.trans e2) (h2.pop.pop.pushSc (ix x.l i))⟩)⟩
def repL {α : Type} (xs : List α) (k : Int) : List α := (List.replicate k.toNat xs).flatten
def repT (x : List Nat) (k : Int) : List Nat := (List.replicate k.toNat x).flatten
theorem paired_rep {α β : Type} {F : α → β → Prop} {l : List α} {m : List β} (h : Paired F l m) : ∀ k : Nat, Paired F (List.replicate k l).flatten (List.replicate k m).flatten
  | 0 => .nil
  | k + 1 => by
    rw [List.replicate_succ, List.replicate_succ, List.flatten_cons, List.flatten_cons]
    exact paired_append h (paired_rep h k)
theorem px_rep {α : Type} [Enc α] {xs : List α} {k : Int} {s : Sl} (lk : Lk s xs) (ha : PX X Γ a s) (hb : PX X Γ b (.is k)) (hk : -(2 ^ 63) ≤ k ∧ k < 2 ^ 63 ∧ xs.length * k.toNat ≤ sizeLine) : PX X Γ (.BinOp a .Mult b pos) (.own (repL xs k)) :=
  ⟨fun B ρ σ H h Q q => goE (pe_op op_rep peW peW) (ha.run B ρ σ H h _ fun v H1 e1 h1 => hb.run B _ σ H1 h1 _ fun w H2 e2 h2 => by
    have ew := h2.topSc
    injection ew with ew
    subst ew
    have h3 := h2.pop
    obtain ⟨l, Hd, z1, z2, z3, z4, z5, z6⟩ := id h3
    obtain ⟨a', vs, g1, g2, g3⟩ := lk.ok z2 (z5 (some v, s) List.mem_cons_self)
    injection g1 with g1
    subst g1
    refine ⟨a', k, vs, rfl, rfl, g2, hk.1, hk.2.1, by rw [paired_len g3]; exact hk.2.2, fun p hp => q _ _ ((e1.trans e2).trans (Ex.new hp)) ?_⟩
    refine (HasE.newOwn (xs := repL xs k) h3 hp fun Hd' ed ok => ?_).pop2
    obtain ⟨a2, vs2, n1, n2, n3⟩ := lk.ok ed (ok (some (V.ref a'), s) List.mem_cons_self)
    injection n1 with n1
    injection n1 with n1
    subst n1
    rw [g2] at n2
    injection n2 with n2
    injection n2 with n2
    subst n2
    exact paired_rep n3 k.toNat)⟩
theorem foldl_cps (x : Array Nat) : ∀ (k : Nat) (acc : Array Nat), ((List.replicate k x).foldl (· ++ ·) acc).toList = acc.toList ++ (List.replicate k x.toList).flatten
  | 0, acc => by simp
  | k + 1, acc => by
    rw [List.replicate_succ, List.foldl_cons, foldl_cps x k, Array.toList_append, List.replicate_succ, List.flatten_cons, List.append_assoc]
theorem op_mulS : OpR X (binaryOp .Mult) (fun x y H Q => ∃ z k, x = .str z ∧ y = .int k ∧ -(2 ^ 63) ≤ k ∧ k < 2 ^ 62 ∧ z.length ≤ 100000 ∧ k ≤ 10000 ∧ z.length * k.toNat ≤ 1000000 ∧ Q (.str ⟨(List.replicate k.toNat z.cps.toList).flatten.toArray⟩) H) := by
  intro pins s σ H x y v u Q I rx ry h
  obtain ⟨z, k, rfl, rfl, h1, h2, h3, h4, h5, q⟩ := h
  obtain ⟨t, rfl⟩ := rx
  obtain ⟨t', rfl⟩ := ry
  have hr : (decide (k < -(2 ^ 63 : Int)) || decide (k ≥ 2 ^ 63)) = false := by
    rw [decide_eq_false (by omega), decide_eq_false (by omega)]
    rfl
  refine PySem.P.mul_str hr (fun n1 _ => ?_) (fun n1 _ => ?_) ?_
  · have hk : (0 : Int) < k := by omega
    have : (10000 : Int) ≤ (2 ^ 63 - 1) / k / 90000000000000 + 10000 := by
      have : (0 : Int) ≤ (2 ^ 63 - 1) / k / 90000000000000 := Int.ediv_nonneg (Int.ediv_nonneg (by decide) (by omega)) (by decide)
      omega
    have h6 : (100000 : Int) ≤ (2 ^ 63 - 1) / k := by
      rw [Int.le_ediv_iff_mul_le hk]
      omega
    omega
  · unfold Builtin.Str.tooLong
    have := h5
    first
      | (rw [decide_eq_false]; rw [sizeLine_eq]; omega)
      | (simp only [decide_eq_false_iff_not]; rw [sizeLine_eq]; omega)
      | skip
  · by_cases c1 : k < 1
    · rw [if_pos c1]
      have e0 : k.toNat = 0 := by omega
      rw [e0] at q
      exact ⟨by decide, ⟨.str ⟨#[]⟩, H, I.tok _, ⟨_, rfl⟩, q⟩⟩
    · rw [if_neg c1]
      by_cases c2 : (k == 1 || z.length == 0) = true
      · rw [if_pos c2]
        refine ⟨.str z, H, I, ⟨_, rfl⟩, ?_⟩
        have e : (⟨(List.replicate k.toNat z.cps.toList).flatten.toArray⟩ : Str) = z := by
          rcases Bool.or_eq_true_iff.mp c2 with c | c
          · have : k = 1 := by simpa using c
            subst this
            cases z
            simp [List.replicate]
          · have hz : z.length = 0 := by simpa using c
            obtain ⟨⟨l⟩⟩ := z
            have : l = [] := by
              cases l with
              | nil => rfl
              | cons x r => simp [Str.length] at hz
            subst this
            simp
        rw [e] at q
        exact q
      · rw [if_neg c2]
        refine ⟨?_, ⟨.str ⟨(List.replicate k.toNat z.cps).foldl (· ++ ·) #[]⟩, H, I.tok _, ⟨_, rfl⟩, ?_⟩⟩
        · have e : (⟨(List.replicate k.toNat z.cps).foldl (· ++ ·) #[]⟩ : Str).length = z.length * k.toNat := by
            show ((List.replicate k.toNat z.cps).foldl (· ++ ·) #[]).size = z.cps.size * k.toNat
            rw [← Array.length_toList, foldl_cps]
            simp [Nat.mul_comm]
          first
            | (rw [e]; rw [sizeLine_eq]; omega)
            | (show _ = false; rw [e]; unfold Builtin.Str.tooLong; rw [decide_eq_false]; rw [sizeLine_eq]; omega)
            | skip
        · have e : (⟨(List.replicate k.toNat z.cps).foldl (· ++ ·) #[]⟩ : Str) = ⟨(List.replicate k.toNat z.cps.toList).flatten.toArray⟩ := by
            congr 1
            apply Array.ext'
            rw [foldl_cps]
            simp
          rw [e]
          exact q
theorem px_mulS {x : List Nat} {k : Int} (ha : PX X Γ a (.is x)) (hb : PX X Γ b (.is k)) (hk : -(2 ^ 63) ≤ k ∧ k < 2 ^ 62 ∧ x.length ≤ 100000 ∧ k ≤ 10000 ∧ x.length * k.toNat ≤ 1000000) : PX X Γ (.BinOp a .Mult b pos) (.is (repT x k)) :=
  ⟨fun B ρ σ H h Q q => goE (pe_op op_mulS peW peW) (ha.run B ρ σ H h _ fun v H1 e1 h1 => hb.run B _ σ H1 h1 _ fun w H2 e2 h2 => by
    have ew := h2.topSc
    have ev := topTx h2.swap
    injection ew with ew
    injection ev with ev
    subst ew ev
    exact ⟨mkS x, k, rfl, rfl, hk.1, hk.2.1, by rw [mkS_length]; exact hk.2.2.1, hk.2.2.2.1, by rw [mkS_length]; exact hk.2.2.2.2, q _ H2 (e1.trans e2) (pushTx _ h2.pop.pop)⟩)⟩
/-- x in xs, of ints, of texts -/
theorem paired_int : ∀ {vs : List V} {xs : List Int} {K : PySem.W.Frag} {Hd : Hp}, Paired (Enc.rep K Hd) vs xs → vs = xs.map V.int
  | _, _, _, _, .nil => rfl
  | _, _, _, _, .cons r t => by
    rw [paired_int t]
    have r : _ = V.int _ := r
    rw [r]
    rfl
theorem inV_int (x : Int) : ∀ xs : List Int, inV (.int x) (xs.map V.int) = decide (x ∈ xs)
  | [] => rfl
  | y :: r => by
    have ih := inV_int x r
    unfold inV at ih ⊢
    rw [List.map_cons, List.any_cons, ih]
    show (y == x || decide (x ∈ r)) = decide (x ∈ y :: r)
    by_cases h : y = x
    · subst h; simp
    · have h' : ¬ x = y := fun z => h z.symm
      simp [h, h']
theorem inV_str (x : List Nat) : ∀ xs : List (List Nat), inV (.str (mkS x)) ((xs.map mkS).map V.str) = decide (x ∈ xs)
  | [] => rfl
  | y :: r => by
    have ih := inV_str x r
    unfold inV at ih ⊢
    rw [List.map_cons, List.map_cons, List.any_cons, ih]
    show (mkS y == mkS x || decide (x ∈ r)) = decide (x ∈ y :: r)
    by_cases h : y = x
    · subst h; simp
    · have h' : ¬ x = y := fun z => h z.symm
      have h2 : ¬ mkS y = mkS x := fun z => h (mkS_inj z)
      simp [h', h2]
theorem flat_int (xs : List Int) : (xs.map V.int).all flatV = true := by
  rw [List.all_eq_true]
  intro v hv
  obtain ⟨i, _, rfl⟩ := List.mem_map.mp hv
  rfl
theorem flat_str (xs : List Str) : (xs.map V.str).all flatV = true := by
  rw [List.all_eq_true]
  intro v hv
  obtain ⟨i, _, rfl⟩ := List.mem_map.mp hv
  rfl
theorem in_run {α : Type} [Enc α] {op : CmpOp} {neg : Bool} {x : α} {xs : List α} {s : Sl} (ho : OpR X (compareOp op) (rIn X.K neg)) (lk : Lk s xs) (ha : PX X Γ a (.is x)) (hb : PX X Γ b s) (z : Bool)
    (hx : ∀ Hd v, Enc.rep X.K Hd v x → flatV v = true ∧ ∀ vs, Paired (Enc.rep X.K Hd) vs xs → vs.all flatV = true ∧ (if neg then !inV v vs else inV v vs) = z) :
    ∀ B ρ σ H, HasE X.K B H ρ σ Γ → ∀ Q : VK, (∀ H', Ex H H' → HasE X.K B H' ρ σ Γ → Q (.bl z) H') → tOp (rIn X.K neg) (wE X a) (wE X b) σ H Q := fun B ρ σ H h Q q => ha.run B ρ σ H h _ fun v H1 e1 h1 => hb.run B _ σ H1 h1 _ fun w H2 e2 h2 => by
  obtain ⟨l, Hd, z1, z2, z3, z4, z5, z6⟩ := id h2
  obtain ⟨a', vs, g1, g2, g3⟩ := lk.ok z2 (z5 (some w, s) List.mem_cons_self)
  obtain ⟨v', k1, k2⟩ := z5 (some v, .is x) (List.mem_cons_of_mem _ List.mem_cons_self)
  injection g1 with g1
  have k1 : some v = some v' := k1
  injection k1 with k1
  subst g1 k1
  obtain ⟨f1, f2⟩ := hx Hd v k2
  obtain ⟨f3, f4⟩ := f2 vs g3
  refine ⟨a', vs, rfl, .inl (SqL.of g2), f1, f3, ?_⟩
  rw [f4]
  exact q H2 (e1.trans e2) h2.pop.pop
theorem px_in {x : Int} {xs : List Int} {s : Sl} (lk : Lk s xs) (ha : PX X Γ a (.is x)) (hb : PX X Γ b s) (hm : behindInMarks .In b = false := by rfl) : PX X Γ (.Compare a [.In] [b] pos) (.is (decide (x ∈ xs))) :=
  ⟨fun B ρ σ H h Q q => goE (pe_cmpR op_in_seq peW peW hm) (in_run op_in_seq lk ha hb _ (fun Hd v r => by
    have r : v = V.int x := r
    subst r
    exact ⟨rfl, fun vs p => by rw [paired_int p]; exact ⟨flat_int xs, inV_int x xs⟩⟩) B ρ σ H h Q fun H' e h' => q _ H' e (h'.pushSc (decide (x ∈ xs))))⟩
theorem tx_in {x : Int} {xs : List Int} {s : Sl} (lk : Lk s xs) (ha : PX X Γ a (.is x)) (hb : PX X Γ b s) (hm : behindInMarks .In b = false := by rfl) : TX X Γ (.Compare a [.In] [b] pos) (decide (x ∈ xs)) :=
  ⟨fun B ρ σ H h Q q => goT (pt_cmpR op_in_seq peW peW hm) (in_run op_in_seq lk ha hb _ (fun Hd v r => by
    have r : v = V.int x := r
    subst r
    exact ⟨rfl, fun vs p => by rw [paired_int p]; exact ⟨flat_int xs, inV_int x xs⟩⟩) B ρ σ H h _ fun H' e h' => ⟨_, rfl, q H' e h'⟩)⟩
theorem px_ni {x : Int} {xs : List Int} {s : Sl} (lk : Lk s xs) (ha : PX X Γ a (.is x)) (hb : PX X Γ b s) (hm : behindInMarks .NotIn b = false := by rfl) : PX X Γ (.Compare a [.NotIn] [b] pos) (.is (!decide (x ∈ xs))) :=
  ⟨fun B ρ σ H h Q q => goE (pe_cmpR op_notIn_seq peW peW hm) (in_run op_notIn_seq lk ha hb (!decide (x ∈ xs)) (fun Hd v r => by
    have r : v = V.int x := r
    subst r
    exact ⟨rfl, fun vs p => by rw [paired_int p]; exact ⟨flat_int xs, by rw [inV_int x xs]; rfl⟩⟩) B ρ σ H h Q fun H' e h' => q _ H' e (h'.pushSc (!decide (x ∈ xs))))⟩
theorem tx_ni {x : Int} {xs : List Int} {s : Sl} (lk : Lk s xs) (ha : PX X Γ a (.is x)) (hb : PX X Γ b s) (hm : behindInMarks .NotIn b = false := by rfl) : TX X Γ (.Compare a [.NotIn] [b] pos) (!decide (x ∈ xs)) :=
  ⟨fun B ρ σ H h Q q => goT (pt_cmpR op_notIn_seq peW peW hm) (in_run op_notIn_seq lk ha hb (!decide (x ∈ xs)) (fun Hd v r => by
    have r : v = V.int x := r
    subst r
    exact ⟨rfl, fun vs p => by rw [paired_int p]; exact ⟨flat_int xs, by rw [inV_int x xs]; rfl⟩⟩) B ρ σ H h _ fun H' e h' => ⟨_, rfl, q H' e h'⟩)⟩
theorem px_inS {x : List Nat} {xs : List (List Nat)} {s : Sl} (lk : Lk s xs) (ha : PX X Γ a (.is x)) (hb : PX X Γ b s) (hm : behindInMarks .In b = false := by rfl) : PX X Γ (.Compare a [.In] [b] pos) (.is (decide (x ∈ xs))) :=
  ⟨fun B ρ σ H h Q q => goE (pe_cmpR op_in_seq peW peW hm) (in_run op_in_seq lk ha hb _ (fun Hd v r => by
    have r : v = V.str (mkS x) := r
    subst r
    exact ⟨rfl, fun vs p => by rw [paired_txt p]; exact ⟨flat_str _, inV_str x xs⟩⟩) B ρ σ H h Q fun H' e h' => q _ H' e (h'.pushSc (decide (x ∈ xs))))⟩
theorem tx_inS {x : List Nat} {xs : List (List Nat)} {s : Sl} (lk : Lk s xs) (ha : PX X Γ a (.is x)) (hb : PX X Γ b s) (hm : behindInMarks .In b = false := by rfl) : TX X Γ (.Compare a [.In] [b] pos) (decide (x ∈ xs)) :=
  ⟨fun B ρ σ H h Q q => goT (pt_cmpR op_in_seq peW peW hm) (in_run op_in_seq lk ha hb _ (fun Hd v r => by
    have r : v = V.str (mkS x) := r
    subst r
    exact ⟨rfl, fun vs p => by rw [paired_txt p]; exact ⟨flat_str _, inV_str x xs⟩⟩) B ρ σ H h _ fun H' e h' => ⟨_, rfl, q H' e h'⟩)⟩
theorem px_niS {x : List Nat} {xs : List (List Nat)} {s : Sl} (lk : Lk s xs) (ha : PX X Γ a (.is x)) (hb : PX X Γ b s) (hm : behindInMarks .NotIn b = false := by rfl) : PX X Γ (.Compare a [.NotIn] [b] pos) (.is (!decide (x ∈ xs))) :=
  ⟨fun B ρ σ H h Q q => goE (pe_cmpR op_notIn_seq peW peW hm) (in_run op_notIn_seq lk ha hb (!decide (x ∈ xs)) (fun Hd v r => by
    have r : v = V.str (mkS x) := r
    subst r
    exact ⟨rfl, fun vs p => by rw [paired_txt p]; exact ⟨flat_str _, by rw [inV_str x xs]; rfl⟩⟩) B ρ σ H h Q fun H' e h' => q _ H' e (h'.pushSc (!decide (x ∈ xs))))⟩
theorem tx_niS {x : List Nat} {xs : List (List Nat)} {s : Sl} (lk : Lk s xs) (ha : PX X Γ a (.is x)) (hb : PX X Γ b s) (hm : behindInMarks .NotIn b = false := by rfl) : TX X Γ (.Compare a [.NotIn] [b] pos) (!decide (x ∈ xs)) :=
  ⟨fun B ρ σ H h Q q => goT (pt_cmpR op_notIn_seq peW peW hm) (in_run op_notIn_seq lk ha hb (!decide (x ∈ xs)) (fun Hd v r => by
    have r : v = V.str (mkS x) := r
    subst r
    exact ⟨rfl, fun vs p => by rw [paired_txt p]; exact ⟨flat_str _, by rw [inV_str x xs]; rfl⟩⟩) B ρ σ H h _ fun H' e h' => ⟨_, rfl, q H' e h'⟩)⟩
/-- list(range(..)) -/
theorem paired_rng {K : PySem.W.Frag} {Hd : Hp} (i j : Int) : Paired (Enc.rep K Hd) (rgV i j) (rangeI i (j - i).toNat) := by
  unfold rgV rangeI
  generalize List.range (j - i).toNat = l
  induction l with
  | nil => exact .nil
  | cons x l ih => exact .cons rfl ih
theorem px_listR1 {j : Int} (hc : X.calm = true) (hm : X.mg "list" = none) (hm2 : X.mg "range" = none) (h : PX X Γ a (.is j)) (hj : 0 ≤ j ∧ j ≤ 100000) (hg : Gl X "list" := by rfl) (hg2 : Gl X "range" := by rfl)
    (na : starEach [.Call (.Name "range" p) [a] [] p2] X.env = (false, eval (.Call (.Name "range" p) [a] [] p2) X.env) :: starEach [] X.env := by rfl) (na2 : starEach [a] X.env = (false, eval a X.env) :: starEach [] X.env := by rfl) :
    PX X Γ (.Call (.Name "list" p1) [.Call (.Name "range" p) [a] [] p2] [] pos) (.own (rangeI 0 j.toNat)) :=
  ⟨fun B ρ σ H h' Q q => goE (pe_listRg hc hg hm (prg_1 hg2 hm2 peW na2) na) (h.run B ρ σ H h' _ fun v H1 e1 h1 => by
    have ew := h1.topSc
    injection ew with ew
    subst ew
    refine ⟨j, rfl, ⟨by omega, by omega, by omega, by omega, by omega⟩, fun p hp => q _ _ (e1.trans (Ex.new hp)) ?_⟩
    have e0 : (j - 0).toNat = j.toNat := by rw [Int.sub_zero]
    have := HasE.newOwn (xs := rangeI 0 j.toNat) (vs := rgV 0 j) h1.pop hp fun Hd _ _ => by
      have k := paired_rng (K := X.K) (Hd := Hd) 0 j
      rw [e0] at k
      exact k
    exact this)⟩
theorem px_listR2 {i j : Int} (hc : X.calm = true) (hm : X.mg "list" = none) (hm2 : X.mg "range" = none) (h : PX X Γ a (.is i)) (h2 : PX X Γ b (.is j)) (hj : -(2 ^ 62) ≤ i ∧ i < 2 ^ 62 ∧ -(2 ^ 62) ≤ j ∧ j < 2 ^ 62 ∧ (j - i).toNat ≤ 2 ^ 24) (hg : Gl X "list" := by rfl) (hg2 : Gl X "range" := by rfl)
    (na : starEach [.Call (.Name "range" p) [a, b] [] p2] X.env = (false, eval (.Call (.Name "range" p) [a, b] [] p2) X.env) :: starEach [] X.env := by rfl) (na2 : starEach [a, b] X.env = (false, eval a X.env) :: starEach [b] X.env := by rfl)
    (nb : starEach [b] X.env = (false, eval b X.env) :: starEach [] X.env := by rfl) (hp : (backTo p2 (starEach [b] X.env)).any (·.1) = false := by rfl) :
    PX X Γ (.Call (.Name "list" p1) [.Call (.Name "range" p) [a, b] [] p2] [] pos) (.own (rangeI i (j - i).toNat)) :=
  ⟨fun B ρ σ H h' Q q => goE (pe_listRg hc hg hm (prg_2 hg2 hm2 peW peW na2 nb hp) na) (h.run B ρ σ H h' _ fun v H1 e1 h1 => h2.run B _ σ H1 h1 _ fun w H2 e2 h3 => by
    have ew := h3.topSc
    have ev := h3.swap.topSc
    injection ew with ew
    injection ev with ev
    subst ew ev
    exact ⟨i, j, rfl, rfl, hj, fun p hp => q _ _ ((e1.trans e2).trans (Ex.new hp)) (HasE.newOwn (xs := rangeI i (j - i).toNat) h3.pop.pop hp fun Hd _ _ => paired_rng i j)⟩)⟩
/-- xs[::-1] -/
theorem paired_rev {α β : Type} {F : α → β → Prop} : ∀ {l : List α} {m : List β}, Paired F l m → Paired F l.reverse m.reverse
  | _, _, .nil => .nil
  | _, _, .cons r t => by
    rw [List.reverse_cons, List.reverse_cons]
    exact paired_append (paired_rev t) (.cons r .nil)
theorem px_rev {α : Type} [Enc α] {xs : List α} {k : Nat} {s : Sl} (lk : Lk s xs) (ha : PX X Γ a s) : PX X Γ (.Subscript a (.Slice none none (some (.UnaryOp .USub (.Constant (.int 1) k p1) p2)) p3) pos) (.own xs.reverse) :=
  ⟨fun B ρ σ H h Q q => goE (pe_revL peW) (ha.run B ρ σ H h _ fun v H1 e1 h1 => by
    obtain ⟨l, Hd, z1, z2, z3, z4, z5, z6⟩ := id h1
    obtain ⟨a', vs, g1, g2, g3⟩ := lk.ok z2 (z5 (some v, s) List.mem_cons_self)
    injection g1 with g1
    subst g1
    refine ⟨a', vs, rfl, SqL.of g2, fun p hp => q _ _ (e1.trans (Ex.new hp)) ?_⟩
    refine (HasE.newOwn (xs := xs.reverse) h1 hp fun Hd' ed ok => ?_).pop2
    obtain ⟨a2, vs2, n1, n2, n3⟩ := lk.ok ed (ok (some (V.ref a'), s) List.mem_cons_self)
    injection n1 with n1
    injection n1 with n1
    subst n1
    rw [g2] at n2
    injection n2 with n2
    injection n2 with n2
    subst n2
    exact paired_rev n3)⟩
theorem ixN_nn {n : Nat} {i : Int} (h0 : 0 ≤ i) (h1 : i < n) : ixN n i = some i.toNat := by
  unfold ixN
  rw [if_pos h0, if_pos h1]
theorem ix_nn {α : Type} [Inhabited α] {xs : List α} {i : Int} (h0 : 0 ≤ i) (h1 : i < xs.length) : xs[i.toNat]? = some (ix xs i) := by
  have h := ix_ok (xs := xs) (i := i) ⟨by omega, h1⟩
  unfold atI at h
  rw [ixN_nn h0 h1] at h
  exact h
end
end DX
namespace DX
open PySem PySem.Spec PyProof.Rows L2

/-! ### chains of comparisons, a value dropped, a way that cannot be -/
def IsV {α : Type} [Enc α] (x : α) (v : V) : Prop := ∀ (K : PySem.W.Frag) (Hd : Hp) (w : V), Enc.rep K Hd w x → w = v
theorem isV_sc {α : Type} [Sc α] (x : α) : IsV x (Sc.val x) := fun _ _ _ h => h
theorem isV_tx (x : List Nat) : IsV x (V.str (mkS x)) := fun _ _ _ h => h
section
variable {X : Cx} {M : Type} {L : Leaf M} {Γ Γ' : List Sl} {k : List (List Stmt)} {m : M} {sts : List Stmt} {e a b c tg iter : Expr} {es : List Expr} {s : Sl} {pos p p1 p2 p3 : Pos}
theorem topV {α : Type} [Enc α] {x : α} {v : V} {B : Hp × Hp} {H : Hp} {ρ : List Slot} {σ : L2.St} {o : Option V} (hx : IsV x v) (h : HasE X.K B H ((o, .is x) :: ρ) σ Γ) : o = some v := by
  obtain ⟨l, Hd, h1, h2, h3, h4, h5, h6⟩ := h
  obtain ⟨w, e1, e2⟩ := h5 (o, .is x) List.mem_cons_self
  have e1 : o = some w := e1
  rw [e1, hx _ _ _ e2]
theorem tx_chain {α β γ : Type} [Enc α] [Enc β] [Enc γ] {op op' : CmpOp} {r r' : R2} {x : α} {y : β} {z : γ} {vx vy vz : V} (z1 z2 : Bool) (ho : OpR X (compareOp op) r) (ho' : OpR X (compareOp op') r') (hx : IsV x vx) (hy : IsV y vy) (hz : IsV z vz)
    (hr : ∀ H (Q : VK), Q (.bl z1) H → r vx vy H Q) (hr' : ∀ H (Q : VK), Q (.bl z2) H → r' vy vz H Q) (ha : PX X Γ a (.is x)) (hb : PX X Γ b (.is y)) (hc : PX X Γ c (.is z))
    (hm : lastMarks [op, op'] [b, c] = false := by with_unfolding_all rfl) : TX X Γ (.Compare a [op, op'] [b, c] pos) (z1 && z2) :=
  ⟨fun B ρ σ H h Q q => goT (pt_chain ho ho' peW peW peW hm) (ha.run B ρ σ H h _ fun v H1 e1 h1 => hb.run B _ σ H1 h1 _ fun w H2 e2 h2 => by
    have ew := topV hy h2
    have ev := topV hx h2.swap
    injection ew with ew
    injection ev with ev
    subst ew ev
    refine hr _ _ ⟨z1, rfl, ?_⟩
    cases z1 with
    | true =>
      rw [if_pos rfl]
      refine hc.run B _ σ H2 h2 _ fun u H3 e3 h3 => ?_
      have eu := topV hz h3
      injection eu with eu
      subst eu
      exact hr' _ _ ⟨z2, rfl, q H3 ((e1.trans e2).trans e3) h3.pop.pop.pop⟩
    | false =>
      rw [if_neg Bool.false_ne_true]
      exact ⟨false, rfl, q H2 (e1.trans e2) h2.pop.pop⟩)⟩
theorem px_chain {α β γ : Type} [Enc α] [Enc β] [Enc γ] {op op' : CmpOp} {r r' : R2} {x : α} {y : β} {z : γ} {vx vy vz : V} (z1 z2 : Bool) (ho : OpR X (compareOp op) r) (ho' : OpR X (compareOp op') r') (hx : IsV x vx) (hy : IsV y vy) (hz : IsV z vz)
    (hr : ∀ H (Q : VK), Q (.bl z1) H → r vx vy H Q) (hr' : ∀ H (Q : VK), Q (.bl z2) H → r' vy vz H Q) (ha : PX X Γ a (.is x)) (hb : PX X Γ b (.is y)) (hc : PX X Γ c (.is z))
    (hm : lastMarks [op, op'] [b, c] = false := by with_unfolding_all rfl) : PX X Γ (.Compare a [op, op'] [b, c] pos) (.is (z1 && z2)) :=
  ⟨fun B ρ σ H h Q q => goE (pe_chain ho ho' peW peW peW hm) (ha.run B ρ σ H h _ fun v H1 e1 h1 => hb.run B _ σ H1 h1 _ fun w H2 e2 h2 => by
    have ew := topV hy h2
    have ev := topV hx h2.swap
    injection ew with ew
    injection ev with ev
    subst ew ev
    refine hr _ _ ⟨z1, rfl, ?_⟩
    cases z1 with
    | true =>
      rw [if_pos rfl]
      refine hc.run B _ σ H2 h2 _ fun u H3 e3 h3 => ?_
      have eu := topV hz h3
      injection eu with eu
      subst eu
      exact hr' _ _ (q _ H3 ((e1.trans e2).trans e3) (h3.pop.pop.pop.pushSc z2))
    | false =>
      rw [if_neg Bool.false_ne_true]
      exact q _ H2 (e1.trans e2) (h2.pop.pop.pushSc false))⟩
/-- x <= y of texts -/
def leT (x y : List Nat) : Bool := !decide (y < x)
theorem ri_le {x y : Int} : ∀ H (Q : VK), Q (.bl (decide (x ≤ y))) H → rI0 (fun i j => .bl (decide (i ≤ j))) (.int x) (.int y) H Q := fun _ _ q => ⟨x, y, rfl, rfl, q⟩
theorem ri_lt {x y : Int} : ∀ H (Q : VK), Q (.bl (decide (x < y))) H → rI0 (fun i j => .bl (decide (i < j))) (.int x) (.int y) H Q := fun _ _ q => ⟨x, y, rfl, rfl, q⟩
theorem px_leS {x y : List Nat} (ha : PX X Γ a (.is x)) (hb : PX X Γ b (.is y)) : PX X Γ (.Compare a [.LtE] [b] pos) (.is (leT x y)) := px_cmpS _ op_le_str (nomark _) (fun _ _ q => ⟨_, _, rfl, rfl, q⟩) ha hb
theorem tx_leS {x y : List Nat} (ha : PX X Γ a (.is x)) (hb : PX X Γ b (.is y)) : TX X Γ (.Compare a [.LtE] [b] pos) (leT x y) := tx_cmpS _ op_le_str (nomark _) (fun _ _ q => ⟨_, _, rfl, rfl, q⟩) ha hb
theorem px_ltS {x y : List Nat} (ha : PX X Γ a (.is x)) (hb : PX X Γ b (.is y)) : PX X Γ (.Compare a [.Lt] [b] pos) (.is (decide (x < y))) := px_cmpS _ op_lt_str (nomark _) (fun _ _ q => ⟨_, _, rfl, rfl, q⟩) ha hb
theorem tx_ltS {x y : List Nat} (ha : PX X Γ a (.is x)) (hb : PX X Γ b (.is y)) : TX X Γ (.Compare a [.Lt] [b] pos) (decide (x < y)) := tx_cmpS _ op_lt_str (nomark _) (fun _ _ q => ⟨_, _, rfl, rfl, q⟩) ha hb
theorem px_gtS {x y : List Nat} (ha : PX X Γ a (.is x)) (hb : PX X Γ b (.is y)) : PX X Γ (.Compare a [.Gt] [b] pos) (.is (decide (x > y))) := px_cmpS _ op_gt_str (nomark _) (fun _ _ q => ⟨_, _, rfl, rfl, q⟩) ha hb
theorem tx_gtS {x y : List Nat} (ha : PX X Γ a (.is x)) (hb : PX X Γ b (.is y)) : TX X Γ (.Compare a [.Gt] [b] pos) (decide (x > y)) := tx_cmpS _ op_gt_str (nomark _) (fun _ _ q => ⟨_, _, rfl, rfl, q⟩) ha hb
theorem rs_le {x y : List Nat} : ∀ H (Q : VK), Q (.bl (leT x y)) H → (fun x y H Q => ∃ i j, x = V.str i ∧ y = V.str j ∧ Q (.bl (!decide (j.cps.toList < i.cps.toList))) H) (V.str (mkS x)) (V.str (mkS y)) H Q := fun _ _ q => ⟨_, _, rfl, rfl, q⟩
/-- one sign in a text -/
theorem px_inT {x : Nat} {y : List Nat} (ha : PX X Γ a (.is [x])) (hb : PX X Γ b (.is y)) (hm : behindInMarks .In b = false := by rfl) : PX X Γ (.Compare a [.In] [b] pos) (.is (decide (x ∈ y))) := px_cmpS _ op_in_sign hm (fun _ _ q => ⟨x, mkS y, rfl, rfl, q⟩) ha hb
theorem tx_inT {x : Nat} {y : List Nat} (ha : PX X Γ a (.is [x])) (hb : PX X Γ b (.is y)) (hm : behindInMarks .In b = false := by rfl) : TX X Γ (.Compare a [.In] [b] pos) (decide (x ∈ y)) := tx_cmpS _ op_in_sign hm (fun _ _ q => ⟨x, mkS y, rfl, rfl, q⟩) ha hb
theorem px_niT {x : Nat} {y : List Nat} (ha : PX X Γ a (.is [x])) (hb : PX X Γ b (.is y)) (hm : behindInMarks .NotIn b = false := by rfl) : PX X Γ (.Compare a [.NotIn] [b] pos) (.is (!decide (x ∈ y))) := px_cmpS _ op_notIn_sign hm (fun _ _ q => ⟨x, mkS y, rfl, rfl, q⟩) ha hb
theorem tx_niT {x : Nat} {y : List Nat} (ha : PX X Γ a (.is [x])) (hb : PX X Γ b (.is y)) (hm : behindInMarks .NotIn b = false := by rfl) : TX X Γ (.Compare a [.NotIn] [b] pos) (!decide (x ∈ y)) := tx_cmpS _ op_notIn_sign hm (fun _ _ q => ⟨x, mkS y, rfl, rfl, q⟩) ha hb
theorem sx_expr {s : Sl} (he : PX X Γ e s) (hr : SX X L Γ (sts :: k) m) (hs : swapsWith e none pos.line X.env = pure false := by rfl) : SX X L Γ ((.Expr e pos :: sts) :: k) m :=
  ⟨fun B ρ σ H D hb h l => wC_cons (go1 (ps_expr peW hs) (he.run B ρ σ H h _ fun v H1 e1 h1 => hr.run B ρ σ H1 D hb h1.pop l))⟩
theorem sx_false (h : False) : SX X L Γ k m := h.elim
theorem sx_ifT {x : Bool} {A B' : List Stmt} (hc : TX X Γ c x) (h1 : SX X L Γ (A :: sts :: k) m) (hx : x = true := by rfl) : SX X L Γ ((.If c A B' pos :: sts) :: k) m :=
  ⟨fun B ρ σ H D hb h l => wC_cons (go1 (ps_if ptW pssW pssW) (hc.run B ρ σ H h _ fun H1 e1 h' => by
    rw [if_pos hx]
    exact h1.run B ρ σ H1 D hb h' l))⟩
theorem sx_ifF {x : Bool} {A B' : List Stmt} (hc : TX X Γ c x) (h1 : SX X L Γ (B' :: sts :: k) m) (hx : x = false := by rfl) : SX X L Γ ((.If c A B' pos :: sts) :: k) m :=
  ⟨fun B ρ σ H D hb h l => wC_cons (go1 (ps_if ptW pssW pssW) (hc.run B ρ σ H h _ fun H1 e1 h' => by
    rw [if_neg (by rw [hx]; exact Bool.false_ne_true)]
    exact h1.run B ρ σ H1 D hb h' l))⟩

/-! ### data of any kind -/
class DEnc (α : Type) [Enc α] where
  encD : α → PyData
  toDp : ∀ {K : PySem.W.Frag} {H : Hp} {v : V} {x : α}, Enc.rep K H v x → Dp K H v (encD x)
open DEnc (encD)
instance : DEnc Int := ⟨PyData.int, fun {K H v x} h => by
  have h : v = V.int x := h
  subst h; exact .int x⟩
instance : DEnc Bool := ⟨PyData.bool, fun {K H v x} h => by
  have h : v = V.bl x := h
  subst h; exact .bl x⟩
instance : DEnc Unit := ⟨fun _ => PyData.none, fun {K H v x} h => by
  have h : v = V.non := h
  subst h; exact .non⟩
instance : DEnc (List Nat) := ⟨fun x => PyData.str (mkS x), fun {K H v x} h => by
  have h : v = V.str (mkS x) := h
  subst h; exact .str _⟩
theorem dpAll_of {α : Type} [Enc α] [DEnc α] {K : PySem.W.Frag} {H : Hp} : ∀ {vs : List V} {xs : List α}, Paired (Enc.rep K H) vs xs → DpAll K H vs (xs.map encD)
  | _, _, .nil => .nil
  | _, _, .cons r t => .cons (DEnc.toDp r) (dpAll_of t)
instance dencList {α : Type} [Enc α] [DEnc α] : @DEnc (List α) encList := @DEnc.mk (List α) encList (fun xs => PyData.list (xs.map encD)) (fun {K H v x} ⟨a, vs, h1, h2, h3⟩ => by
  subst h1
  exact .lst (SqL.of h2) (dpAll_of h3))
instance {α β : Type} [Enc α] [DEnc α] [Enc β] [DEnc β] : DEnc (α × β) := ⟨fun x => PyData.tuple [encD x.1, encD x.2], fun {K H v x} ⟨a, v1, v2, h1, h2, h3, h4⟩ => by
  subst h1
  exact .tup h2 (.cons (DEnc.toDp h3) (.cons (DEnc.toDp h4) .nil))⟩
instance {α β γ : Type} [Enc α] [DEnc α] [Enc β] [DEnc β] [Enc γ] [DEnc γ] : DEnc (T3 α β γ) := ⟨fun x => PyData.tuple [encD x.a, encD x.b, encD x.c], fun {K H v x} ⟨a, v1, v2, v3, h1, h2, h3, h4, h5⟩ => by
  subst h1
  exact .tup h2 (.cons (DEnc.toDp h3) (.cons (DEnc.toDp h4) (.cons (DEnc.toDp h5) .nil)))⟩
instance {α : Type} [Enc α] [DEnc α] : DEnc (Tup α) := ⟨fun x => PyData.tuple (x.l.map encD), fun {K H v x} ⟨a, vs, h1, h2, h3⟩ => by
  subst h1
  exact .tup h2 (dpAll_of h3)⟩
instance : DEnc PyData := ⟨id, fun h => h⟩
theorem px_toD {α : Type} [Enc α] [DEnc α] {x : α} (h : PX X Γ e (.is x)) : PX X Γ e (.is (encD x)) := ⟨fun B ρ σ H h' Q q => h.run B ρ σ H h' Q fun v H1 e1 h1 => q v H1 e1 (by
  obtain ⟨l, Hd, z1, z2, z3, z4, z5, z6⟩ := h1
  have z7 := List.pairwise_cons.mp z6
  refine ⟨l, Hd, z1, z2, z3, z4, fun p hp => ?_, List.pairwise_cons.mpr ⟨fun q _ => apart_is q, z7.2⟩⟩
  rcases List.mem_cons.mp hp with z | z
  · rw [z]
    obtain ⟨w, f1, f2⟩ := z5 _ List.mem_cons_self
    exact ⟨w, f1, DEnc.toDp f2⟩
  · exact z5 p (List.mem_cons_of_mem _ z))⟩

mutual
def same : PyData → PyData → Bool
  | .none, .none => true
  | .bool a, .bool b => a == b
  | .int a, .int b => a == b
  | .str a, .str b => a == b
  | .list a, .list b => sameAll a b
  | .tuple a, .tuple b => sameAll a b
  | _, _ => false
def sameAll : List PyData → List PyData → Bool
  | [], [] => true
  | x :: xs, y :: ys => same x y && sameAll xs ys
  | _, _ => false
end
mutual
/-- no dict in it, so deep at most -/
def flatD : Nat → PyData → Bool
  | n + 1, .list a => decide (a.length ≤ 1000000) && flatAll n a
  | n + 1, .tuple a => decide (a.length ≤ 1000000) && flatAll n a
  | _ + 1, .dict _ => false
  | _ + 1, _ => true
  | 0, _ => false
def flatAll : Nat → List PyData → Bool
  | _, [] => true
  | n, x :: xs => flatD n x && flatAll n xs
end
theorem flatAll_mem : ∀ {n : Nat} {ds : List PyData} {d : PyData}, flatAll n ds = true → d ∈ ds → flatD n d = true
  | n, x :: xs, d, h, hm => by
    unfold flatAll at h
    have h' := Bool.and_eq_true_iff.mp h
    rcases List.mem_cons.mp hm with z | z
    · rw [z]; exact h'.1
    · exact flatAll_mem h'.2 z
def tyName : PyData → String
  | .none => "NoneType"
  | .bool _ => "bool"
  | .int _ => "int"
  | .str _ => "str"
  | .list _ => "list"
  | .tuple _ => "tuple"
  | .dict _ => "dict"
theorem dp_ty {K : PySem.W.Frag} {H : Hp} {v : V} {d : PyData} (h : Dp K H v d) : TyX K H v (.type (tyName d)) := by
  cases h with
  | non => exact .base .non
  | bl b => exact .base (.bl b)
  | int i => exact .base (.int i)
  | str x => exact .base (.str x)
  | lst hs _ =>
    rcases hs with (h | ⟨o, h⟩) | ⟨o, its, n, hk, hc, _⟩
    · exact .base (.lst h)
    · exact .base (.frz h)
    · exact .kList hk hc
  | tup hs _ =>
    rcases hs with (h | ⟨o, h⟩) | ⟨o, its, n, hk, hc, _⟩
    · exact .base (.tup h)
    · exact .fTuple h
    · exact .kTuple hk hc
theorem topD {B : Hp × Hp} {H : Hp} {ρ : List Slot} {σ : L2.St} {d : PyData} {o : Option V} (h : HasE X.K B H ((o, .is d) :: ρ) σ Γ) : ∃ v, o = some v ∧ Dp X.K H v d := by
  obtain ⟨l, Hd, h1, h2, h3, h4, h5, h6⟩ := h
  obtain ⟨w, e1, e2⟩ := h5 (o, .is d) List.mem_cons_self
  exact ⟨w, e1, dp_mono h2 e2⟩
theorem px_isD {d : PyData} {x : Str} (ty T : String) (z : Bool) (ha : PX X Γ a (.is d)) (hm : X.mg "isinstance" = none) (hm2 : X.mg x = none) (ht : tyName d = ty := by rfl) (hk : kitB ty T = some z := by first | decide +kernel | (simp only [tyName]; decide +kernel)) (hv : bootBuiltins x = some (.type T) := by decide +kernel) (hg : Gl X "isinstance" := by rfl) (hg2 : Gl X x := by rfl)
    (he : starEach [a, .Name x p2] X.env = (false, eval a X.env) :: starEach [.Name x p2] X.env := by rfl) (he2 : starEach [.Name x p2] X.env = (false, eval (.Name x p2) X.env) :: starEach [] X.env := by rfl)
    (hpl : (backTo pos (starEach [.Name x p2] X.env)).any (·.1) = false := by rfl) (hn : x ≠ "__name__" := by decide) (hd : (x == ("__debug__" : Str)) = false := by decide) : PX X Γ (.Call (.Name "isinstance" p) [a, .Name x p2] [] pos) (.is z) :=
  ⟨fun B ρ σ H h Q q => goE (pe_callB call_isi hg hm PyProof.Rows.boot_isinstance (pa_cons peW (pa_cons (pe_bltn (v := .ty T) hg2 hm2 hv rfl hn hd) pa_nil he2) he) (by decide) (by decide) he hpl) (ha.run B ρ σ H h _ fun v H1 e1 h1 => by
    obtain ⟨w, f1, f2⟩ := topD h1
    injection f1 with f1
    subst f1
    exact ⟨v, .ty T, .type (tyName d), .type T, z, rfl, .ty T, dp_ty f2, kit_ty (by rw [ht]; exact hk), q _ H1 e1 (h1.pop.pushSc z)⟩)⟩
/-- is None, of data -/
def isNoneD : PyData → Bool
  | .none => true
  | _ => false
theorem dp_none {K : PySem.W.Frag} {H : Hp} {v : V} {d : PyData} (h : Dp K H v d) : decide (v = V.non) = isNoneD d := by
  cases h <;> simp [isNoneD]
theorem px_isND {d : PyData} {j : Nat} (ha : PX X Γ a (.is d)) : PX X Γ (.Compare a [.Is] [.Constant .none j p2] pos) (.is (isNoneD d)) :=
  ⟨fun B ρ σ H h Q q => goE (pe_cmp (pc_isN peW)) (ha.run B ρ σ H h _ fun v H1 e1 h1 => by
    obtain ⟨w, f1, f2⟩ := topD h1
    injection f1 with f1
    subst f1
    show Q (.bl (decide (v = .non))) H1
    rw [dp_none f2]
    exact q _ H1 e1 (h1.pop.pushSc (isNoneD d)))⟩
theorem tx_isND {d : PyData} {j : Nat} (ha : PX X Γ a (.is d)) : TX X Γ (.Compare a [.Is] [.Constant .none j p2] pos) (isNoneD d) :=
  ⟨fun B ρ σ H h Q q => goT (pt_cmp (pc_isN peW)) (ha.run B ρ σ H h _ fun v H1 e1 h1 => by
    obtain ⟨w, f1, f2⟩ := topD h1
    injection f1 with f1
    subst f1
    refine ⟨_, rfl, ?_⟩
    rw [dp_none f2]
    exact q H1 e1 h1.pop)⟩
/-- two plain things of one kind compared -/
theorem px_eqD0 {d e' : PyData} {vd ve : V} (z : Bool) (hd : ∀ K H v, Dp K H v d → v = vd) (he : ∀ K H v, Dp K H v e' → v = ve) (hs : scal vd ve = true) (hz : decide (vd = ve) = z) (ha : PX X Γ a (.is d)) (hb : PX X Γ b (.is e')) : PX X Γ (.Compare a [.Eq] [b] pos) (.is z) :=
  ⟨fun B ρ σ H h Q q => goE (pe_cmpR op_eq peW peW (nomark _)) (ha.run B ρ σ H h _ fun v H1 e1 h1 => hb.run B _ σ H1 h1 _ fun w H2 e2 h2 => by
    obtain ⟨w', f1, f2⟩ := topD h2
    obtain ⟨v', g1, g2⟩ := topD h2.swap
    injection f1 with f1
    injection g1 with g1
    subst f1 g1
    have := hd _ _ _ g2
    have := he _ _ _ f2
    subst v w
    exact ⟨hs, by rw [hz]; exact q _ H2 (e1.trans e2) (h2.pop.pop.pushSc z)⟩)⟩
theorem px_lenD {d : PyData} {ds : List PyData} (hd : d = .list ds ∨ d = .tuple ds) (hm : X.mg "len" = none) (ha : PX X Γ a (.is d)) (hg : Gl X "len" := by rfl) (he : starEach [a] X.env = (false, eval a X.env) :: starEach [] X.env := by rfl) :
    PX X Γ (.Call (.Name "len" p) [a] [] pos) (.is (ds.length : Int)) :=
  px_B _ call_len_seq hm PySem.boot_len (ax_cons ha ax_nil he) (fun B ρ σ H vs Q l h q => by
    obtain ⟨v, rfl⟩ := one_of l
    obtain ⟨w, f1, f2⟩ := topD h
    injection f1 with f1
    subst f1
    rcases hd with rfl | rfl
    · cases f2 with
      | lst hs hd => exact ⟨_, _, rfl, .inl hs, by rw [dpAll_len hd]; exact q⟩
    · cases f2 with
      | tup hs hd => exact ⟨_, _, rfl, .inr hs, by rw [dpAll_len hd]; exact q⟩) hg (by decide) (by decide) he rfl
where dpAll_len {K : PySem.W.Frag} {H : Hp} : ∀ {vs : List V} {ds : List PyData}, DpAll K H vs ds → vs.length = ds.length
  | _, _, .nil => rfl
  | _, _, .cons _ t => by simp [dpAll_len t]
theorem dpAll_get {K : PySem.W.Frag} {H : Hp} : ∀ {vs : List V} {ds : List PyData} {i : Nat} {d : PyData}, DpAll K H vs ds → ds[i]? = some d → ∃ v, vs[i]? = some v ∧ Dp K H v d
  | _, _, _, _, .nil, h => by simp at h
  | _, _, 0, d, .cons r _, h => by
    simp at h
    subst h
    exact ⟨_, rfl, r⟩
  | _, _, i + 1, d, .cons _ t, h => by
    obtain ⟨v, h1, h2⟩ := dpAll_get (i := i) (d := d) t (by simpa using h)
    exact ⟨v, by simpa using h1, h2⟩
theorem HasE.swapD {B : Hp × Hp} {H : Hp} {ρ : List Slot} {σ : L2.St} {d d' : PyData} {v u : V} (h : HasE X.K B H ((some v, .is d) :: ρ) σ Γ) (f : ∀ Hd, Ex Hd H → Dp X.K Hd v d → Dp X.K Hd u d') : HasE X.K B H ((some u, .is d') :: ρ) σ Γ := by
  obtain ⟨l, Hd, z1, z2, z3, z4, z5, z6⟩ := h
  have z7 := List.pairwise_cons.mp z6
  refine ⟨l, Hd, z1, z2, z3, z4, fun p hp => ?_, List.pairwise_cons.mpr ⟨fun q _ => apart_is q, z7.2⟩⟩
  rcases List.mem_cons.mp hp with z | z
  · rw [z]
    obtain ⟨w, f1, f2⟩ := z5 _ List.mem_cons_self
    have f1 : some v = some w := f1
    injection f1 with f1
    subst f1
    exact ⟨u, rfl, f Hd z2 f2⟩
  · exact z5 p (List.mem_cons_of_mem _ z)
theorem px_ixD {d x : PyData} {ds : List PyData} {i : Int} {n : Nat} (hd : d = .list ds ∨ d = .tuple ds) (hn : ds[n]? = some x) (hi : i = (n : Int)) (ha : PX X Γ a (.is d)) (hb : PX X Γ b (.is i)) (hs : PlainIx b := by exact fun _ _ => rfl) : PX X Γ (.Subscript a b pos) (.is x) :=
  ⟨fun B ρ σ H h Q q => goE (pe_ix ix_seq peW peW hs) (ha.run B ρ σ H h _ fun v H1 e1 h1 => hb.run B _ σ H1 h1 _ fun w H2 e2 h2 => by
    have ew := h2.topSc
    injection ew with ew
    subst ew hi
    have h3 := h2.pop
    obtain ⟨l, Hd, z1, z2, z3, z4, z5, z6⟩ := id h3
    obtain ⟨v', g1, g2⟩ := z5 _ List.mem_cons_self
    have g1 : some v = some v' := g1
    injection g1 with g1
    subst g1
    have g2 : Dp X.K Hd v d := g2
    have key : ∀ u, Dp X.K Hd u x → HasE X.K B H2 ((some u, .is x) :: ρ) σ Γ := fun u hu => HasE.pop2 (q := (some v, .is d)) ⟨l, Hd, z1, z2, z3, z4, fun r hr => (List.mem_cons.mp hr).elim (fun c => by rw [c]; exact ⟨u, rfl, hu⟩) (z5 r), List.pairwise_cons.mpr ⟨fun r _ => apart_is r, z6⟩⟩
    rcases hd with rfl | rfl
    · cases g2 with
      | lst hs hd =>
        obtain ⟨u, k1, k2⟩ := dpAll_get hd hn
        exact .inl ⟨_, _, n, u, rfl, rfl, Evl.ex_l z2 hs, atI_nat k1, q u H2 (e1.trans e2) (key u k2)⟩
    · cases g2 with
      | tup hs hd =>
        obtain ⟨u, k1, k2⟩ := dpAll_get hd hn
        exact .inr (.inl ⟨_, _, n, u, rfl, rfl, Evl.ex_t z2 hs, atI_nat k1, q u H2 (e1.trans e2) (key u k2)⟩))⟩
theorem forO_cons {S R α : Type} {step : S → α → Out S R} {s : S} {x : α} {xs : List α} : forO step s (x :: xs) = match step s x with
    | .go s' => forO step s' xs
    | .brk s' => .brk s'
    | .ret r => .ret r := by
  rw [forO]
  all_goals (cases step s x <;> rfl)
/-- the loop over the items of two data -/
def sameStep (gs ds : List PyData) (_ : Unit) (k : Int) : Out Unit Bool := if (!same ((gs[k.toNat]?).getD .none) ((ds[k.toNat]?).getD .none)) = true then .ret false else .go ()
theorem same_loop (G D : List PyData) : ∀ (gs ds : List PyData) (k : Nat), gs.length = ds.length → G.drop k = gs → D.drop k = ds → forO (sameStep G D) () (rangeI (k : Int) ds.length) = if sameAll gs ds = true then .go () else .ret false
  | [], [], k, _, _, _ => by
    show _ = if true = true then _ else _
    rw [if_pos rfl]
    rfl
  | [], _ :: _, _, h, _, _ => by simp at h
  | _ :: _, [], _, h, _, _ => by simp at h
  | x :: gs, y :: ds, k, h, hg, hd => by
    have e1 : G[k]? = some x := by
      have : (G.drop k)[0]? = some x := by rw [hg]; rfl
      simpa using this
    have e2 : D[k]? = some y := by
      have : (D.drop k)[0]? = some y := by rw [hd]; rfl
      simpa using this
    have g2 : G.drop (k + 1) = gs := by
      rw [← List.tail_drop, hg]
      rfl
    have d2 : D.drop (k + 1) = ds := by
      rw [← List.tail_drop, hd]
      rfl
    have er : rangeI (k : Int) (y :: ds).length = (k : Int) :: rangeI ((k + 1 : Nat) : Int) ds.length := by
      unfold rangeI
      rw [List.length_cons, List.range_succ_eq_map, List.map_cons, List.map_map]
      congr 1
      · simp
        intro a _
        omega
    rw [er]
    rw [forO_cons]
    have es : sameStep G D () (k : Int) = if (!same x y) = true then .ret false else .go () := by
      unfold sameStep
      rw [show ((k : Int)).toNat = k from rfl, e1, e2]
      rfl
    rw [es]
    have ih := same_loop G D gs ds (k + 1) (by simpa using h) g2 d2
    have eq : sameAll (x :: gs) (y :: ds) = (same x y && sameAll gs ds) := by rw [sameAll]
    rw [eq]
    cases hxy : same x y with
    | true =>
      rw [if_neg (by simp)]
      show forO (sameStep G D) () _ = _
      rw [ih, Bool.true_and]
    | false =>
      rw [if_pos (by simp), Bool.false_and, if_neg (by simp)]
theorem sameAll_len : ∀ {gs ds : List PyData}, sameAll gs ds = true → gs.length = ds.length
  | [], [], _ => rfl
  | [], _ :: _, h => by unfold sameAll at h; cases h
  | _ :: _, [], h => by unfold sameAll at h; cases h
  | x :: gs, y :: ds, h => by
    unfold sameAll at h
    have h' := Bool.and_eq_true_iff.mp h
    simp [sameAll_len h'.2]
theorem same_fin (gs ds : List PyData) : (if (!decide ((gs.length : Int) = (ds.length : Int))) = true then false else forK (sameStep gs ds) () (rangeI 0 ((ds.length : Int)).toNat) (fun _ => true) (fun r => r)) = sameAll gs ds := by
  by_cases h : gs.length = ds.length
  · have h1 : (gs.length : Int) = (ds.length : Int) := by omega
    rw [if_neg (by simp [h1])]
    have e := same_loop gs ds gs ds 0 h rfl rfl
    unfold forK
    have e' : forO (sameStep gs ds) () (rangeI 0 ((ds.length : Int)).toNat) = if sameAll gs ds = true then .go () else .ret false := e
    rw [e']
    cases sameAll gs ds <;> rfl
  · have h1 : ¬ (gs.length : Int) = (ds.length : Int) := by omega
    rw [if_pos (by simp [h1])]
    cases e : sameAll gs ds with
    | false => rfl
    | true => exact absurd (sameAll_len e) h
/-- on data that know themselves it is equality -/
class DInj (α : Type) [Enc α] [DEnc α] where
  inj : ∀ (x y : α), same (encD x) (encD y) = true ↔ x = y
instance : DInj Int := ⟨fun x y => by
  show same (.int x) (.int y) = true ↔ _
  unfold same
  simp⟩
instance : DInj Bool := ⟨fun x y => by
  show same (.bool x) (.bool y) = true ↔ _
  unfold same
  simp⟩
instance : DInj Unit := ⟨fun x y => by
  show same .none .none = true ↔ _
  unfold same
  simp⟩
instance : DInj (List Nat) := ⟨fun x y => by
  show same (.str (mkS x)) (.str (mkS y)) = true ↔ _
  unfold same
  constructor
  · intro h
    exact mkS_inj (by simpa using h)
  · intro h
    subst h
    simp⟩
theorem sameAll_inj {α : Type} [Enc α] [DEnc α] [DInj α] : ∀ (xs ys : List α), sameAll (xs.map encD) (ys.map encD) = true ↔ xs = ys
  | [], [] => by simp [sameAll]
  | [], _ :: _ => by simp [sameAll]
  | _ :: _, [] => by simp [sameAll]
  | x :: xs, y :: ys => by
    rw [List.map_cons, List.map_cons]
    unfold sameAll
    rw [Bool.and_eq_true_iff, DInj.inj x y, sameAll_inj xs ys]
    simp
instance dinjList {α : Type} [Enc α] [DEnc α] [DInj α] : @DInj (List α) encList dencList := @DInj.mk (List α) encList dencList fun xs ys => by
  show same (.list (xs.map encD)) (.list (ys.map encD)) = true ↔ _
  unfold same
  exact sameAll_inj xs ys
instance {α : Type} [Enc α] [DEnc α] [DInj α] : DInj (Tup α) := ⟨fun xs ys => by
  show same (.tuple (xs.l.map encD)) (.tuple (ys.l.map encD)) = true ↔ _
  unfold same
  rw [sameAll_inj xs.l ys.l]
  cases xs; cases ys
  simp⟩
instance {α β : Type} [Enc α] [DEnc α] [DInj α] [Enc β] [DEnc β] [DInj β] : DInj (α × β) := ⟨fun x y => by
  show same (.tuple [encD x.1, encD x.2]) (.tuple [encD y.1, encD y.2]) = true ↔ _
  unfold same
  simp only [sameAll, Bool.and_true, Bool.and_eq_true_iff, DInj.inj]
  cases x; cases y
  simp⟩
instance {α β γ : Type} [Enc α] [DEnc α] [DInj α] [Enc β] [DEnc β] [DInj β] [Enc γ] [DEnc γ] [DInj γ] : DInj (T3 α β γ) := ⟨fun x y => by
  show same (.tuple [encD x.a, encD x.b, encD x.c]) (.tuple [encD y.a, encD y.b, encD y.c]) = true ↔ _
  unfold same
  simp only [sameAll, Bool.and_true, Bool.and_eq_true_iff, DInj.inj]
  cases x; cases y
  simp⟩
theorem same_refl {α : Type} [Enc α] [DEnc α] [DInj α] (x : α) : same (encD x) (encD x) = true := (DInj.inj x x).mpr rfl
end
end DX
namespace DX
open PySem PySem.Spec PyProof.Rows L2
open DEnc (encD)

/-! ### a def that gives back a plain value may be handed lists that are still one's own -/
inductive FitsS : List Sl → List Sl → Prop
  | nil : FitsS [] []
  | is {α : Type} [Enc α] {x : α} {l m : List Sl} : FitsS l m → FitsS (.is x :: l) (.is x :: m)
  | lk {α : Type} [Enc α] {s : Sl} {x : List α} {l m : List Sl} (lk : Lk s x) : FitsS l m → FitsS (s :: l) (@Sl.is (List α) encList x :: m)
  | lkD {α : Type} [Enc α] [DEnc α] {s : Sl} {x : List α} {l m : List Sl} (lk : Lk s x) : FitsS l m → FitsS (s :: l) (.is (@encD (List α) encList dencList x) :: m)
  | arg {α : Type} [Enc α] {s : Sl} {x : List α} {l m : List Sl} (lk : Lk s x) : FitsS l m → FitsS (s :: l) (.arg x :: m)
theorem FitsS.len {l m : List Sl} (h : FitsS l m) : l.length = m.length := by
  induction h with
  | nil => rfl
  | is _ ih => simp [ih]
  | lk _ _ ih => simp [ih]
  | lkD _ _ ih => simp [ih]
  | arg _ _ ih => simp [ih]
theorem FitsS.ok {K : PySem.W.Frag} {B1 Hd H : Hp} (ed : Ex Hd H) {l m : List Sl} (h : FitsS l m) : ∀ {vs : List V}, (∀ p ∈ (vs.map some).zip l, SlotOk K B1 Hd H p.1 p.2) → ∀ p ∈ (vs.map some).zip m, SlotOk K H H H p.1 p.2 ∧ ∀ q, apart p q := by
  induction h with
  | nil => intro vs f p hp; simp at hp
  | is _ ih =>
    intro vs f p hp
    cases vs with
    | nil => simp at hp
    | cons v vs =>
      rcases List.mem_cons.mp hp with z | z
      · rw [z]
        obtain ⟨w, g1, g2⟩ := f _ List.mem_cons_self
        exact ⟨⟨w, g1, Enc.mono ed g2⟩, fun q => apart_is q⟩
      · exact ih (fun q hq => f q (List.mem_cons_of_mem _ hq)) p z
  | lk lk _ ih =>
    intro vs f p hp
    cases vs with
    | nil => simp at hp
    | cons v vs =>
      rcases List.mem_cons.mp hp with z | z
      · rw [z]
        obtain ⟨a, ws, g1, g2, g3⟩ := lk.ok ed (f _ List.mem_cons_self)
        exact ⟨⟨.ref a, g1, a, ws, rfl, g2, PairedMono ed g3⟩, fun q => apart_is q⟩
      · exact ih (fun q hq => f q (List.mem_cons_of_mem _ hq)) p z
  | lkD lk _ ih =>
    intro vs f p hp
    cases vs with
    | nil => simp at hp
    | cons v vs =>
      rcases List.mem_cons.mp hp with z | z
      · rw [z]
        obtain ⟨a, ws, g1, g2, g3⟩ := lk.ok ed (f _ List.mem_cons_self)
        exact ⟨⟨.ref a, g1, Dp.lst (SqL.of g2) (dpAll_of (PairedMono ed g3))⟩, fun q => apart_is q⟩
      · exact ih (fun q hq => f q (List.mem_cons_of_mem _ hq)) p z
  | arg lk _ ih =>
    intro vs f p hp
    cases vs with
    | nil => simp at hp
    | cons v vs =>
      rcases List.mem_cons.mp hp with z | z
      · rw [z]
        obtain ⟨a, ws, g1, g2, g3⟩ := lk.ok ed (f _ List.mem_cons_self)
        exact ⟨⟨a, ws, g1, fun z => (by rw [g2] at z; cases z), g2, PairedMono ed g3⟩, fun q => apart_arg q⟩
      · exact ih (fun q hq => f q (List.mem_cons_of_mem _ hq)) p z
section
variable {X : Cx} {M : Type} {L : Leaf M} {Γ Γ' : List Sl} {k : List (List Stmt)} {m : M} {sts : List Stmt} {e a b c tg iter : Expr} {es : List Expr} {s : Sl} {ss : List Sl} {pos p p1 p2 p3 : Pos}
theorem callV {ι : Type} {k : Nat} {x : Str} {n : Nat} {pre : ι → Prop} {args : ι → List Sl} {res : ι → Sl} (F : DefOk X.prog X.w X.K X.mg X.base k x n (spD X.K pre args res)) (i : ι) (hp : pre i) (hr : Room k X.A)
    (ha : AX X Γ (e :: es) ss) (fit : FitsS ss (args i)) {α : Type} [Enc α] {z : α} {vz : V} (hz : IsV z vz) (hs0 : res i = .is z) (hg : Gl X x) (hdb : (x == ("__debug__" : Str)) = false) (he : starEach (e :: es) X.env = (false, eval e X.env) :: starEach es X.env) (hpl : (backTo pos (starEach es X.env)).any (·.1) = false)
    (hx : Passes CX0 X E0) (B : Hp × Hp) (ρ : List Slot) (σ : L2.St) (H : Hp) (h : HasE X.K B H ρ σ Γ) (Q : VK) (q : ∀ H', Ex H H' → HasE X.K B H' ρ σ Γ → Q vz H') : wE X (.Call (.Name x p) (e :: es) [] pos) σ H Q := by
  obtain ⟨f, fd, ps, F, hm, hk, hb, _⟩ := F.ex
  refine goE (pe_call F hr hg hm hk hb .nil hx paW hdb he hpl) (ha.run B ρ σ H h _ fun vs H1 e1 l h1 => ?_)
  rw [List.append_nil]
  obtain ⟨zl, Hd, z1, z2, z3, z4, z5, z6⟩ := id h1
  refine ⟨H1, i, Ex.refl _, hp, l.trans fit.len, fit.ok z2 fun r hr => z5 r (List.mem_append_left _ (pushAll_mem (.inl hr))), fun v H' Hd' f1 f2 f3 f4 f5 => ?_⟩
  have f5 := f5.1
  rw [hs0] at f5
  obtain ⟨w, g1, g2⟩ := f5
  injection g1 with g1
  subst g1
  have := hz _ _ _ g2
  subst this
  exact q H' (e1.trans f3) (h1.popAll.grow f3)
theorem px_callS {ι : Type} {k : Nat} {x : Str} {n : Nat} {pre : ι → Prop} {args : ι → List Sl} {res : ι → Sl} {α : Type} [Sc α] {z : α} (F : DefOk X.prog X.w X.K X.mg X.base k x n (spD X.K pre args res)) (i : ι) (hp : pre i) (hr : Room k X.A)
    (ha : AX X Γ (e :: es) ss) (fit : FitsS ss (args i)) (hs0 : res i = .is z := by rfl) (hg : Gl X x := by rfl) (hdb : (x == ("__debug__" : Str)) = false := by decide) (he : starEach (e :: es) X.env = (false, eval e X.env) :: starEach es X.env := by rfl) (hpl : (backTo pos (starEach es X.env)).any (·.1) = false := by rfl)
    (hx : Passes CX0 X E0 := by exact pass0) : PX X Γ (.Call (.Name x p) (e :: es) [] pos) (.is z) :=
  ⟨fun B ρ σ H h Q q => callV F i hp hr ha fit (isV_sc z) hs0 hg hdb he hpl hx B ρ σ H h Q fun H' e' h' => q _ H' e' (h'.pushSc z)⟩
theorem px_callT {ι : Type} {k : Nat} {x : Str} {n : Nat} {pre : ι → Prop} {args : ι → List Sl} {res : ι → Sl} {z : List Nat} (F : DefOk X.prog X.w X.K X.mg X.base k x n (spD X.K pre args res)) (i : ι) (hp : pre i) (hr : Room k X.A)
    (ha : AX X Γ (e :: es) ss) (fit : FitsS ss (args i)) (hs0 : res i = .is z := by rfl) (hg : Gl X x := by rfl) (hdb : (x == ("__debug__" : Str)) = false := by decide) (he : starEach (e :: es) X.env = (false, eval e X.env) :: starEach es X.env := by rfl) (hpl : (backTo pos (starEach es X.env)).any (·.1) = false := by rfl)
    (hx : Passes CX0 X E0 := by exact pass0) : PX X Γ (.Call (.Name x p) (e :: es) [] pos) (.is z) :=
  ⟨fun B ρ σ H h Q q => callV F i hp hr ha fit (isV_tx z) hs0 hg hdb he hpl hx B ρ σ H h Q fun H' e' h' => q _ H' e' (pushTx z h')⟩
theorem px_globE {i : Int} {y : Str} (hm : ∃ t : Tok, X.mg y = some (.int i t)) (hg : Gl X y := by rfl) (hd : (y == ("__debug__" : Str)) = false := by decide) : PX X Γ (.Name y p) (.is i) := by
  obtain ⟨t, hm⟩ := hm
  exact px_globI hg hm hd
end

/-! ### mathematics: folds that grow, items, slices -/
theorem lt_ind {α β : Type} {P : β → Prop} {x : α} {f : α → β} (h : ∀ v, v = x → P (f v)) : P (lt x f) := h x rfl
theorem paired_imp {α β : Type} {F G : α → β → Prop} : ∀ {l : List α} {m : List β}, Paired F l m → (∀ a b, a ∈ l → F a b → G a b) → Paired G l m
  | _, _, .nil, _ => .nil
  | _, _, .cons r t, h => .cons (h _ _ List.mem_cons_self r) (paired_imp t fun a b ha => h a b (List.mem_cons_of_mem _ ha))
theorem foldl_grow {S α β : Type} (step : List β × S → α → List β × S) (P : α → β → Prop) : ∀ (xs : List α), (∀ s x, x ∈ xs → ∃ y, (step s x).1 = s.1 ++ [y] ∧ P x y) → ∀ s0, ∃ ys, (xs.foldl step s0).1 = s0.1 ++ ys ∧ Paired P xs ys
  | [], _, s0 => ⟨[], by simp, .nil⟩
  | x :: xs, h, s0 => by
    obtain ⟨y, h1, h2⟩ := h s0 x List.mem_cons_self
    obtain ⟨ys, h3, h4⟩ := foldl_grow step P xs (fun s x hx => h s x (List.mem_cons_of_mem _ hx)) (step s0 x)
    exact ⟨y :: ys, by rw [List.foldl_cons, h3, h1]; simp, .cons h2 h4⟩
theorem foldl_grow0 {S α β : Type} (step : List β × S → α → List β × S) (P : α → β → Prop) (xs : List α) (h : ∀ s x, x ∈ xs → ∃ y, (step s x).1 = s.1 ++ [y] ∧ P x y) (s0 : S) : Paired P xs (xs.foldl step ([], s0)).1 := by
  obtain ⟨ys, h1, h2⟩ := foldl_grow step P xs h ([], s0)
  rw [h1]
  exact h2
theorem foldl_inv {S α : Type} {step : S → α → S} (I : S → Prop) (h : ∀ s x, I s → I (step s x)) : ∀ (xs : List α) (s0 : S), I s0 → I (xs.foldl step s0)
  | [], _, h0 => h0
  | x :: xs, s0, h0 => foldl_inv I h xs (step s0 x) (h s0 x h0)
theorem foldl_invM {S α : Type} {step : S → α → S} (I : S → Prop) : ∀ (xs : List α), (∀ s x, x ∈ xs → I s → I (step s x)) → ∀ (s0 : S), I s0 → I (xs.foldl step s0)
  | [], _, _, h0 => h0
  | x :: xs, h, s0, h0 => foldl_invM I xs (fun s y hy => h s y (List.mem_cons_of_mem _ hy)) (step s0 x) (h s0 x List.mem_cons_self h0)
theorem ix_all {α : Type} [Inhabited α] {xs : List α} {i : Int} (P : α → Prop) (h : ∀ x ∈ xs, P x) (hi : -(xs.length : Int) ≤ i ∧ i < xs.length) : P (ix xs i) := by
  have e := ix_ok hi
  unfold atI at e
  cases q : ixN xs.length i with
  | none => rw [q] at e; cases e
  | some j =>
    rw [q] at e
    exact h _ (List.mem_of_getElem? e)
theorem sIx_some {n d : Nat} {i : Int} (h : 0 ≤ i) : HT.sIx n d (some i) = min i.toNat n := by
  have e : i = (i.toNat : Int) := by omega
  rw [e]
  exact HT.sIx_nat n d i.toNat
theorem sl_from {α : Type} {xs : List α} {i : Int} (h : 0 ≤ i) : sl xs (some i) none = xs.drop i.toNat := by
  unfold sl
  rw [sIx_some h, HT.sIx_none]
  by_cases h2 : i.toNat ≤ xs.length
  · rw [Nat.min_eq_left h2, List.take_of_length_le (by simp)]
  · rw [Nat.min_eq_right (by omega), List.drop_of_length_le (by omega : xs.length ≤ i.toNat)]
    simp
theorem sl_to {α : Type} {xs : List α} {i : Int} (h : 0 ≤ i) : sl xs none (some i) = xs.take i.toNat := by
  unfold sl
  rw [sIx_some h, HT.sIx_none, Nat.sub_zero, List.drop_zero]
  by_cases h2 : i.toNat ≤ xs.length
  · rw [Nat.min_eq_left h2]
  · rw [Nat.min_eq_right (by omega), List.take_length, List.take_of_length_le (by omega)]
theorem sl_mid {α : Type} {xs : List α} {i j : Int} (h : 0 ≤ i) (hj : 0 ≤ j) : sl xs (some i) (some j) = (xs.drop i.toNat).take (j.toNat - i.toNat) := by
  unfold sl
  rw [sIx_some h, sIx_some hj]
  by_cases h1 : i.toNat ≤ xs.length
  · rw [Nat.min_eq_left h1]
    by_cases h2 : j.toNat ≤ xs.length
    · rw [Nat.min_eq_left h2]
    · rw [Nat.min_eq_right (by omega), List.take_of_length_le (by simp), List.take_of_length_le (by simp; omega)]
  · have h3 : xs.length ≤ i.toNat := by omega
    rw [Nat.min_eq_right h3, List.drop_of_length_le h3, List.drop_of_length_le (Nat.le_refl _)]
    simp
theorem repL_length {α : Type} (xs : List α) (k : Int) : (repL xs k).length = k.toNat * xs.length := by
  unfold repL
  simp
theorem repT_length (x : List Nat) (k : Int) : (repT x k).length = k.toNat * x.length := by
  unfold repT
  simp
theorem mem_repL {α : Type} {xs : List α} {k : Int} {x : α} (h : x ∈ repL xs k) : x ∈ xs := by
  unfold repL at h
  obtain ⟨l, h1, h2⟩ := List.mem_flatten.mp h
  rw [(List.mem_replicate.mp h1).2] at h2
  exact h2
theorem mem_repT {xs : List Nat} {k : Int} {x : Nat} (h : x ∈ repT xs k) : x ∈ xs := mem_repL (xs := xs) (k := k) h
theorem mem_sl {α : Type} {xs : List α} {i j : Option Int} {x : α} (h : x ∈ sl xs i j) : x ∈ xs := List.mem_of_mem_drop (List.mem_of_mem_take h)
theorem sl_length_le {α : Type} (xs : List α) (i j : Option Int) : (sl xs i j).length ≤ xs.length := by
  unfold sl
  rw [List.length_take, List.length_drop]
  omega
theorem joinT_length : ∀ {xs : List (List Nat)}, (∀ x ∈ xs, x.length = 1) → (joinT [] xs).length = xs.length := by
  intro xs h
  rw [joinT_nil, List.length_flatten]
  induction xs with
  | nil => rfl
  | cons x xs ih =>
    rw [List.map_cons, List.sum_cons, h x List.mem_cons_self, ih fun y hy => h y (List.mem_cons_of_mem _ hy), List.length_cons]
    omega
theorem mem_joinT {xs : List (List Nat)} {c : Nat} (h : c ∈ joinT [] xs) : ∃ x ∈ xs, c ∈ x := by
  rw [joinT_nil] at h
  obtain ⟨l, h1, h2⟩ := List.mem_flatten.mp h
  exact ⟨l, h1, h2⟩
end DX
namespace DX
open PySem PySem.Spec PyProof.Rows L2
open DEnc (encD)

/-! ### sets of texts: a comprehension's set, and how many it holds -/
abbrev SK (X : Cx) (a : Addr) (S : Key → Bool) (n : Nat) : HO := SetK X.prog X.w a S n
section
variable {X : Cx}
theorem add_key {ps : List (Addr × Obj)} {τ : L2.St} {G : Hp} {z : Shared} {F : Value → Shared → Prop} {D : Addr} {S : Key → Bool} {n : Nat} {k : Key} {u : Value} {R : Value → Shared → Prop}
    (I : Inv X ps τ G z) (there : G D = some (SK X D S n)) (room : n + 1 < scanBound) (r : RelV (kV k) u)
    (go : ∀ z', Inv X ps τ (upd G D (SK X D (fun j => S j || decide (j = k)) (if S k = true then n else n + 1))) z' → R .none z') :
    wpAny (model X.prog X.w) X.A (call (.builtin "set.add") [.ref D, u]) R F z := by
  refine call_set_add (kV_is r) (key_scan r) (setK_get I there) room fun hh same grown => ?_
  have some1 : ∃ ob, hh.get? D = some ob := by
    obtain ⟨ob, _, _, _, f, _⟩ := id grown
    exact ⟨ob, f⟩
  exact go _ (I.write (e := D) (t' := z.toks + 1) (by rw [there]; trivial) (.inl rfl) (fun b ob hb f => (same.2 b hb).trans f) some1 (setK_new grown))
/-- {elt for tg in iter} over texts or ints -/
def wSC (X : Cx) (wi : TI) (g : TG) (te : TE) (vs : List Nat) : TE := fun σ H Q => wi σ H fun J G =>
  ∀ D, G D = none → ∃ V : Nat → Nat → Hp → Prop, (∃ m, V 0 m (upd G D (SK X D (fun _ => false) 0))) ∧
    ∀ i m G1, V i m G1 → (J.stop i G1 ∧ Q (.ref D) G1) ∨ (J.go i G1 ∧ ∃ Z : Hp → Prop, (∀ G2, Z G2 → ∃ m', m' < m ∧ V (i + 1) m' G2) ∧
      ∀ x G2, J.yld i G1 x G2 → g x (wipe σ vs) G2 fun σ2 G3 => wipe σ2 vs = wipe σ vs ∧
        te σ2 G3 fun y G4 => ∃ (k : Key) (S : Key → Bool) (n : Nat), y = kV k ∧ G4 D = some (SK X D S n) ∧ n + 1 < scanBound ∧
          Z (upd G4 D (SK X D (fun j => S j || decide (j = k)) (if S k = true then n else n + 1))))
theorem pe_setc {elt tg iter : Expr} {sc : Scope} {own : List (Str × Nat)} {pos : Pos} {wi : TI} {g : TG} {te : TE} (hc : X.calm = true) (hN : X.N.Nodup) (hi : PI X tg iter wi) (ok : BlkOk X.N X.env.scope sc own)
    (hg : ∀ (s : Shared) (H : Hp) (C : Addr) (cl : List (Str × Addr)) (fp : List Addr), PG (X.blk s H sc (compEnvC sc cl C X.env) fp) tg g)
    (he : ∀ (s : Shared) (H : Hp) (C : Addr) (cl : List (Str × Addr)) (fp : List Addr), PE (X.blk s H sc (compEnvC sc cl C X.env) fp) elt te)
    (hs : ∀ x, foldedSetIterable iter X.env x = pure x := by intro _; rfl) : PE X (.SetComp elt [⟨tg, iter, [], 0⟩] sc pos) (wSC X wi g te (own.map (·.2))) := by
  refine ⟨fun ps z0 σ G0 Q I0 h => ?_⟩
  rw [PpSet.eval_SetComp]
  have free1 : ∀ y ∈ sc.names, y.2 = .free → ∃ c, X.env.cells.lookup y.1 = some c := fun y hy e =>
    (ok.free y hy e).elim (fun k => I0.ok.has _ (.inl k)) (fun k => I0.ok.has _ (.inr k))
  refine wpAny_comprehension_free (use := none) rfl hs (closure_ok free1) ok.kind (fun y hy e => by rw [ok.uniq y hy, e])
    (thn (hi.run ps z0 σ G0 _ I0 h) fun _ z1 b1 => thn b1 fun _ z2 b2 => ?_)
  obtain ⟨it, fp, pl, J, G, e0, I2, T, at0, out0, rest⟩ := b2
  subst e0
  refine PpSet.newSet_ok (newEnv_comp ?_)
  generalize hD : z2.heap.objs.size = D
  have dn : G D = none := I2.hok.fresh (Nat.le_of_eq hD)
  obtain ⟨V, ⟨m0, v0⟩, turn⟩ := rest D dn
  generalize eN : ({ cls := .type "set", dict := none, data := .set #[] 0 (.fresh 0 0 (!X.w.params.followText "set-order")) } : Obj) = oN
  generalize ez : ({ z2 with heap := z2.heap.push oN } : Shared) = z3
  have hz : z3.heap = z2.heap.push oN := by rw [← ez]
  have kept2 : ∀ b ob, z2.heap.get? b = some ob → z3.heap.get? b = some ob := fun b ob f => by rw [hz]; exact Heap.get?_push_of_some _ f
  have I3 : Inv X ps σ (upd G D (SK X D (fun _ => false) 0)) z3 := by
    rw [← ez]
    refine I2.laid (t' := z2.toks) (fun b ob f => Heap.get?_push_of_some _ f) (Nat.le_of_eq hD) (setK_new ?_)
    rw [← hD, ← eN]
    exact ⟨_, #[], 0, _, Heap.get?_push_size _ rfl, ⟨rfl, rfl, rfl⟩, rfl, (fun q hq => by simp at hq), (fun k => by simp), (by decide), (by rfl), rfl⟩
  have low : ∀ b ∈ fp, b < z2.heap.objs.size := fun b hb =>
    let ⟨_, f, _⟩ := T.obj _ _ at0 b hb
    Heap.lt_size f
  have out3 : ∀ b ∈ fp, FpOk X ps (upd G D (SK X D (fun _ => false) 0)) b ∧ b < z3.heap.objs.size := fun b hb => by
    refine ⟨⟨?_, (out0 b hb).2⟩, by rw [hz, Heap.size_push]; exact Nat.lt_succ_of_lt (low b hb)⟩
    rw [upd_ne (by rw [← hD]; exact Nat.ne_of_lt (low b hb))]
    exact (out0 b hb).1
  have at3 : pl 0 z3.heap := T.keep _ _ _ at0 fun b _ ob f => kept2 b ob f
  have I4 := block_start I3 ok hN out3
  generalize eG : upd G D (SK X D (fun _ => false) 0) = G3 at I3 I4 v0 out3
  have rg := hg z3 G3 z3.heap.objs.size (cellsFrom (z3.heap.objs.size + 1) sc.names (cloFrom X.env.cells sc.names [])) fp
  have re := he z3 G3 z3.heap.objs.size (cellsFrom (z3.heap.objs.size + 1) sc.names (cloFrom X.env.cells sc.names [])) fp
  have bare3 : ∀ b ∈ fp, G3 b = none := fun b hb => (out3 b hb).1.1
  suffices goal : codeAny (model X.prog X.w) X.A (.compStart (.SetComp elt [⟨tg, iter, [], 0⟩] sc pos) 0 (.ref it) (.ref D) (compEnvC sc (cellsFrom (z3.heap.objs.size + 1) sc.names (cloFrom X.env.cells sc.names [])) z3.heap.objs.size X.env)) (compPost (model X.prog X.w) X.A X.xe none (EP X ps σ Q) (.ref D) z3.heap.objs.size) { z3 with heap := pushCells (z3.heap.push { cls := .type "dict", data := .dict #[] }) sc.names } from goal
  generalize ec : compEnvC sc (cellsFrom (z3.heap.objs.size + 1) sc.names (cloFrom X.env.cells sc.names [])) z3.heap.objs.size X.env = en at I4 rg re ⊢
  have eL : en.locals = z3.heap.objs.size := by rw [← ec]; rfl
  generalize e4 : ({ z3 with heap := pushCells (z3.heap.push { cls := .type "dict", data := .dict #[] }) sc.names } : Shared) = z4 at I4 ⊢
  have at4 : pl 0 z4.heap := T.keep _ _ _ at3 fun b _ ob f => by rw [← e4]; exact pushCells_keeps _ _ _ _ (Heap.get?_push_of_some _ f)
  have fps : ∀ {τ : L2.St} {G' : Hp} {z' : Shared}, Inv (X.blk z3 G3 sc en fp) [] τ G' z' → (∀ b ∈ fp, G' b = none) → ∀ b ∈ fp, FpOk (X.blk z3 G3 sc en fp) [] G' b := fun {τ G' z'} I' hn b hb =>
    ⟨hn b hb, (I'.ok.exf b hb).1, I'.ok.exfs b hb, .inl hb, fun x c e => (I'.ok.exf b hb).2 x c e, fun p hp => absurd (show p ∈ ([] : List (Addr × Obj)) ++ [] from hp) (by simp)⟩
  have loop : codeAny (model X.prog X.w) X.A (.compLoop (.SetComp elt [⟨tg, iter, [], 0⟩] sc pos) 0 (.ref it) (.ref D) en) (compPost (model X.prog X.w) X.A X.xe none (EP X ps σ Q) (.ref D) z3.heap.objs.size) z4 := by
    refine PpSet.compLoopS_any (fun n z' => ∃ i G', Inv (X.blk z3 G3 sc en fp) [] (wipe σ (own.map (·.2))) G' z' ∧ pl i z'.heap ∧ (∀ b ∈ fp, G' b = none) ∧ V i n G') ?_ m0 ⟨0, G3, I4, at4, bare3, v0⟩
    intro n z5 hz5
    obtain ⟨i, G5, I5, at5, bare5, v5⟩ := hz5
    cases turn i n G5 v5 with
    | inl fin =>
      refine thnF (T.done (X.blk z3 G3 sc en fp) rfl rfl rfl hc i [] z5 _ G5 (fun _ _ => False) I5 (fps I5 bare5) at5 fin.1) fun o z6 hz6 => ?_
      obtain ⟨eo, I6⟩ := hz6
      subst eo
      have I7 : Inv X ps σ G5 z6 := I3.call' (ch := fp) I6.os I6.base I6.hok I6.bare fun b hb =>
        ⟨(out3 b hb).1.2.2.2.1, (out3 b hb).1.2.1, (out3 b hb).1.2.2.2.2.1, (out3 b hb).1.2.2.2.2.2⟩
      have none5 : G5 z3.heap.objs.size = none := by rw [← eL]; exact I6.free
      obtain ⟨mm, hmm, _⟩ := I6.loc
      have hmm : z6.heap.Ns en.locals mm := hmm
      rw [eL] at hmm
      obtain ⟨p0, p1, p2, p3, p4, p5⟩ := I3.fpOk (Nat.le_refl _) none5
      exact ⟨mm, hmm, fun h'' sb => ⟨.ref D, G5, I7.turned (t' := z6.toks) (fun b ob hb f => (sb.2 b hb).trans f) p0 p1 p3 p4 p5, rfl, fin.2⟩⟩
    | inr more =>
      obtain ⟨go, Z, hZ, step⟩ := more
      refine thnF (T.item (X.blk z3 G3 sc en fp) rfl rfl rfl hc i [] z5 _ G5 (fun _ _ => False) I5 (fps I5 bare5) at5 go) fun o z6 hz6 => ?_
      obtain ⟨u, eo, hz6⟩ := hz6
      subst eo
      refine thnF hz6 fun _ z7 hz7 => ?_
      obtain ⟨x, G7, I7, r7, y7, at7, bare7⟩ := hz7
      have I7p := I7.pinned (fps I7 bare7) (T.obj _ _ at7)
      refine thnF (rg.run _ z7 _ G7 x u _ I7p r7 (step x G7 y7)) fun _ z8 hz8 => ?_
      obtain ⟨σ8, G8, I8, same8, q8⟩ := hz8
      refine thnF ((pts_nil (X := X.blk z3 G3 sc en fp)).run _ z8 σ8 G8 (fun b G' => b = true ∧ te σ8 G' _) I8 ⟨rfl, q8⟩) fun b z9 hz9 => ?_
      obtain ⟨G9, I9, eb, q9⟩ := hz9
      subst eb
      simp only [if_true]
      refine thnF (re.run _ z9 σ8 G9 _ I9 q9) fun w z10 hz10 => ?_
      obtain ⟨y, G10, I10, r10, k, S, c, ey, there, room, hZ10⟩ := hz10
      subst ey
      refine add_key (X := X.blk z3 G3 sc en fp) I10 there room r10 fun z11 I11 => ?_
      obtain ⟨m', less, v'⟩ := hZ _ hZ10
      have pin' : ∀ b ∈ fp, ∀ ob, z7.heap.get? b = some ob → z11.heap.get? b = some ob ∧ (upd G10 D (SK X D (fun j => S j || decide (j = k)) (if S k = true then c else c + 1))) b = none := fun b hb ob f =>
        let t := I11.pin (b, ob) (List.mem_append_right _ (List.mem_append_right _ (mem_pinsAt hb f)))
        ⟨t.1, t.2.1⟩
      refine ⟨m', less, i + 1, _, (I11.unpinned (pins := [])).weak (by rw [← same8, wipe_length]) (fun j v e => ?_), T.keep _ _ _ at7 fun b hb ob f => (pin' b hb ob f).1, fun b hb => ?_, v'⟩
      · rw [← same8] at e
        exact (wipe_some e).1
      · obtain ⟨ob, f, _⟩ := T.obj _ _ at7 b hb
        exact (pin' b hb ob f).2
  exact PpSet.codeAny_compStart_set loop (T.self X.A 0 _ _ _ at4 loop)

theorem cr_lenK : CallR X (.builtin "len") (fun vs G Q => ∃ a S n, vs = [V.ref a] ∧ G a = some (SK X a S n) ∧ n ≤ 100000 ∧ Q (.int (n : Int)) G) := by
  intro ps z σ G vs us Q I r h
  obtain ⟨a, S, n, rfl, f, few, q⟩ := h
  rw [Vals.ref1 r]
  obtain ⟨ob, es, ep, t, ho, hx, hd, _, _, _, hf, hn⟩ := setK_get I f
  refine call_len_set ho hx hd hf (by rw [hn]; omega) ?_
  exact ⟨.int (n : Int), G, I.tok _, ⟨_, by rw [hn]⟩, q⟩
end
/-- each once, in the order of the first -/
def nub (l : List (List Nat)) : List (List Nat) := l.foldl (fun a x => if x ∈ a then a else a ++ [x]) []
theorem nub_snoc (l : List (List Nat)) (x : List Nat) : nub (l ++ [x]) = if x ∈ nub l then nub l else nub l ++ [x] := by
  unfold nub
  rw [List.foldl_append]
  rfl
theorem snoc_ind {α : Type} {P : List α → Prop} (h0 : P []) (h1 : ∀ l x, P l → P (l ++ [x])) (l : List α) : P l := by
  have key : ∀ r : List α, P r.reverse := fun r => by
    induction r with
    | nil => exact h0
    | cons x r ih =>
      rw [List.reverse_cons]
      exact h1 _ x ih
  have := key l.reverse
  rwa [List.reverse_reverse] at this
theorem mem_nub {x : List Nat} : ∀ {l : List (List Nat)}, x ∈ nub l ↔ x ∈ l := by
  intro l
  refine snoc_ind (P := fun l => x ∈ nub l ↔ x ∈ l) Iff.rfl (fun l y ih => ?_) l
  show x ∈ nub (l ++ [y]) ↔ _
  rw [nub_snoc, List.mem_append, List.mem_singleton]
  by_cases h : y ∈ nub l
  · rw [if_pos h, ih]
    refine ⟨.inl, fun z => z.elim id fun e => ?_⟩
    subst e
    exact ih.mp h
  · rw [if_neg h, List.mem_append, List.mem_singleton, ih]
theorem nub_len_le (l : List (List Nat)) : (nub l).length ≤ l.length := by
  refine snoc_ind (P := fun l => (nub l).length ≤ l.length) (Nat.le_refl _) (fun l y ih => ?_) l
  show (nub (l ++ [y])).length ≤ _
  rw [nub_snoc, List.length_append]
  split
  · exact Nat.le_trans ih (Nat.le_add_right _ _)
  · rw [List.length_append]
    exact Nat.add_le_add_right ih _
def keyT (x : List Nat) : Key := .inr (mkS x)
theorem keyT_inj {x y : List Nat} (h : keyT x = keyT y) : x = y := mkS_inj (Sum.inr.inj h)
def keysOf (l : List (List Nat)) : Key → Bool := fun k => l.any fun x => decide (k = keyT x)
theorem keysOf_mem {l : List (List Nat)} {x : List Nat} : keysOf l (keyT x) = true ↔ x ∈ l := by
  unfold keysOf
  rw [List.any_eq_true]
  exact ⟨fun ⟨y, hy, e⟩ => by rw [keyT_inj (of_decide_eq_true e)]; exact hy, fun h => ⟨x, h, decide_eq_true rfl⟩⟩
theorem keysOf_snoc (l : List (List Nat)) (x : List Nat) : keysOf (l ++ [x]) = fun j => keysOf l j || decide (j = keyT x) := by
  funext j
  unfold keysOf
  rw [List.any_append]
  simp
section
variable {X : Cx} {Γ : List Sl} {tg iter : Expr}
theorem px_lenSC {α : Type} [Enc α] {elt : Expr} {scope : Scope} {nm : Str} {xs : List α} {P : Prop} {pos pos' p : Pos} (j : Nat) (g : α → List Nat) (hi : IX X Γ tg iter xs P) (hz : P → xs.length ≤ 1000)
    (htg : ∀ (s : Shared) (H : Hp) (C : Addr) (cl : List (Str × Addr)) (fp : List Addr), PG (X.blk s H scope (compEnvC scope cl C X.env) fp) tg (gName j)) (ok : BlkOk X.N X.env.scope scope [(nm, j)]) (hN : X.N.Nodup) (hc : X.calm = true)
    (he : ∀ (i : Nat) (x : α), xs[i]? = some x → ∀ (s : Shared) (H : Hp) (C : Addr) (cl : List (Str × Addr)) (fp : List Addr), PX (X.blk s H scope (compEnvC scope cl C X.env) fp) ((Γ.map lend).set j (.is x)) elt (.is (g x)))
    (hm : X.mg "len" = none) (hs : ∀ x, foldedSetIterable iter X.env x = pure x := by intro _; rfl) (hg : Gl X "len" := by rfl)
    (hst : starEach [.SetComp elt [⟨tg, iter, [], 0⟩] scope pos'] X.env = (false, eval (.SetComp elt [⟨tg, iter, [], 0⟩] scope pos') X.env) :: starEach [] X.env := by rfl) :
    PX X Γ (.Call (.Name "len" p) [.SetComp elt [⟨tg, iter, [], 0⟩] scope pos'] [] pos) (.is ((nub (xs.map g)).length : Int)) :=
  ⟨fun B ρ σ H h Q q => goE (pe_callB cr_lenK hg hm PySem.boot_len paW (by decide) (by decide) hst rfl) (goA (pa_cons peW pa_nil hst) (goE (pe_setc (own := [(nm, j)]) (te := wEb X scope elt) hc hN piW ok htg (fun s H C cl fp => ⟨fun pins s' σ H' Q I h => h s H C cl fp pins s' I⟩) hs) (by
    refine hi.run B ρ σ H h _ fun J G τ hp e1 hb h1 hgo hstop => fun D dn => ?_
    have hlen := hz hp
    refine ⟨fun i m G1 => m = xs.length - i ∧ i ≤ xs.length ∧ Ex G G1 ∧ G1 D = some (SK X D (keysOf ((xs.take i).map g)) (nub ((xs.take i).map g)).length), ⟨xs.length, by simp, Nat.zero_le _, Ex.new dn, ?_⟩, ?_⟩
    · rw [upd_same]
      rfl
    · intro i m G1 hv
      obtain ⟨rfl, hin, ex1, at1⟩ := hv
      have k1 : HasE X.K B G1 ([] ++ (τ ++ ρ)) σ Γ := HasE.grow h1 ex1
      by_cases hlt : i < xs.length
      · have hx : xs[i]? = some xs[i] := List.getElem?_eq_getElem hlt
        obtain ⟨g1, g2⟩ := hgo [] σ Γ G1 i xs[i] k1 hx
        refine .inr ⟨g1, fun G2 => Ex G G2 ∧ G2 D = some (SK X D (keysOf ((xs.take (i + 1)).map g)) (nub ((xs.take (i + 1)).map g)).length), fun G2 z => ⟨xs.length - (i + 1), by omega, rfl, hlt, z.1, z.2⟩, fun x G2 y => ?_⟩
        obtain ⟨e2, k2⟩ := g2 x G2 y
        have hw : L2.wipe ((L2.wipe σ [j]).set j (some x)) [j] = L2.wipe σ [j] := by
          show ((σ.set j none).set j (some x)).set j none = σ.set j none
          rw [List.set_set, List.set_set]
        have hσ : (L2.wipe σ [j]).set j (some x) = σ.set j (some x) := by
          show (σ.set j none).set j (some x) = _
          rw [List.set_set]
        have k4 : HasE X.K B G2 (σ.zip Γ ++ ([] ++ (τ ++ ρ))) (σ.set j (some x)) ((Γ.map lend).set j (.is xs[i])) := by
          have a := k2.fork
          obtain ⟨l, Hd, a1, a2, a3, a4, a5, a6⟩ := a
          refine HasE.set j ⟨l, Hd, a1, a2, a3, a4, fun p hp => a5 p ?_, ?_⟩
          · rcases List.mem_append.mp hp with z | z
            · rcases List.mem_cons.mp z with z | z
              · rw [z]; exact List.mem_append_left _ (List.mem_append_right _ List.mem_cons_self)
              · rcases List.mem_append.mp z with z | z
                · exact List.mem_append_left _ (List.mem_append_left _ z)
                · exact List.mem_append_left _ (List.mem_append_right _ (List.mem_cons_of_mem _ z))
            · exact List.mem_append_right _ z
          · have b := List.pairwise_append.mp a6
            have c := List.pairwise_append.mp b.1
            have d := List.pairwise_cons.mp c.2.1
            refine List.pairwise_append.mpr ⟨List.pairwise_cons.mpr ⟨fun r _ => apart_is r, List.pairwise_append.mpr ⟨c.1, d.2, fun p hp q hq => c.2.2 p hp q (List.mem_cons_of_mem _ hq)⟩⟩, b.2.1, fun p hp q hq => ?_⟩
            rcases List.mem_cons.mp hp with z | z
            · rw [z]; exact apart_is q
            · refine b.2.2 p ?_ q hq
              rcases List.mem_append.mp z with z | z
              · exact List.mem_append_left _ z
              · exact List.mem_append_right _ (List.mem_cons_of_mem _ z)
        show L2.wipe ((L2.wipe σ [j]).set j (some x)) [j] = L2.wipe σ [j] ∧ _
        refine ⟨hw, ?_⟩
        show wEb X scope elt ((L2.wipe σ [j]).set j (some x)) G2 _
        rw [hσ]
        intro s0 H0 C cl fp
        refine (he i xs[i] hx s0 H0 C cl fp).run B _ _ G2 k4 _ fun y' G3 e3 k5 => ?_
        have ey := topTx k5
        injection ey with ey
        have at3 := e3 _ _ (e2 _ _ at1)
        have tk : (xs.take (i + 1)).map g = (xs.take i).map g ++ [g xs[i]] := by
          rw [List.take_succ, hx, List.map_append]
          rfl
        have hn := nub_len_le ((xs.take i).map g)
        rw [List.length_map, List.length_take] at hn
        refine ⟨keyT (g xs[i]), _, _, ey, at3, by show _ < 4096; omega, (ex1.trans (e2.trans e3)).mut dn, ?_⟩
        rw [upd_same, tk, keysOf_snoc, nub_snoc]
        congr 2
        by_cases hmem : g xs[i] ∈ (xs.take i).map g
        · rw [if_pos (keysOf_mem.mpr hmem), if_pos (mem_nub.mpr hmem)]
        · rw [if_neg (fun z => hmem (keysOf_mem.mp z)), if_neg (fun z => hmem (mem_nub.mp z)), List.length_append]
          rfl
      · have e : i = xs.length := by omega
        subst e
        rw [List.take_length] at at1
        have hn := nub_len_le (xs.map g)
        rw [List.length_map] at hn
        refine .inl ⟨hstop _ σ Γ G1 k1, D, _, _, rfl, at1, by omega, ?_⟩
        refine q _ G1 (e1.trans ex1) ?_
        exact (HasE.grow h (e1.trans ex1)).pushSc ((nub (xs.map g)).length : Int))))⟩
end
end DX
namespace DX
open PySem PySem.Spec PyProof.Rows L2
open DEnc (encD)

/-! ### set(xs) of a list of texts -/
section
variable {P : Program} {w : World} {A : Around} {R : Result → Shared → Prop} {it D : Addr} {fp wr : List Addr} {G : Array GenState → Array GenState → Prop} {n : Nat} {Pv : Nat → Value → Prop} {St : Nat → Shared → Prop}
abbrev TxSet (P : Program) (w : World) (h : Heap) (D : Addr) (l : List (List Nat)) : Prop := h.SetOf (mixKind P w) D (keysOf l) (nub l).length
theorem txSet_step {h : Heap} {l : List (List Nat)} {x : List Nat} (R : h.SetOf (mixKind P w) D (fun j => keysOf l j || decide (j = keyT x)) (if keysOf l (keyT x) = true then (nub l).length else (nub l).length + 1)) : TxSet P w h D (l ++ [x]) := by
  show h.SetOf _ D (keysOf (l ++ [x])) (nub (l ++ [x])).length
  rw [nub_snoc, keysOf_snoc]
  by_cases m : x ∈ l
  · rw [if_pos (keysOf_mem.mpr m)] at R
    rw [if_pos (mem_nub.mpr m)]
    exact R
  · rw [if_neg (fun z => m (keysOf_mem.mp z))] at R
    rw [if_neg (fun z => m (mem_nub.mp z)), List.length_append]
    exact R
theorem fill_texts (W : WalksS P w A.in1 it fp wr G n Pv St) (away : D ∉ fp) (xs : List (List Nat)) (len : xs.length = n) (few : n ≤ 1000) (val : ∀ i v x, Pv i v → xs[i]? = some x → ∃ t, v = .str (mkS x) t) :
    ∀ (d i : Nat) (z : Shared), i + d = n → St i z → TxSet P w z.heap D (xs.take i) →
      (∀ z', Moved (D :: wr) G z z' → TxSet P w z'.heap D xs → R (.ok (.ret .none)) z') → codeAny (model P w) A (.builtin "set.update.loop" ⟨[.ref D, .ref it], []⟩) R z := by
  have away' : D ∉ wr := fun m => away (W.sub _ m)
  have more : ∀ b ∈ wr, b ∈ D :: wr := fun _ hb => .tail _ hb
  intro d
  induction d with
  | zero =>
    intro i z e at0 S fin
    have e : n = i := e.symm
    subst e
    refine codeAny_builtin F.entry_set_update_loop ?_
    rw [Around.under_plainId F.plain_set_update_loop _]
    refine wpAny_bind (m := pyNext (.ref it)) (W.done z _ _ at0 fun z' moved => wpAny_pure (fin z' (moved.mono more) ?_))
    rw [← len, List.take_length] at S
    exact setOf_at S fun ob f => moved.heap D _ away' f
  | succ d ih =>
    intro i z e at0 S fin
    have lt : i < n := by omega
    have hx : xs[i]? = some xs[i] := List.getElem?_eq_getElem (by omega)
    refine codeAny_builtin F.entry_set_update_loop ?_
    rw [Around.under_plainId F.plain_set_update_loop _]
    refine wpAny_bind (m := pyNext (.ref it)) (W.item i z _ _ lt at0 fun v z' pv at1 moved => ?_)
    obtain ⟨t, rfl⟩ := val i v _ pv hx
    have S1 : TxSet P w z'.heap D (xs.take i) := setOf_at S fun ob f => moved.heap D _ away' f
    have r : RelV (kV (keyT xs[i])) (Value.str (mkS xs[i]) t) := ⟨t, rfl⟩
    have room : (nub (xs.take i)).length + 1 < scanBound := by
      have := nub_len_le (xs.take i)
      rw [List.length_take] at this
      show _ < 4096
      omega
    refine wpAny_bind (m := holding [Value.str (mkS xs[i]) t] (setAdd D (.str (mkS xs[i]) t))) (wpAny_holding ?_)
    unfold setAdd
    refine wpAny_holding (wpAny_bind ((mixKind P w).pyHash (kV_is r) ?_))
    refine wpAny_setAddHashed_of (s := { z' with toks := z'.toks + 1 }) (kV_is r) (key_scan r) S1 room fun hh same S2 => ?_
    have S3 : TxSet P w hh D (xs.take (i + 1)) := by
      rw [List.take_succ, hx]
      exact txSet_step S2
    refine wpAny_pure ⟨plainId_quiet F.plain_set_update_loop _, ih (i + 1) _ (by omega) (W.frame _ z' _ _ at1 (Nat.le_succ _) fun b hb ob f => (same.2 b (fun q => away (by rw [← q]; exact hb))).trans f) S3 fun z2 moved2 S4 => fin z2 (Moved.trans W.gtrans ((moved.mono more).then_heap (Nat.le_succ _) fun b ob hb f => (same.2 b (fun q => hb (by rw [q]; exact .head _))).trans f) moved2) S4⟩
end
section
variable {P : Program} {w : World} {A : Around} {E : Value → Shared → Prop} {s : Shared}
set_option maxHeartbeats 3200000 in
theorem call_set_texts {l : Addr} {items : Array Value} {xs : List (List Nat)} {Q : Value → Shared → Prop} (calm : A.handled = none) (hl : s.heap.IsList l items) (len : xs.length = items.size) (few : items.size ≤ 1000)
    (val : ∀ (i : Nat) (v : Value) (x : List Nat), items[i]? = some v → xs[i]? = some x → ∃ t, v = .str (mkS x) t)
    (go : ∀ (hh : Heap) (k : Nat), TxSet P w hh s.heap.objs.size xs → (∀ b ob, b < s.heap.objs.size → s.heap.get? b = some ob → hh.get? b = some ob) → Q (.ref s.heap.objs.size) { s with heap := hh, toks := k }) :
    wpAny (model P w) A (call (.type "set") [.ref l]) Q E s := by
  obtain ⟨c, tl, mro⟩ := F.called_set.mro
  have made := F.called_set.made
  have sub := F.called_set.sub
  refine wpAny_call (codeAny_of_tree ?_)
  show wpAny _ _ (callAny (.type "set") _) _ _ _
  refine wpAny_pure ⟨Code.quiet_builtin _ (by decide +kernel), codeAny_builtin F.entry_type_call ?_⟩
  rw [Around.under_plain (weight_type_call_type "set" [.ref l] []) rfl]
  have c1 := F.called_set.notType
  have c2 := F.called_set.canCreate
  have c3 := F.typeCall_set_1 (.ref l)
  repeat (any_goals (first | assumption | wp_step))
  have isNew : ∀ (led : Bool), ∃ ob : Obj, ob = { cls := .type "set", dict := none, data := .set #[] 0 (.fresh 0 0 led) } := fun _ => ⟨_, rfl⟩
  refine codeAny_mono (code_set_new_1 (.ref l) (E := E) (Q₁ := fun o z => ∃ led ob, ob = ({ cls := .type "set", dict := none, data := .set #[] 0 (.fresh 0 0 led) } : Obj) ∧ o = .ref s.heap.objs.size ∧ z = { s with heap := s.heap.push ob }) fun led => ⟨led, _, rfl, rfl, rfl⟩) fun r z hr => ?_
  rcases r with e | fl
  · exact hr
  rcases fl with _ | o | _ | _ <;> first | exact hr.elim | skip
  obtain ⟨led, _, rfl, rfl, rfl⟩ := hr
  have new : (s.heap.push ({ cls := .type "set", dict := none, data := .set #[] 0 (.fresh 0 0 led) } : Obj)).get? s.heap.objs.size = some ({ cls := .type "set", dict := none, data := .set #[] 0 (.fresh 0 0 led) } : Obj) := Heap.get?_push_size _ rfl
  have isT : Shared.TypeIs { s with heap := s.heap.push ({ cls := .type "set", dict := none, data := .set #[] 0 (.fresh 0 0 led) } : Obj) } (.ref s.heap.objs.size) "set" := ⟨_, new, rfl⟩
  have c4 := F.called_set.init.lookup
  have c5 := F.called_set.init.bind (.ref s.heap.objs.size)
  repeat (any_goals (first | assumption | wp_step))
  refine codeAny_mono (codeAny_call_builtin (R := wants (fun r z => r = .none ∧ ∃ hh k, z = { s with heap := hh, toks := k } ∧ TxSet P w hh s.heap.objs.size xs ∧ (∀ b u, b < s.heap.objs.size → s.heap.get? b = some u → hh.get? b = some u)) E) F.called_set.init.plain F.entry_set_init (check_set_init_1 isT ?_)) fun r z hr => ?_
  · obtain ⟨lo, hlo, lc, ln, ld⟩ := hl
    obtain ⟨k1, k2, k3, k4⟩ := lo
    dsimp only at lc ld
    subst lc ld
    have hlo1 := Heap.get?_push_of_some ({ cls := .type "set", dict := none, data := .set #[] 0 (.fresh 0 0 led) } : Obj) hlo
    have c6 := F.sub_list_set
    have c7 := F.sub_list_frozenset
    have c8 : (Value.type "list" == Value.type "dict") = false := by decide
    have isl : (s.heap.push ({ cls := .type "set", dict := none, data := .set #[] 0 (.fresh 0 0 led) } : Obj)).IsList l items := ⟨_, hlo1, rfl, ln, rfl⟩
    unfold Builtin.«set.__init__» noKeywords Builtin.Frozenset.updateFrom
    generalize hPI : pyIter = PI
    wp_walk
    subst hPI
    refine wpAny_pyIter_list isl ?_
    refine wpAny_bind (wpAny_runValue ?_)
    have below := Heap.lt_size hlo
    have calm3 : A.in1.in1.in1.handled = none := by simp [calm]
    have apart1 : l ≠ (s.heap.push ({ cls := .type "set", dict := none, data := .set #[] 0 (.fresh 0 0 led) } : Obj)).objs.size := by
      rw [Heap.size_push]
      exact Nat.ne_of_lt (Nat.lt_succ_of_lt below)
    refine fill_texts ((Walks.list calm3 _ l apart1 items).toS) (D := s.heap.objs.size) ?_ xs len few val items.size 0 _ (Nat.zero_add _) ⟨⟨_, Heap.get?_push_size _ rfl, rfl, rfl⟩, isl.push _⟩ ?_ fun z moved S => ?_
    · rw [Heap.size_push]
      simp only [List.mem_cons, List.not_mem_nil, or_false, not_or]
      exact ⟨Nat.ne_of_lt (Nat.lt_succ_self _), Nat.ne_of_gt below⟩
    · have at1 := Heap.get?_push_of_some ({ cls := .type "list_iterator", data := .fields #[.ref l, .int 0 0] } : Obj) new
      exact ⟨_, #[], 0, _, at1, ⟨rfl, rfl, rfl⟩, rfl, (fun q hq => by simp at hq), (fun k => by simp [keysOf]), (by decide), (by rfl), rfl⟩
    · obtain ⟨hh, gg, dd, kk, oo⟩ := z
      have e1 : gg = s.gens := moved.gens
      have e2 : dd = s.drawn := moved.drawn
      have e3 : oo = s.os := moved.os
      subst e1 e2 e3
      refine wpAny_pure ?_
      show wpAny _ _ (ret Value.none) _ _ _
      refine wpAny_pure ⟨rfl, hh, kk, rfl, S, fun b u lt f => moved.heap b u ?_ (Heap.get?_push_of_some _ (Heap.get?_push_of_some _ f))⟩
      rw [Heap.size_push]
      simp only [List.mem_cons, List.not_mem_nil, or_false, not_or]
      exact ⟨Nat.ne_of_lt lt, Nat.ne_of_lt (Nat.lt_succ_of_lt lt)⟩
  · rcases r with e | fl
    · exact hr
    rcases fl with _ | o | _ | _ <;> first | exact hr.elim | skip
    obtain ⟨rfl, hh, k, rfl, S, same⟩ := hr
    repeat (any_goals (first | assumption | wp_step))
    exact go _ _ S same
end
end DX
namespace DX
open PySem PySem.Spec PyProof.Rows L2
open DEnc (encD)
section
variable {X : Cx} {Γ : List Sl} {a : Expr} {s : Sl} {p p2 pos pos2 : Pos}
theorem cr_setL (hc : X.calm = true) : CallR X (.type "set") (fun vs G Q => ∃ (l : Addr) (ws : List V) (xs : List (List Nat)), vs = [V.ref l] ∧ SqL X.K G l ws ∧ ws.length = xs.length ∧ (∀ (i : Nat) (x : List Nat), xs[i]? = some x → ws[i]? = some (V.str (mkS x))) ∧ xs.length ≤ 1000 ∧
    ∀ D, G D = none → Q (.ref D) (upd G D (SK X D (keysOf xs) (nub xs).length))) := by
  intro ps z σ G vs us Q I r h
  obtain ⟨l, ws, xs, rfl, hl, pl0, pr, few, q⟩ := h
  rw [Vals.ref1 r]
  obtain ⟨its, rv, pl, hz⟩ := I.list hl
  have len : its.toArray.size = xs.length := by rw [List.size_toArray, ← rv.length, pl0]
  refine call_set_texts (P := X.prog) (w := X.w) (xs := xs) (I.ok.hd hc) pl.isList len.symm (by omega) (fun i v x hv hx => ?_) fun hh k S same => ?_
  · have hv' : its[i]? = some v := by simpa using hv
    obtain ⟨u, e3, e4⟩ := rv.get (pr i x hx)
    rw [hv'] at e3
    injection e3 with e3
    subst e3
    exact e4
  · exact ⟨.ref _, _, I.laid (t' := k) (fun b ob f => same b ob (Heap.lt_size f) f) (Nat.le_refl _) (setK_new S), rfl, q _ (I.hok.fresh (Nat.le_refl _))⟩
theorem px_lenSetL {xs : List (List Nat)} (lk : Lk s xs) (hc : X.calm = true) (hm : X.mg "len" = none) (hm2 : X.mg "set" = none) (ha : PX X Γ a s) (few : xs.length ≤ 1000) (hg : Gl X "len" := by rfl) (hg2 : Gl X "set" := by rfl)
    (h1 : starEach [.Call (.Name "set" p2) [a] [] pos2] X.env = (false, eval (.Call (.Name "set" p2) [a] [] pos2) X.env) :: starEach [] X.env := by rfl) (h2 : starEach [a] X.env = (false, eval a X.env) :: starEach [] X.env := by rfl) :
    PX X Γ (.Call (.Name "len" p) [.Call (.Name "set" p2) [a] [] pos2] [] pos) (.is ((nub xs).length : Int)) :=
  ⟨fun B ρ σ H h Q q => goE (pe_callB cr_lenK hg hm PySem.boot_len paW (by decide) (by decide) h1 rfl) (goA (pa_cons peW pa_nil h1) (goE (pe_callTy (cr_setL hc) hg2 hm2 PyProof.Rows.boot_set paW (by decide) (by decide) h2 rfl) (goA (pa_cons peW pa_nil h2) (ha.run B ρ σ H h _ fun v G e1 k1 => by
    obtain ⟨l, ws, e2, e3, e4, e5⟩ := HasE.topL lk k1
    injection e2 with e2
    subst e2
    refine ⟨l, ws, xs, rfl, SqL.of e3, e4, fun i x hx => ?_, few, fun D dn => ?_⟩
    · obtain ⟨v', f1, f2⟩ := e5 i x hx
      have f3 := topTx f2
      injection f3 with f3
      rw [f1, f3]
    · have hn := nub_len_le xs
      refine ⟨D, _, _, rfl, upd_same, by omega, ?_⟩
      refine q _ _ (e1.trans (Ex.new dn)) ?_
      exact (HasE.grow h (e1.trans (Ex.new dn))).pushSc ((nub xs).length : Int)))))⟩
/-- the first place of y in x, or -1 -/
def findT (x y : List Nat) : Int := Txt.find (mkS x) (mkS y)
theorem px_find {b : Expr} {x y : List Nat} {apos : Pos} (ho : PX X Γ a (.is x)) (he : PX X Γ b (.is y)) (hs : starEach [b] X.env = [(false, eval b X.env)] := by rfl)
    (hbase : attributeBase a "find" X.env (eval a X.env) = eval a X.env := by rfl) (hline : (apos.endLine == pos.line) = true := by rfl) : PX X Γ (.Call (.Attribute a "find" apos) [b] [] pos) (.is (findT x y)) :=
  ⟨fun B ρ σ H h Q q => goE (pe_m1 F.slot_str_find F.type_str_find mt_find peW peW hs hbase hline) (ho.run B ρ σ H h _ fun v H1 e1 h1 => by
    have ev := topTx h1
    injection ev with ev
    subst ev
    refine ⟨⟨_, rfl⟩, he.run B _ σ H1 h1 _ fun w H2 e2 h2 => ?_⟩
    have ew := topTx h2
    injection ew with ew
    subst ew
    exact ⟨mkS x, mkS y, rfl, rfl, q _ _ (e1.trans e2) (h2.pop.pop.pushSc (findT x y))⟩)⟩
end
end DX
namespace DX
open PySem PySem.Spec PyProof.Rows L2
open DEnc (encD)

/-! ### a text turned about -/
theorem turned_text (z : Str) : ((Builtin.Str.strSliceIndices none none (-1) z.length).filterMap (z.cps[·]?)).toArray = z.cps.toList.reverse.toArray := by
  have e : Builtin.Str.strSliceIndices none none (-1) z.length = sliceRange ((z.cps.size : Int) - 1) (-1) (-1) := rfl
  rw [e, PySem.W.krv_sliceRange, PySem.W.krv_range, List.filterMap_reverse, PySem.W.krv_all]
section
variable {X : Cx} {Γ : List Sl} {a : Expr} {k : Nat} {p1 p2 p3 pos : Pos}
def wRevS (te : TE) : TE := fun σ H Q => te σ H fun x G => ∃ z : Str, x = .str z ∧ z.length ≤ sizeLine ∧ Q (.str ⟨z.cps.toList.reverse.toArray⟩) G
theorem pe_revS {te : TE} (he : PE X a te) : PE X (.Subscript a (.Slice none none (some (.UnaryOp .USub (.Constant (.int 1) k p1) p2)) p3) pos) (wRevS te) := by
  refine ⟨fun ps z0 σ H Q I h => Subscript_ (thn (he.run ps z0 σ H _ I h) fun _ z1 ⟨_, G, I1, r1, z, ex, few, q⟩ => ?_)⟩
  subst ex
  obtain ⟨t, rfl⟩ := r1
  have one : PO X (some (.UnaryOp .USub (.Constant (.int 1) k p1) p2)) (tPart (tUn (rU fun i => .int (-i)) (tC (.int 1)))) := po_some (pe_un un_neg pe_int)
  refine wpAny_Slice (thn (po_none.run ps z1 σ G (fun o G' => o = none ∧ G' = G) I1 ⟨rfl, rfl⟩) fun lo z2 ⟨_, G2, I2, b1, e1, e2⟩ => ?_)
  subst e1
  refine thn (po_none.run ps z2 σ G2 (fun o G' => o = none ∧ G' = G2) I2 ⟨rfl, rfl⟩) fun hi z3 ⟨_, G3, I3, b2, e3, e4⟩ => ?_
  subst e3
  refine thn (one.run ps z3 σ G3 (fun o G' => o = some (-1) ∧ G' = G3) I3 ⟨1, rfl, -1, rfl, rfl, rfl⟩) fun st z4 ⟨_, G4, I4, b3, e5, e6⟩ => ?_
  subst e5
  rw [← e2, ← e4, ← e6] at q
  obtain ⟨l, el, el2⟩ := IsPart.raw b1
  obtain ⟨u, eu, eu2⟩ := IsPart.raw b2
  obtain ⟨s, es, es2⟩ := IsPart.raw b3
  subst el eu es
  generalize hz5 : ({ z4 with heap := z4.heap.push { cls := .type "slice", data := .fields #[partValue l, partValue u, partValue s] } } : Shared) = z5
  have I5 : Inv X ps σ G4 z5 := by
    rw [← hz5]
    exact I4.kept (t' := z4.toks) fun b ob f => Heap.get?_push_of_some _ f
  have isS : z5.heap.IsSlice z4.heap.objs.size l u s := by
    rw [← hz5]
    exact ⟨_, Heap.get?_push_size _ rfl, rfl, rfl⟩
  have goal : wpAny (model X.prog X.w) X.A (subscriptTail a (.Slice none none (some (.UnaryOp .USub (.Constant (.int 1) k p1) p2)) p3) (.str z t) (.ref z4.heap.objs.size)) (EP X ps σ Q) X.xe z5 := by
    refine tail_any (ops := [.str z t, .ref z4.heap.objs.size]) (typeIs_str _ _ _) F.slot_str_getitem.lookup ?_ (by with_unfolding_all rfl)
    refine wpAny_getItem_str_slice isS (by rw [es2]; rfl) ?_
    have e7 : sliceMade z t l u s = Made.str ⟨z.cps.toList.reverse.toArray⟩ := by
      unfold sliceMade slicePicked
      rw [es2, el2, eu2]
      rw [if_neg (by simp)]
      rw [← turned_text z]
      rfl
    rw [e7]
    refine ⟨?_, .str _, _, I5.tok _, ⟨_, rfl⟩, q⟩
    show z.cps.toList.reverse.toArray.size ≤ sizeLine
    rw [List.size_toArray, List.length_reverse, Array.length_toList]
    exact few
  exact goal
theorem px_revS {x : List Nat} (ha : PX X Γ a (.is x)) (few : x.length ≤ sizeLine) : PX X Γ (.Subscript a (.Slice none none (some (.UnaryOp .USub (.Constant (.int 1) k p1) p2)) p3) pos) (.is x.reverse) :=
  ⟨fun B ρ σ H h Q q => goE (pe_revS peW) (ha.run B ρ σ H h _ fun v G e1 h1 => by
    have ev := topTx h1
    injection ev with ev
    subst ev
    refine ⟨mkS x, rfl, by rw [mkS_length]; exact few, ?_⟩
    exact q _ G e1 (h1.pop.push (s := .is x.reverse) (fun r => apart_is r) fun _ _ _ => ⟨_, rfl, rfl⟩))⟩
end
end DX
/-! DX13: exceptions over data: what a def raises, what is caught. -/
namespace DX
open PySem PySem.Spec PyProof.Rows L2
open DEnc (encD)

/-! ### a slot that no name of the text has -/
theorem inv_ghost {X : Cx} {pins : List (Addr × Obj)} {σ : L2.St} {H : Hp} {s : Shared} {g : Nat} {y : Str} (I : L2.Inv X pins σ H s) (hN : X.N[g]? = some y) (hv : X.env.scope.names.lookup y = none) (o : Option V) : L2.Inv X pins (σ.set g o) H s := by
  refine ⟨I.ok, I.os, I.bare, I.base, ?_, I.cell, I.free, I.freeC, I.pin, I.hok, by simp [I.len]⟩
  obtain ⟨m, hn, h⟩ := I.loc
  refine ⟨m, hn, fun i x v e1 e2 vis => ?_⟩
  by_cases c : i = g
  · subst c
    rw [hN] at e1
    injection e1 with e1
    subst e1
    rcases vis with z | z | z <;> (rw [hv] at z; cases z)
  · rw [List.getElem?_set_ne (Ne.symm c)] at e2
    exact h i x v e1 e2 vis
theorem wC_ghost {X : Cx} {g : Nat} {y : Str} {o : Option V} {b : List Stmt} {k : List (List Stmt)} {D : Ends} {σ : L2.St} {H : Hp} (hN : X.N[g]? = some y) (hv : X.env.scope.names.lookup y = none) (h : wC X (b :: k) D (σ.set g o) H) : wC X (b :: k) D σ H :=
  fun pins s I => h pins s (inv_ghost I hN hv o)

/-! ### errors as data -/
inductive Pay where
  | no
  | int (f : Str) (i : Int)
  | txt (f : Str) (x : List Nat)
structure PErr where
  nm : Str
  pay : Pay
abbrev Res (α : Type) := Except PErr α
def payOk (H : Hp) (d : Option Addr) : Pay → Prop
  | .no => d = none
  | .int f i => ∃ a, d = some a ∧ H a = some (.xd [(f, .int i)])
  | .txt f x => ∃ a, d = some a ∧ H a = some (.xd [(f, .str (mkS x))])
theorem payOk.mono {H H' : Hp} {d : Option Addr} {p : Pay} (e : Ex H H') (h : payOk H d p) : payOk H' d p := by
  cases p with
  | no => exact h
  | int f i => obtain ⟨a, h1, h2⟩ := h; exact ⟨a, h1, e _ _ h2⟩
  | txt f i => obtain ⟨a, h1, h2⟩ := h; exact ⟨a, h1, e _ _ h2⟩
def IsErr (mg : Str → Option Value) (H : Hp) (cls : Value) (d : Option Addr) (e : PErr) : Prop := mg e.nm = some cls ∧ payOk H d e.pay
theorem IsErr.mono {mg : Str → Option Value} {H H' : Hp} {cls : Value} {d : Option Addr} {e : PErr} (x : Ex H H') (h : IsErr mg H cls d e) : IsErr mg H' cls d e := ⟨h.1, h.2.mono x⟩

/-! ### a def that may raise -/
def spX {ι R : Type} (K : PySem.W.Frag) (mg : Str → Option Value) (pre : ι → Prop) (args : ι → List Sl) (res : R → Sl) (m : ι → Res R) : Sp := fun vs H Q E => ∃ (Hd0 : Hp) (i : ι), Ex Hd0 H ∧ pre i ∧ vs.length = (args i).length ∧ (∀ p ∈ (vs.map some).zip (args i), SlotOk K H Hd0 H p.1 p.2 ∧ ∀ q, apart p q) ∧
  match m i with
  | .ok r => ∀ v H' Hd', Ex Hd0 Hd' → Ex Hd' H' → Ex H H' → (∀ a, Hd0 a = none → H a ≠ none → Hd' a = none) → ResOk K H Hd' H' (some v) (res r) → Q v H'
  | .error e => ∀ cls d H', Ex H H' → IsErr mg H' cls d e → E cls d H'
structure DefOkX (P : Program) (w : World) (K : PySem.W.Frag) (mg : Str → Option Value) (base : Heap) (k : Nat) (x : Str) (n : Nat) (sp : Sp) : Prop where
  ex : ∃ (f : Addr) (fd : FuncData) (ps : List Str), FnOk P w K mg base (L2.CX P w) k f fd ps sp ∧ mg x = some (.ref f) ∧ PySem.W.keepIn K (.ref f) = true ∧ Binds K fd ps [] ∧ ps.length = n

section
variable {X : Cx} {Γ : List Sl} {e a b c : Expr} {es : List Expr} {s : Sl} {ss : List Sl} {pos p apos cpos p2 p3 : Pos}
theorem px_callX {ι R : Type} {k : Nat} {x : Str} {n : Nat} {pre : ι → Prop} {args : ι → List Sl} {res : R → Sl} {m : ι → Res R} {r : R} (F : DefOkX X.prog X.w X.K X.mg X.base k x n (spX X.K X.mg pre args res m)) (i : ι) (hp : pre i) (hm0 : m i = .ok r) (hr : Room k X.A)
    (ha : AX X Γ (e :: es) ss) (fit : Fits ss (args i)) (hg : Gl X x := by rfl) (hdb : (x == ("__debug__" : Str)) = false := by decide) (he : starEach (e :: es) X.env = (false, eval e X.env) :: starEach es X.env := by rfl) (hpl : (backTo pos (starEach es X.env)).any (·.1) = false := by rfl)
    {s0 : Sl} (hs0 : res r = s0 := by rfl) : PX X Γ (.Call (.Name x p) (e :: es) [] pos) s0 := by
  subst hs0
  obtain ⟨f, fd, ps, F, hm, hk, hb, _⟩ := F.ex
  refine ⟨fun B ρ σ H h Q q => goE (pe_callS (E := WE fun _ _ _ _ => False) F hr hg hm hk hb (fun σ => passAt takes0 σ) paW hdb he hpl) (ha.run B ρ σ H h _ fun vs H1 e1 l h1 => ?_)⟩
  obtain ⟨zl, Hd, z1, z2, z3, z4, z5, z6⟩ := id h1
  refine ⟨Hd, i, z2, hp, l.trans fit.len, fit.ok z2 fun r hr => z5 r (List.mem_append_left _ (pushAll_mem (.inl hr))), ?_⟩
  rw [hm0]
  refine fun v H' Hd' f1 f2 f3 f4 f5 => q v H' (e1.trans f3) ?_
  refine drop_mid (vs := vs) (ss := ss) ⟨zl, Hd', z1.trans f1, f2, z3.trans f3, fun a' b1 b2 => ?_, fun r hr => ?_, ?_⟩
  · have c : H1 a' ≠ none := fun c => b2 (z3.back c)
    exact f4 a' (z4 a' b1 b2) c
  · rcases List.mem_cons.mp hr with c | c
    · rw [c]
      show SlotOk X.K B.2 Hd' H' (some v) (res _)
      revert f5
      generalize res _ = rs
      intro f5
      cases rs with
      | no => trivial
      | is y => exact f5.1
      | bor y => exact f5.1
      | arg y => exact f5.2.elim
      | ownA c y => exact f5.2.elim
      | gen fp Φ => exact f5.2.elim
      | own y =>
        obtain ⟨a', ws, g1, g2, g3, g4, g5⟩ := f5.1
        exact ⟨a', ws, g1, z3.back g2, g3, g4, g5⟩
    · exact (z5 r c).mono f1 f3 fun a' b1 b2 => f4 a' b2 b1
  · refine List.pairwise_cons.mpr ⟨fun r hr a' o1 o2 => ?_, z6⟩
    revert f5 o1
    generalize res _ = rs
    intro f5 o1
    cases rs with
    | no => exact o1.elim
    | is y => exact o1.elim
    | bor y => exact o1.elim
    | arg y => exact o1.elim
    | ownA c y => exact f5.2.elim
    | gen fp Φ => exact f5.2.elim
    | own y =>
      obtain ⟨b', ws, g1, g2, g3, g4, g5⟩ := f5.1
      have o1 : some v = some (V.ref a') := o1
      have g1 : some v = some (V.ref b') := g1
      rw [o1] at g1
      injection g1 with g1
      injection g1 with g1
      subst g1
      exact owns_ne (z5 r hr) o2 g2 rfl
theorem callXV {ι R : Type} {k : Nat} {x : Str} {n : Nat} {pre : ι → Prop} {args : ι → List Sl} {res : R → Sl} {m : ι → Res R} {r : R} (F : DefOkX X.prog X.w X.K X.mg X.base k x n (spX X.K X.mg pre args res m)) (i : ι) (hp : pre i) (hm0 : m i = .ok r) (hr : Room k X.A)
    (ha : AX X Γ (e :: es) ss) (fit : FitsS ss (args i)) {α : Type} [Enc α] {z : α} {vz : V} (hz : IsV z vz) (hs0 : res r = .is z) (hg : Gl X x) (hdb : (x == ("__debug__" : Str)) = false) (he : starEach (e :: es) X.env = (false, eval e X.env) :: starEach es X.env) (hpl : (backTo pos (starEach es X.env)).any (·.1) = false)
    (B : Hp × Hp) (ρ : List Slot) (σ : L2.St) (H : Hp) (h : HasE X.K B H ρ σ Γ) (Q : VK) (q : ∀ H', Ex H H' → HasE X.K B H' ρ σ Γ → Q vz H') : wE X (.Call (.Name x p) (e :: es) [] pos) σ H Q := by
  obtain ⟨f, fd, ps, F, hm, hk, hb, _⟩ := F.ex
  refine goE (pe_callS (E := WE fun _ _ _ _ => False) F hr hg hm hk hb (fun σ => passAt takes0 σ) paW hdb he hpl) (ha.run B ρ σ H h _ fun vs H1 e1 l h1 => ?_)
  obtain ⟨zl, Hd, z1, z2, z3, z4, z5, z6⟩ := id h1
  refine ⟨H1, i, Ex.refl _, hp, l.trans fit.len, fit.ok z2 fun r hr => z5 r (List.mem_append_left _ (pushAll_mem (.inl hr))), ?_⟩
  rw [hm0]
  refine fun v H' Hd' f1 f2 f3 f4 f5 => ?_
  have f5 := f5.1
  rw [hs0] at f5
  obtain ⟨w, g1, g2⟩ := f5
  injection g1 with g1
  subst g1
  have := hz _ _ _ g2
  subst this
  exact q H' (e1.trans f3) (h1.popAll.grow f3)
theorem px_callXS {ι R : Type} {k : Nat} {x : Str} {n : Nat} {pre : ι → Prop} {args : ι → List Sl} {res : R → Sl} {m : ι → Res R} {r : R} {α : Type} [Sc α] {z : α} (F : DefOkX X.prog X.w X.K X.mg X.base k x n (spX X.K X.mg pre args res m)) (i : ι) (hp : pre i) (hm0 : m i = .ok r) (hr : Room k X.A)
    (ha : AX X Γ (e :: es) ss) (fit : FitsS ss (args i)) (hs0 : res r = .is z := by rfl) (hg : Gl X x := by rfl) (hdb : (x == ("__debug__" : Str)) = false := by decide) (he : starEach (e :: es) X.env = (false, eval e X.env) :: starEach es X.env := by rfl) (hpl : (backTo pos (starEach es X.env)).any (·.1) = false := by rfl) :
    PX X Γ (.Call (.Name x p) (e :: es) [] pos) (.is z) :=
  ⟨fun B ρ σ H h Q q => callXV F i hp hm0 hr ha fit (isV_sc z) hs0 hg hdb he hpl B ρ σ H h Q fun H' e' h' => q _ H' e' (h'.pushSc z)⟩
theorem px_callXT {ι R : Type} {k : Nat} {x : Str} {n : Nat} {pre : ι → Prop} {args : ι → List Sl} {res : R → Sl} {m : ι → Res R} {r : R} {z : List Nat} (F : DefOkX X.prog X.w X.K X.mg X.base k x n (spX X.K X.mg pre args res m)) (i : ι) (hp : pre i) (hm0 : m i = .ok r) (hr : Room k X.A)
    (ha : AX X Γ (e :: es) ss) (fit : FitsS ss (args i)) (hs0 : res r = .is z := by rfl) (hg : Gl X x := by rfl) (hdb : (x == ("__debug__" : Str)) = false := by decide) (he : starEach (e :: es) X.env = (false, eval e X.env) :: starEach es X.env := by rfl) (hpl : (backTo pos (starEach es X.env)).any (·.1) = false := by rfl) :
    PX X Γ (.Call (.Name x p) (e :: es) [] pos) (.is z) :=
  ⟨fun B ρ σ H h Q q => callXV F i hp hm0 hr ha fit (isV_tx z) hs0 hg hdb he hpl B ρ σ H h Q fun H' e' h' => q _ H' e' (pushTx z h')⟩

/-! ### what raises -/
structure PXr (X : Cx) (W : L2.WX) (Γ : List Sl) (e : Expr) (err : PErr) : Prop where
  run : ∀ (B : Hp × Hp) (ρ : List Slot) (σ : L2.St) (H : Hp), HasE X.K B H ρ σ Γ → (∀ cls d H', Ex H H' → IsErr X.mg H' cls d err → W cls d σ H') → ∀ Q : VK, wE X e σ H Q
structure AXr (X : Cx) (W : L2.WX) (Γ : List Sl) (es : List Expr) (err : PErr) : Prop where
  run : ∀ (B : Hp × Hp) (ρ : List Slot) (σ : L2.St) (H : Hp), HasE X.K B H ρ σ Γ → (∀ cls d H', Ex H H' → IsErr X.mg H' cls d err → W cls d σ H') → ∀ Q : List V → Hp → Prop, wA X es σ H Q
variable {W : L2.WX} {err : PErr}
theorem pxr_call {ι R : Type} {k : Nat} {x : Str} {n : Nat} {pre : ι → Prop} {args : ι → List Sl} {res : R → Sl} {m : ι → Res R} (tk : Takes X W) (F : DefOkX X.prog X.w X.K X.mg X.base k x n (spX X.K X.mg pre args res m)) (i : ι) (hp : pre i) (hm0 : m i = .error err) (hr : Room k X.A)
    (ha : AX X Γ (e :: es) ss) (fit : FitsS ss (args i)) (hg : Gl X x := by rfl) (hdb : (x == ("__debug__" : Str)) = false := by decide) (he : starEach (e :: es) X.env = (false, eval e X.env) :: starEach es X.env := by rfl) (hpl : (backTo pos (starEach es X.env)).any (·.1) = false := by rfl) :
    PXr X W Γ (.Call (.Name x p) (e :: es) [] pos) err := by
  obtain ⟨f, fd, ps, F, hm, hk, hb, _⟩ := F.ex
  refine ⟨fun B ρ σ H h w Q => goE (pe_callS (E := WE W) F hr hg hm hk hb (fun σ => passAt tk σ) paW hdb he hpl) (ha.run B ρ σ H h _ fun vs H1 e1 l h1 => ?_)⟩
  obtain ⟨zl, Hd, z1, z2, z3, z4, z5, z6⟩ := id h1
  refine ⟨H1, i, Ex.refl _, hp, l.trans fit.len, fit.ok z2 fun r hr => z5 r (List.mem_append_left _ (pushAll_mem (.inl hr))), ?_⟩
  rw [hm0]
  exact fun cls d H' ex ie => w cls d H' (e1.trans ex) ie
theorem axr_head (h : PXr X W Γ e err) (hs : starEach (e :: es) X.env = (false, eval e X.env) :: starEach es X.env := by rfl) : AXr X W Γ (e :: es) err :=
  ⟨fun B ρ σ H h' w Q => goA (pa_cons peW paW hs) (h.run B ρ σ H h' w _)⟩
theorem axr_tail (h : PX X Γ e s) (t : AXr X W Γ es err) (hs : starEach (e :: es) X.env = (false, eval e X.env) :: starEach es X.env := by rfl) : AXr X W Γ (e :: es) err :=
  ⟨fun B ρ σ H h' w Q => goA (pa_cons peW paW hs) (h.run B ρ σ H h' _ fun v H1 e1 h1 => t.run B _ σ H1 h1 (fun cls d H' ex ie => w cls d H' (e1.trans ex) ie) _)⟩
theorem pxr_tup {x1} (h : AXr X W Γ es err) : PXr X W Γ (.Tuple es x1 pos) err := ⟨fun B ρ σ H h' w Q => goE (pe_tup paW) (h.run B ρ σ H h' w _)⟩
theorem pxr_ix (ha : PX X Γ a s) (hb : PXr X W Γ b err) (hs : PlainIx b := by exact fun _ _ => rfl) : PXr X W Γ (.Subscript a b pos) err :=
  ⟨fun B ρ σ H h' w Q => goE (pe_ix ix_str peW peW hs) (ha.run B ρ σ H h' _ fun v H1 e1 h1 => hb.run B _ σ H1 h1 (fun cls d H' ex ie => w cls d H' (e1.trans ex) ie) _)⟩
theorem pxr_args {ι : Type} {k : Nat} {x : Str} {n : Nat} {pre : ι → Prop} {args : ι → List Sl} {res : ι → Sl} (F : DefOk X.prog X.w X.K X.mg X.base k x n (spD X.K pre args res)) (hr : Room k X.A)
    (ha : AXr X W Γ (e :: es) err) (hg : Gl X x := by rfl) (hdb : (x == ("__debug__" : Str)) = false := by decide) (he : starEach (e :: es) X.env = (false, eval e X.env) :: starEach es X.env := by rfl) (hpl : (backTo pos (starEach es X.env)).any (·.1) = false := by rfl)
    (hx : Passes CX0 X E0 := by exact pass0) : PXr X W Γ (.Call (.Name x p) (e :: es) [] pos) err := by
  obtain ⟨f, fd, ps, F, hm, hk, hb, _⟩ := F.ex
  exact ⟨fun B ρ σ H h w Q => goE (pe_call F hr hg hm hk hb .nil hx paW hdb he hpl) (ha.run B ρ σ H h w _)⟩
theorem pxr_argsX {ι R : Type} {k : Nat} {x : Str} {n : Nat} {pre : ι → Prop} {args : ι → List Sl} {res : R → Sl} {m : ι → Res R} (F : DefOkX X.prog X.w X.K X.mg X.base k x n (spX X.K X.mg pre args res m)) (hr : Room k X.A)
    (ha : AXr X W Γ (e :: es) err) (hg : Gl X x := by rfl) (hdb : (x == ("__debug__" : Str)) = false := by decide) (he : starEach (e :: es) X.env = (false, eval e X.env) :: starEach es X.env := by rfl) (hpl : (backTo pos (starEach es X.env)).any (·.1) = false := by rfl) :
    PXr X W Γ (.Call (.Name x p) (e :: es) [] pos) err := by
  obtain ⟨f, fd, ps, F, hm, hk, hb, _⟩ := F.ex
  exact ⟨fun B ρ σ H h w Q => goE (pe_callS (E := WE fun _ _ _ _ => False) F hr hg hm hk hb (fun σ => passAt takes0 σ) paW hdb he hpl) (ha.run B ρ σ H h w _)⟩
end

/-! ### leaves that know of errors -/
def LX (K : PySem.W.Frag) (mg : Str → Option Value) {R : Type} (res : R → Sl) (W : L2.WX) : Leaf (Res R) := fun B m D _ => match m with
  | .ok r => ∀ v H', RetE K B H' v (res r) → D.rt v H'
  | .error e => ∀ cls d σ H', Ex B.2 H' → IsErr mg H' cls d e → W cls d σ H'
def LOutG (K : PySem.W.Frag) {S R : Type} (Γf : S → List Sl) (L0 : Leaf R) : Leaf (Out S R) := fun B m D ρ => match m with
  | .go s => (∀ σ' H', HasE K B H' ρ σ' (Γf s) → D.nx σ' H') ∧ (∀ σ' H', HasE K B H' ρ σ' (Γf s) → D.ct σ' H')
  | .brk s => ∀ σ' H', HasE K B H' ρ σ' (Γf s) → D.bk σ' H'
  | .ret r => L0 B r D ρ
/-- what is returned goes to L0 -/
def Rts {M R : Type} (L : Leaf M) (L0 : Leaf R) (mr : R → M) : Prop := ∀ B r (D D' : Ends) ρ ρ', D'.rt = D.rt → L B (mr r) D ρ → L0 B r D' ρ'
def Errs (mg : Str → Option Value) {M : Type} (L : Leaf M) (W : L2.WX) (me : PErr → M) : Prop := ∀ B e D ρ, L B (me e) D ρ → ∀ cls d σ H', Ex B.2 H' → IsErr mg H' cls d e → W cls d σ H'
theorem rts_X {K : PySem.W.Frag} {mg : Str → Option Value} {R : Type} {res : R → Sl} {W : L2.WX} : Rts (LX K mg res W) (LX K mg res W) (fun r => r) := fun B r D D' ρ ρ' h l => by
  cases r with
  | ok r =>
    intro v H' q
    rw [h]
    exact l v H' q
  | error e => exact l
theorem rts_D {K : PySem.W.Frag} {R : Type} {res : R → Sl} : Rts (LRet K res) (LRet K res) (fun r => r) := fun B r D D' ρ ρ' h l => by
  intro v H' q
  rw [h]
  exact l v H' q
theorem rts_out {K : PySem.W.Frag} {S R : Type} {Γf : S → List Sl} {L0 : Leaf R} (h : Rts L0 L0 (fun r => r)) : Rts (LOutG K Γf L0) L0 Out.ret := fun B r D D' ρ ρ' e l => h B r D D' ρ ρ' e l
theorem rets_X {K : PySem.W.Frag} {mg : Str → Option Value} {R : Type} {res : R → Sl} {W : L2.WX} : Rets K (LX K mg res W) res Except.ok := fun B r D ρ h => h
theorem rets_outG {K : PySem.W.Frag} {S R M : Type} {Γf : S → List Sl} {L0 : Leaf M} {res : R → Sl} {mr : R → M} (h : Rets K L0 res mr) : Rets K (LOutG K Γf L0) res (fun r => Out.ret (mr r)) := fun B r D ρ l => h B r D ρ l
theorem errs_X {K : PySem.W.Frag} {mg : Str → Option Value} {R : Type} {res : R → Sl} {W : L2.WX} : Errs mg (LX K mg res W) W Except.error := fun B e D ρ l => l
theorem errs_outG {K : PySem.W.Frag} {mg : Str → Option Value} {S M : Type} {Γf : S → List Sl} {L0 : Leaf M} {W : L2.WX} {me : PErr → M} (h : Errs mg L0 W me) : Errs mg (LOutG K Γf L0) W (fun e => Out.ret (me e)) := fun B e D ρ l => h B e D ρ l
def exK {R M : Type} (Y : Res R) (f : PErr → M) (g : R → M) : M := match Y with
  | .error e => f e
  | .ok r => g r
theorem HasE.exB {K : PySem.W.Frag} {B : Hp × Hp} {H : Hp} {ρ : List Slot} {σ : L2.St} {Γ : List Sl} (h : HasE K B H ρ σ Γ) : Ex B.2 H := by
  obtain ⟨_, _, _, _, z, _⟩ := h
  exact z

section
variable {X : Cx} {M : Type} {L : Leaf M} {Γ Γ' : List Sl} {k : List (List Stmt)} {m : M} {st : Stmt} {sts : List Stmt} {e a b c tg iter : Expr} {es : List Expr} {pos p p' p2 apos cpos : Pos} {s : Sl} {W : L2.WX} {err : PErr} {me : PErr → M}
theorem sx_exc {R : Type} {Y : Res R} {f : PErr → M} {g : R → M} (h1 : ∀ e, Y = .error e → SX X L Γ k (f e)) (h2 : ∀ r, Y = .ok r → SX X L Γ k (g r)) : SX X L Γ k (exK Y f g) := by
  unfold exK
  cases hY : Y with
  | error e => exact h1 e hY
  | ok r => exact h2 r hY
theorem sx_retX (hE : Errs X.mg L W me) (he : PXr X W Γ e err) : SX X L Γ ((.Return (some e) pos :: sts) :: k) (me err) :=
  ⟨fun B ρ σ H D hb h l => wC_cons (go1 (ps_ret peW) (he.run B ρ σ H h (fun cls d H' ex ie => hE B err D ρ l cls d σ H' (h.exB.trans ex) ie) _))⟩
theorem sx_exprX (hE : Errs X.mg L W me) (he : PXr X W Γ e err) (hs : swapsWith e none pos.line X.env = pure false := by rfl) : SX X L Γ ((.Expr e pos :: sts) :: k) (me err) :=
  ⟨fun B ρ σ H D hb h l => wC_cons (go1 (ps_expr peW hs) (he.run B ρ σ H h (fun cls d H' ex ie => hE B err D ρ l cls d σ H' (h.exB.trans ex) ie) _))⟩
theorem sx_setX {y : Str} (i : Nat) (hE : Errs X.mg L W me) (he : PXr X W Γ e err) (hN : X.N.Nodup) (hi : X.N[i]? = some y := by rfl) (hx : Loc X.env.scope y := by first | exact Or.inl rfl | exact Or.inr rfl)
    (hs : swapsWith e (some (.Name y p')) pos.line X.env = pure false := by rfl) (hf : X.fn y = true ∨ X.env.scope.names.lookup y = some .local := by first | exact .inl rfl | exact .inr rfl) : SX X L Γ ((.Assign [.Name y p'] e pos :: sts) :: k) (me err) :=
  ⟨fun B ρ σ H D hb h l => wC_cons (go1 (ps_set hN hi hx peW hs hf) (he.run B ρ σ H h (fun cls d H' ex ie => hE B err D ρ l cls d σ H' (h.exB.trans ex) ie) _))⟩
/-- a class that may be raised: what the text's facts say of it -/
structure EC (K : PySem.W.Frag) (mg : Str → Option Value) (x : Str) (C : Addr) : Prop where
  gC : mg x = some (.ref C)
  kC : PySem.W.keepIn K (.ref C) = true
  b : PySem.W.subIn K (.ref C) (.type "BaseException") = some true
  t : PySem.W.typeIn K (.ref C) = some (.type "type")
structure EC0 (K : PySem.W.Frag) (mg : Str → Option Value) (x : Str) (C : Addr) : Prop extends EC K mg x C where
  q : PySem.W.excIn K C [.type "ValueError", .type "Exception", .type "BaseException", .type "object"] "ValueError.__new__" = true
theorem sx_raise0 {x m0 : Str} {C : Addr} {j : Nat} (hE : Errs X.mg L W me) (tk : Takes X W) (c : EC0 X.K X.mg x C) (hc : X.calm = true := by rfl) (hg : Gl X x := by rfl) (hdb : (x == ("__debug__" : Str)) = false := by decide) :
    SX X L Γ ((.Raise (some (.Call (.Name x p) [.Constant (.str m0) j p2] [] cpos)) none pos :: sts) :: k) (me ⟨x, .no⟩) :=
  ⟨fun B ρ σ H D hb h l => wC_cons (go1 (ps_raise hc tk (pmk_own PySem.F.excBase_ValueError c.q c.gC c.kC (raises_own c.b c.t) hg hdb)) (hE B ⟨x, .no⟩ D ρ l _ _ σ H h.exB ⟨c.gC, rfl⟩))⟩

/-! ### loops in such a def -/
theorem sx_endG {S R : Type} {Γf : S → List Sl} {L0 : Leaf R} {s : S} (w : Wk Γ (Γf s)) : SX X (LOutG X.K Γf L0) Γ [] (.go s) := ⟨fun B ρ σ H D hb h l => l.1 σ H (h.weak w)⟩
theorem sx_contG {S R : Type} {Γf : S → List Sl} {L0 : Leaf R} {s : S} (w : Wk Γ (Γf s)) : SX X (LOutG X.K Γf L0) Γ ((.Continue pos :: sts) :: k) (.go s) := ⟨fun B ρ σ H D hb h l => wC_cons (go1 ps_continue (l.2 σ H (h.weak w)))⟩
theorem sx_brkG {S R : Type} {Γf : S → List Sl} {L0 : Leaf R} {s : S} (w : Wk Γ (Γf s)) : SX X (LOutG X.K Γf L0) Γ ((.Break pos :: sts) :: k) (.brk s) := ⟨fun B ρ σ H D hb h l => wC_cons (go1 ps_break (l σ H (h.weak w)))⟩
theorem sx_forG {S R α : Type} [Enc α] {xs : List α} {P : Prop} {body : List Stmt} {mm : S → M} {mr : R → M} {L0 : Leaf R} (j : Nat) (Γf : S → List Sl) (step : S → α → Out S R) (s0 : S) (I : Nat → S → Prop) (hi : IX X Γ tg iter xs P) (hg : PG X tg (gName j)) (hst : Wk Γ (Γf s0)) (h0 : I 0 s0)
    (hbd : ∀ (i : Nat) (s : S) (x : α), xs[i]? = some x → I i s → SX X (LOutG X.K Γf L0) ((Γf s).set j (.is x)) [body] (step s x))
    (hI : ∀ (i : Nat) (s : S) (x : α) (s' : S), xs[i]? = some x → I i s → step s x = .go s' → I (i + 1) s')
    (hret : Rts L L0 mr) (hrest : ∀ s, (forO step s0 xs = .go s ∧ I xs.length s ∨ forO step s0 xs = .brk s) → SX X L (Γf s) (sts :: k) (mm s))
    (hc : X.calm = true := by rfl) (hp : PassesOwn (model X.prog X.w) X.A X.env X.xe := by first | exact PassesOwn.never | exact PassesOwn.leaving) (hs : ∀ x, foldedSetIterable iter X.env x = pure x := by intro _; rfl) : SX X L Γ ((.For tg iter body [] pos :: sts) :: k) (forK step s0 xs mm mr) := by
  refine ⟨fun B ρ σ H D hb h l => wC_cons (go1 (ps_for hp hc piW hg pssW hs) ?_)⟩
  refine hi.run B ρ σ H h _ fun J H1 τ hP e1 hbt h1 hgo hstop => ?_
  have unτ : ∀ {τ : List Slot} {H' : Hp} {σ' : L2.St} {Γ' : List Sl}, HasE X.K B H' (τ ++ ρ) σ' Γ' → HasE X.K B H' ρ σ' Γ' := by
    intro τ
    induction τ with
    | nil => exact fun h => h
    | cons t τ ih => exact fun h => ih h.pop
  have hbρ : ∀ p ∈ τ ++ ρ, noBor p := fun p hp => (List.mem_append.mp hp).elim (hbt p) (hb p)
  refine ⟨fun i mm' σ' H' => mm' = xs.length - i ∧ i ≤ xs.length ∧ ∃ s, I i s ∧ forO step s0 xs = forO step s (xs.drop i) ∧ HasE X.K B H' (τ ++ ρ) σ' (Γf s), ⟨xs.length, by simp, Nat.zero_le _, s0, h0, rfl, h1.weak hst⟩, ?_⟩
  rintro i mm' σ' H' ⟨rfl, hin, s, hIs, hf, hh⟩
  by_cases hlt : i < xs.length
  · have hx : xs[i]? = some xs[i] := List.getElem?_eq_getElem hlt
    obtain ⟨g1, g2⟩ := hgo [] σ' (Γf s) H' i xs[i] hh hx
    rw [List.drop_eq_getElem_cons hlt] at hf
    refine .inr ⟨g1, fun σ2 H2 => ∃ s', I (i + 1) s' ∧ forO step s0 xs = forO step s' (xs.drop (i + 1)) ∧ HasE X.K B H2 (τ ++ ρ) σ2 (Γf s'), fun σ2 H2 ⟨s', a1, a2, a3⟩ => ⟨xs.length - (i + 1), by omega, rfl, hlt, s', a1, a2, a3⟩, fun v H2 y => ?_⟩
    obtain ⟨e3, k3⟩ := g2 v H2 y
    have hf' : forO step s0 xs = (match step s xs[i] with
      | .go s' => forO step s' (xs.drop (i + 1))
      | .brk s' => .brk s'
      | .ret r => .ret r) := hf
    refine (hbd i s xs[i] hx hIs).run B (τ ++ ρ) _ H2 { D with nx := fun σ2 H2 => ∃ s', I (i + 1) s' ∧ forO step s0 xs = forO step s' (xs.drop (i + 1)) ∧ HasE X.K B H2 (τ ++ ρ) σ2 (Γf s'), ct := fun σ2 H2 => ∃ s', I (i + 1) s' ∧ forO step s0 xs = forO step s' (xs.drop (i + 1)) ∧ HasE X.K B H2 (τ ++ ρ) σ2 (Γf s'), bk := fun σ' H' => wC X (sts :: k) D σ' H' } hbρ (HasE.set j k3) ?_
    cases q : step s xs[i] with
    | go s' =>
      rw [q] at hf'
      have hI' := hI i s xs[i] s' hx hIs q
      exact ⟨fun σ3 H3 h3 => ⟨s', hI', hf', h3⟩, fun σ3 H3 h3 => ⟨s', hI', hf', h3⟩⟩
    | brk s' =>
      rw [q] at hf'
      intro σ3 H3 h3
      refine (hrest s' (.inr hf')).run B ρ σ3 H3 D hb (unτ h3) ?_
      unfold forK at l
      rw [hf'] at l
      exact l
    | ret r =>
      rw [q] at hf'
      unfold forK at l
      rw [hf'] at l
      exact hret B r D _ ρ _ rfl l
  · have e : i = xs.length := by omega
    subst e
    rw [List.drop_length] at hf
    have hf' : forO step s0 xs = .go s := hf
    refine .inl ⟨hstop [] σ' (Γf s) H' hh, (hrest s (.inl ⟨hf', hIs⟩)).run B ρ σ' H' D hb (unτ hh) ?_⟩
    unfold forK at l
    rw [hf'] at l
    exact l

/-! ### try: body, except C as n: suite -/
/-- a caught exception, as a value -/
structure ExA where
  a : Addr
instance : Sc ExA := ⟨fun x => V.ref x.a⟩
theorem sx_try_as {R : Type} {x n : Str} {cV : Value} {i : Nat} {body suite : List Stmt} {b₀ : Stmt} {np pos' : Pos} {Y : Res R} {mo : R → M} {mh : PErr → M} (hN : X.N.Nodup) (hc : Names X x cV)
    (hL : Rts L L (fun r => r))
    (hok : ∀ r, Y = .ok r → ∀ pn xe, PassesOwn (model X.prog X.w) X.A X.env xe → SX (X.tr pn xe) L Γ [body] (mo r))
    (herr : ∀ e, Y = .error e → (∀ W pn xe, Takes (X.tr pn xe) W → PassesOwn (model X.prog X.w) X.A X.env xe → ∀ (B : Hp × Hp) (ρ : List Slot) (σ : L2.St) (H : Hp) (D : Ends), HasE X.K B H ρ σ Γ → (∀ cls d H', Ex H H' → IsErr X.mg H' cls d e → W cls d σ H') → wC (X.tr pn xe) [body] D σ H) ∧
      ∃ C : Addr, X.mg e.nm = some (.ref C) ∧ PySem.W.exmOne X.K (.ref C) cV = some true ∧
      ∀ (a : Addr) (oe : Obj) (d : Option Addr) (pn : List (Addr × Obj)), Zc (.ref C) d oe → (∃ vs, oe.data = .fields vs) → (e.pay = .no → d = none) → SX (X.suite a ((a, oe) :: pn)) L (Γ.set i (.is (ExA.mk a))) [b₀ :: suite] (mh e))
    (hi : X.N[i]? = some n := by rfl) (hln : X.env.kindOf n = some .local := by rfl) (hs : X.stack = X.env :: X.outer := by rfl) (hf : X.env.frame = some X.env.locals := by rfl) :
    SX X L Γ ((.Try body [.ExceptHandler (some (.Name x np)) (some n) (b₀ :: suite) pos'] [] [] pos :: sts) :: k) (exK Y mh mo) := by
  refine ⟨fun B ρ σ H D hb h l => wC_cons (go1 (ps_try_as (i := i) (Wout := fun _ _ _ _ => False) hs hf hN hi hln hc takes0
    (tb := fun W D σ H => ∀ pn xe, Takes (X.tr pn xe) W → PassesOwn (model X.prog X.w) X.A X.env xe → wS (X.tr pn xe) body D σ H)
    (ts := fun a cls d D σ H => ∀ oe pn, Zc cls d oe → (∃ vs, oe.data = .fields vs) → wS (X.suite a ((a, oe) :: pn)) (b₀ :: suite) D σ H)
    (fun W pn xe tk po => ⟨fun pins s σ H D I q => q pn xe tk po pins s I⟩) (fun a oe cls d pn hz hf => ⟨fun pins s σ H D I q => q oe pn hz hf pins s I⟩)) ?_)⟩
  intro pn xe tk po
  have end_ : ∀ {X' : Cx} {b : List Stmt} {D : Ends} {σ : L2.St} {H : Hp}, wC X' [b] D σ H → wS X' b D σ H := fun q => q
  unfold exK at l
  cases hY : Y with
  | ok r =>
    rw [hY] at l
    exact end_ ((hok r hY pn xe po).run B ρ σ H _ hb h (hL B (mo r) D _ ρ ρ rfl l))
  | error e =>
    rw [hY] at l
    obtain ⟨h1, C, g1, g2, h2⟩ := herr e hY
    refine end_ (h1 _ pn xe tk po B ρ σ H _ h fun cls d H' ex ie => ?_)
    have ec : cls = .ref C := by
      have := ie.1
      rw [g1] at this
      injection this with this
      exact this.symm
    subst ec
    refine ⟨true, g2, fun _ a na oe pn' hz hf' => ?_, fun z => nomatch z⟩
    refine end_ ((h2 a oe d pn' hz hf' (fun e0 => by
      have := ie.2
      rw [e0] at this
      exact this)).run B ρ _ H' _ hb (HasE.set i ((h.grow ex).pushSc (ExA.mk a))) (hL B (mh e) D _ ρ ρ rfl l))
/-- the body's one statement: return e, where e raises -/
theorem tr_ret (he : ∀ W pn xe, Takes (X.tr pn xe) W → PXr (X.tr pn xe) W Γ e err) : ∀ W pn xe, Takes (X.tr pn xe) W → PassesOwn (model X.prog X.w) X.A X.env xe → ∀ (B : Hp × Hp) (ρ : List Slot) (σ : L2.St) (H : Hp) (D : Ends), HasE X.K B H ρ σ Γ → (∀ cls d H', Ex H H' → IsErr X.mg H' cls d err → W cls d σ H') → wC (X.tr pn xe) [[.Return (some e) pos]] D σ H :=
  fun W pn xe tk po B ρ σ H D h w => wC_cons (go1 (ps_ret peW) ((he W pn xe tk).run B ρ σ H h w _))

/-! ### isinstance(e, ..) of a caught exception -/
/-- a class, as a value -/
structure ClA where
  v : V
instance : Sc ClA := ⟨fun x => x.v⟩
theorem px_cls {y : Str} {C : Addr} (hm : X.mg y = some (.ref C)) (hg : Gl X y := by rfl) (hd : (y == ("__debug__" : Str)) = false := by decide) : PX X Γ (.Name y p) (.is (ClA.mk (.ref C))) :=
  ⟨fun B ρ σ H h Q q => goE (pe_glob (v := .ref C) hg hm rfl hd) (q _ H (Ex.refl H) (h.pushSc (ClA.mk (.ref C))))⟩
theorem px_clsB {y : Str} {T : String} (hm : X.mg y = none) (hv : bootBuiltins y = some (.type T)) (hg : Gl X y := by rfl) (hn : y ≠ "__name__" := by decide) (hd : (y == ("__debug__" : Str)) = false := by decide) : PX X Γ (.Name y p) (.is (ClA.mk (.ty T))) :=
  ⟨fun B ρ σ H h Q q => goE (pe_bltn (v := .ty T) hg hm hv rfl hn hd) (q _ H (Ex.refl H) (h.pushSc (ClA.mk (.ty T))))⟩
theorem px_isE {a0 D : Addr} {oe : Obj} {pn : List (Addr × Obj)} {cv : Value} {c : V} {z : Bool} (C : ExcC X.K D) (hz : Zc (.ref D) none oe) (hf : ∃ vs, oe.data = .fields vs) (ha : PX (X.suite a0 ((a0, oe) :: pn)) Γ a (.is (ExA.mk a0))) (hb : PX (X.suite a0 ((a0, oe) :: pn)) Γ b (.is (ClA.mk c)))
    (hcv : ∀ u, RelV c u → u = cv) (hk : PySem.W.kitOne X.K (.ref D) cv = some z) (hm : X.mg "isinstance" = none) (hg : Gl X "isinstance" := by rfl)
    (he : starEach [a, b] X.env = (false, eval a X.env) :: starEach [b] X.env := by rfl) (he2 : starEach [b] X.env = (false, eval b X.env) :: starEach [] X.env := by rfl) (hpl : (backTo pos (starEach [b] X.env)).any (·.1) = false := by rfl) :
    PX (X.suite a0 ((a0, oe) :: pn)) Γ (.Call (.Name "isinstance" p) [a, b] [] pos) (.is z) :=
  px_B z (call_isE C hz hf) hm PyProof.Rows.boot_isinstance (ax_cons ha (ax_cons hb ax_nil he2) he) (fun B ρ σ H vs Q l h q => by
    obtain ⟨v, w, rfl⟩ := two_of l
    have e := h.topSc
    have e2 := h.swap.topSc
    injection e with e
    injection e2 with e2
    subst e e2
    exact ⟨_, cv, z, rfl, hcv, hk, q⟩) hg (by decide) (by decide) he hpl
end
end DX
/-! DX14: data as it stands now; a tuple of a text and a list of one's own; isinstance of a caught exception by a tuple of classes. -/
namespace DX
open PySem PySem.Spec PyProof.Rows L2
open DEnc (encD)

section
variable {X : Cx} {Γ : List Sl} {e a b c : Expr} {es : List Expr} {s : Sl} {ss : List Sl} {pos p p1 p2 p3 apos cpos : Pos}
/-! ### isinstance(e, (C1, C2, ..)) -/
theorem call_isET {a0 D : Addr} {oe : Obj} {pn : List (Addr × Obj)} (C : ExcC X.K D) (hz : Zc (.ref D) none oe) (hf : ∃ vs, oe.data = .fields vs) : CallR (X.suite a0 ((a0, oe) :: pn)) (.builtin "isinstance")
    (fun xs H Q => ∃ (tp : Addr) (cs : List V) (us : List Value) (b : Bool), xs = [.ref a0, .ref tp] ∧ H tp = some (.tup cs) ∧ Paired ClsV cs us ∧ PySem.W.kitAny X.K (.ref D) us = some b ∧ Q (.bl b) H) := by
  intro pins s σ H xs us Q I r h
  obtain ⟨tp, cs, ws, b, rfl, hT, k, e, q⟩ := h
  obtain ⟨u1, u2, rfl, r1, r2⟩ := vals2 r
  cases (show u1 = Value.ref a0 from r1)
  cases (show u2 = Value.ref tp from r2)
  obtain ⟨hget, _⟩ := I.pin (a0, oe) (List.mem_append.mpr (.inl List.mem_cons_self))
  obtain ⟨vs, hv⟩ := hf
  have J : PySem.W.InstAt s.heap a0 oe D none := by
    obtain ⟨oc, od, oda, osl⟩ := oe
    obtain ⟨h1, h2⟩ := hz
    dsimp only at h1 h2 hv
    subst h1 h2 hv
    exact ⟨hget, rfl, rfl, trivial⟩
  obtain ⟨_, its, rv, o, h1, h2, n, h3⟩ := (show ObjOk X.prog X.w H s.heap tp (.tup cs) from I.hok tp _ hT)
  have e3 := ClsV.all k rv
  subst e3
  obtain ⟨oc, od, dt, sl⟩ := o
  simp only at h2 h3
  subst h2 h3
  exact PySem.W.kia_tup (PySem.W.handS_kitx_exc C.hg C.hk C.hs C.hd C.ha C.hn C.ht C.hm) I.kIn J h1 e (fun z => nomatch z) fun tk => ⟨.bl b, H, I.tok tk, rfl, q⟩
theorem paired_cls {K : PySem.W.Frag} {Hd : Hp} : ∀ {vs : List V} {cs : List ClA}, Paired (Enc.rep K Hd) vs cs → vs = cs.map (·.v)
  | _, _, .nil => rfl
  | _, _, .cons r t => by
    rw [paired_cls t]
    have r : _ = _ := r
    rw [r]
    rfl
theorem px_isET {a0 D : Addr} {oe : Obj} {pn : List (Addr × Obj)} {cs : List ClA} {us : List Value} {z : Bool} {x1 : Nat} (C : ExcC X.K D) (hz : Zc (.ref D) none oe) (hf : ∃ vs, oe.data = .fields vs) (ha : PX (X.suite a0 ((a0, oe) :: pn)) Γ a (.is (ExA.mk a0))) (hb : AX (X.suite a0 ((a0, oe) :: pn)) Γ es (cs.map Sl.is))
    (hl : cs.length ≤ sizeLine) (hcv : Paired ClsV (cs.map (·.v)) us) (hk : PySem.W.kitAny X.K (.ref D) us = some z) (hm : X.mg "isinstance" = none) (hg : Gl X "isinstance" := by rfl)
    (he : starEach [a, .Tuple es x1 p3] X.env = (false, eval a X.env) :: starEach [.Tuple es x1 p3] X.env := by rfl) (he2 : starEach [.Tuple es x1 p3] X.env = (false, eval (.Tuple es x1 p3) X.env) :: starEach [] X.env := by rfl) (hpl : (backTo pos (starEach [.Tuple es x1 p3] X.env)).any (·.1) = false := by rfl) :
    PX (X.suite a0 ((a0, oe) :: pn)) Γ (.Call (.Name "isinstance" p) [a, .Tuple es x1 p3] [] pos) (.is z) :=
  ⟨fun B ρ σ H h Q q => goE (pe_callB (call_isET C hz hf) hg hm PyProof.Rows.boot_isinstance (pa_cons peW (pa_cons (pe_tup paW) pa_nil he2) he) (by decide) (by decide) he hpl) (ha.run B ρ σ H h _ fun v H1 e1 h1 => hb.run B _ σ H1 h1 _ fun vs H2 e2 l h2 => by
    have ev := h1.topSc
    injection ev with ev
    have l' : vs.length = cs.length := by simpa using l
    refine ⟨by rw [l']; exact hl, fun tp hp => ?_⟩
    obtain ⟨zl, Hd, z1, z2, z3, z4, z5, z6⟩ := id h2
    have pr := paired_cls (paired_of l' fun r hr => z5 r (List.mem_append_left _ (pushAll_mem (.inl hr))))
    refine ⟨tp, vs, us, z, by rw [ev]; rfl, upd_same, by rw [pr]; exact hcv, hk, ?_⟩
    exact q _ _ ((e1.trans e2).trans (Ex.new hp)) (((h2.popAll.pop).grow (Ex.new hp)).pushSc z))⟩

/-! ### data as it stands now -/
structure PC (X : Cx) (Γ : List Sl) (e : Expr) {α : Type} [Enc α] (x : α) : Prop where
  run : ∀ (B : Hp × Hp) (ρ : List Slot) (σ : L2.St) (H : Hp), HasE X.K B H ρ σ Γ → ∀ Q : VK, (∀ v H', Ex H H' → Enc.rep X.K H' v x → HasE X.K B H' ρ σ Γ → Q v H') → wE X e σ H Q
structure AC (X : Cx) (Γ : List Sl) (es : List Expr) (args : List Sl) : Prop where
  run : ∀ (B : Hp × Hp) (ρ : List Slot) (σ : L2.St) (H : Hp), HasE X.K B H ρ σ Γ → ∀ Q : List V → Hp → Prop, (∀ vs H', Ex H H' → vs.length = args.length → (∀ p ∈ (vs.map some).zip args, SlotOk X.K H' H' H' p.1 p.2 ∧ ∀ q, apart p q) → HasE X.K B H' ρ σ Γ → Q vs H') → wA X es σ H Q
theorem pc_of {α : Type} [Enc α] {x : α} (h : PX X Γ e (.is x)) : PC X Γ e x := ⟨fun B ρ σ H h' Q q => h.run B ρ σ H h' _ fun v H1 e1 h1 => by
  obtain ⟨l, Hd, z1, z2, z3, z4, z5, z6⟩ := id h1
  obtain ⟨w, f1, f2⟩ := z5 _ List.mem_cons_self
  have f1 : some v = some w := f1
  injection f1 with f1
  subst f1
  exact q v H1 e1 (Enc.mono z2 f2) h1.pop⟩
theorem pc_lk {α : Type} [Enc α] {xs : List α} (lk : Lk s xs) (h : PX X Γ e s) : @PC X Γ e (List α) encList xs := @PC.mk X Γ e (List α) encList xs (fun B ρ σ H h' Q q => h.run B ρ σ H h' _ fun v H1 e1 h1 => by
  obtain ⟨l, Hd, z1, z2, z3, z4, z5, z6⟩ := id h1
  obtain ⟨a', vs, g1, g2, g3⟩ := lk.ok z2 (z5 _ List.mem_cons_self)
  injection g1 with g1
  subst g1
  exact q _ H1 e1 ⟨a', vs, rfl, g2, PairedMono z2 g3⟩ h1.pop)
theorem pc_D {α : Type} [Enc α] [DEnc α] {x : α} (h : PC X Γ e x) : PC X Γ e (encD x) := ⟨fun B ρ σ H h' Q q => h.run B ρ σ H h' _ fun v H1 e1 r h1 => q v H1 e1 (DEnc.toDp r) h1⟩
theorem ac_nil : AC X Γ [] [] := ⟨fun B ρ σ H h Q q => goA pa_nil (q [] H (Ex.refl H) rfl (fun p hp => nomatch hp) h)⟩
theorem ac_cons {α : Type} [Enc α] {x : α} (h : PC X Γ e x) (t : AC X Γ es ss) (hb : ∀ K H H' o, Ex H H' → (∀ p ∈ [(o : Option V)].zip [Sl.is x], SlotOk K H H H p.1 p.2) → True := by intros; trivial) (hs : starEach (e :: es) X.env = (false, eval e X.env) :: starEach es X.env := by rfl) : AC X Γ (e :: es) (.is x :: ss) :=
  ⟨fun B ρ σ H h' Q q => goA (pa_cons peW paW hs) (h.run B ρ σ H h' _ fun v H1 e1 r h1 => t.run B ρ σ H1 h1 _ fun vs H2 e2 l ok h2 => q (v :: vs) H2 (e1.trans e2) (by simp [l]) (fun p hp => by
    rcases List.mem_cons.mp hp with z | z
    · rw [z]
      exact ⟨⟨v, rfl, Enc.mono e2 r⟩, fun q => apart_is q⟩
    · exact ok p z) h2)⟩
theorem ac_arg {α : Type} [Enc α] {xs : List α} (lk : Lk s xs) (h : PX X Γ e s) (t : AC X Γ es ss) (hs : starEach (e :: es) X.env = (false, eval e X.env) :: starEach es X.env := by rfl) : AC X Γ (e :: es) (.arg xs :: ss) :=
  ⟨fun B ρ σ H h' Q q => goA (pa_cons peW paW hs) (h.run B ρ σ H h' _ fun v H1 e1 h1 => by
    obtain ⟨l, Hd, z1, z2, z3, z4, z5, z6⟩ := id h1
    obtain ⟨a', ws, g1, g2, g3⟩ := lk.ok z2 (z5 _ List.mem_cons_self)
    refine t.run B ρ σ H1 h1.pop _ fun vs H2 e2 l ok h2 => q (v :: vs) H2 (e1.trans e2) (by simp [l]) (fun p hp => ?_) h2
    rcases List.mem_cons.mp hp with z | z
    · rw [z]
      exact ⟨⟨a', ws, g1, fun c => by rw [e2 _ _ g2] at c; exact (nomatch c), e2 _ _ g2, PairedMono (z2.trans e2) g3⟩, fun q => apart_arg q⟩
    · exact ok p z)⟩
theorem callC {ι : Type} {k : Nat} {x : Str} {n : Nat} {pre : ι → Prop} {args : ι → List Sl} {res : ι → Sl} (F : DefOk X.prog X.w X.K X.mg X.base k x n (spD X.K pre args res)) (i : ι) (hp : pre i) (hr : Room k X.A)
    (ha : AC X Γ (e :: es) (args i)) {α : Type} [Enc α] {z : α} {vz : V} (hz : IsV z vz) (hs0 : res i = .is z) (hg : Gl X x) (hdb : (x == ("__debug__" : Str)) = false) (he : starEach (e :: es) X.env = (false, eval e X.env) :: starEach es X.env) (hpl : (backTo pos (starEach es X.env)).any (·.1) = false)
    (hx : Passes CX0 X E0) (B : Hp × Hp) (ρ : List Slot) (σ : L2.St) (H : Hp) (h : HasE X.K B H ρ σ Γ) (Q : VK) (q : ∀ H', Ex H H' → HasE X.K B H' ρ σ Γ → Q vz H') : wE X (.Call (.Name x p) (e :: es) [] pos) σ H Q := by
  obtain ⟨f, fd, ps, F, hm, hk, hb, _⟩ := F.ex
  refine goE (pe_call F hr hg hm hk hb .nil hx paW hdb he hpl) (ha.run B ρ σ H h _ fun vs H1 e1 l ok h1 => ?_)
  rw [List.append_nil]
  refine ⟨H1, i, Ex.refl _, hp, l, ok, fun v H' Hd' f1 f2 f3 f4 f5 => ?_⟩
  have f5 := f5.1
  rw [hs0] at f5
  obtain ⟨w, g1, g2⟩ := f5
  injection g1 with g1
  subst g1
  have := hz _ _ _ g2
  subst this
  exact q H' (e1.trans f3) (h1.grow f3)
theorem px_callC {ι : Type} {k : Nat} {x : Str} {n : Nat} {pre : ι → Prop} {args : ι → List Sl} {res : ι → Sl} {α : Type} [Sc α] {z : α} (F : DefOk X.prog X.w X.K X.mg X.base k x n (spD X.K pre args res)) (i : ι) (hp : pre i) (hr : Room k X.A)
    (ha : AC X Γ (e :: es) (args i)) (hs0 : res i = .is z := by rfl) (hg : Gl X x := by rfl) (hdb : (x == ("__debug__" : Str)) = false := by decide) (he : starEach (e :: es) X.env = (false, eval e X.env) :: starEach es X.env := by rfl) (hpl : (backTo pos (starEach es X.env)).any (·.1) = false := by rfl)
    (hx : Passes CX0 X E0 := by exact pass0) : PX X Γ (.Call (.Name x p) (e :: es) [] pos) (.is z) :=
  ⟨fun B ρ σ H h Q q => callC F i hp hr ha (isV_sc z) hs0 hg hdb he hpl hx B ρ σ H h Q fun H' e' h' => q _ H' e' (h'.pushSc z)⟩
theorem dpAll_of_is {K : PySem.W.Frag} {H : Hp} : ∀ {vs : List V} {ds : List PyData}, vs.length = ds.length → (∀ p ∈ (vs.map some).zip (ds.map fun d => Sl.is d), SlotOk K H H H p.1 p.2 ∧ ∀ q, apart p q) → DpAll K H vs ds
  | [], [], _, _ => .nil
  | [], _ :: _, l, _ => by simp at l
  | _ :: _, [], l, _ => by simp at l
  | v :: vs, d :: ds, l, h => by
    obtain ⟨⟨w, f1, f2⟩, _⟩ := h (some v, .is d) List.mem_cons_self
    have f1 : some v = some w := f1
    injection f1 with f1
    subst f1
    exact .cons f2 (dpAll_of_is (by simpa using l) fun p hp => h p (List.mem_cons_of_mem _ hp))
theorem dpAll_mono {K : PySem.W.Frag} {H H' : Hp} (e : Ex H H') : ∀ {vs : List V} {ds : List PyData}, DpAll K H vs ds → DpAll K H' vs ds
  | _, _, .nil => .nil
  | _, _, .cons r t => .cons (dp_mono e r) (dpAll_mono e t)
theorem pc_tupD {ds : List PyData} {x1 : Nat} (h : AC X Γ es (ds.map fun d => Sl.is d)) (hl : ds.length ≤ sizeLine) : PC X Γ (.Tuple es x1 pos) (PyData.tuple ds) := ⟨fun B ρ σ H h' Q q => goE (pe_tup paW) (h.run B ρ σ H h' _ fun vs H1 e1 l ok h1 => by
  have l' : vs.length = ds.length := by simpa using l
  refine ⟨by rw [l']; exact hl, fun tp hp => ?_⟩
  have en : Ex H1 (upd H1 tp (.tup vs)) := Ex.new hp
  exact q _ _ (e1.trans en) (Dp.tup (SqT.of upd_same) (dpAll_mono en (dpAll_of_is l' ok))) (h1.grow en))⟩
end

/-! ### a tuple of a text and a list of one's own -/
/-- a tuple of a text and the list at a -/
structure TR where
  t : List Nat
  a : Addr
instance encTR : Enc TR where
  rep := fun K H v x => ∃ p, v = .ref p ∧ SqT K H p [.str (mkS x.t), .ref x.a]
  mono := fun e ⟨p, h1, h2⟩ => ⟨p, h1, Evl.ex_t e h2⟩
def TOk (K : PySem.W.Frag) (B Hd H : Hp) (v : V) (t : List Nat) {α : Type} [Enc α] (xs : List α) : Prop := ∃ a, SlotOk K B Hd H (some v) (.is (TR.mk t a)) ∧ SlotOk K B Hd H (some (.ref a)) (.ownA a xs)
/-- what gives back such a tuple (inl), or plain data -/
def spT {ι α β : Type} [Enc α] [Enc β] (K : PySem.W.Frag) (pre : ι → Prop) (args : ι → List Sl) (t : List Nat) (m : ι → Sum (List α) β) : Sp := fun vs H Q _ => ∃ (Hd0 : Hp) (i : ι), Ex Hd0 H ∧ pre i ∧ vs.length = (args i).length ∧ (∀ p ∈ (vs.map some).zip (args i), SlotOk K H Hd0 H p.1 p.2 ∧ ∀ q, apart p q) ∧
  ∀ v H' Hd', Ex Hd0 Hd' → Ex Hd' H' → Ex H H' → (∀ a, Hd0 a = none → H a ≠ none → Hd' a = none) → (match m i with
    | .inl xs => TOk K H Hd' H' v t xs
    | .inr b => SlotOk K H Hd' H' (some v) (.is b)) → Q v H'
def TRet (K : PySem.W.Frag) {α β : Type} [Enc α] [Enc β] (t : List Nat) (B : Hp × Hp) (m : Sum (List α) β) (v : V) (H : Hp) : Prop := ∃ Hd, Ex B.1 Hd ∧ Ex Hd H ∧ Ex B.2 H ∧ (∀ a, B.1 a = none → B.2 a ≠ none → Hd a = none) ∧ (match m with
    | .inl xs => TOk K B.2 Hd H v t xs
    | .inr b => SlotOk K B.2 Hd H (some v) (.is b))
def LT (K : PySem.W.Frag) {α β : Type} [Enc α] [Enc β] (t : List Nat) : Leaf (Sum (List α) β) := fun B m D _ => ∀ v H', TRet K t B m v H' → D.rt v H'
theorem rts_T {K : PySem.W.Frag} {α β : Type} [Enc α] [Enc β] {t : List Nat} : Rts (LT K (α := α) (β := β) t) (LT K t) (fun r => r) := fun B r D D' ρ ρ' h l => by
  intro v H' q
  rw [h]
  exact l v H' q
section
variable {X : Cx} {M : Type} {L : Leaf M} {Γ Γ' : List Sl} {k : List (List Stmt)} {m : M} {st : Stmt} {sts : List Stmt} {e a b c tg iter : Expr} {es : List Expr} {pos p p' p2 apos cpos : Pos} {s : Sl}
theorem sx_retT {α β : Type} [Enc α] [Enc β] {t : List Nat} {b0 : β} (he : PX X Γ e (.is b0)) : SX X (LT X.K (α := α) t) Γ ((.Return (some e) pos :: sts) :: k) (.inr b0) :=
  ⟨fun B ρ σ H D hb h l => wC_cons (go1 (ps_ret peW) (he.run B ρ σ H h _ fun v H1 e1 h1 => l v H1 (by
    obtain ⟨l, Hd, z1, z2, z3, z4, z5, z6⟩ := h1
    exact ⟨Hd, z1, z2, z3, z4, z5 _ List.mem_cons_self⟩)))⟩
/-- return (a, b), b a list of one's own -/
theorem sx_retTO {α β : Type} [Enc α] [Enc β] {t : List Nat} {xs : List α} {x1 : Nat} {p3 : Pos} (ha : PX X Γ a (.is t)) (hb0 : PX X Γ b (.own xs)) (he : starEach [a, b] X.env = (false, eval a X.env) :: starEach [b] X.env := by rfl) (he2 : starEach [b] X.env = (false, eval b X.env) :: starEach [] X.env := by rfl) :
    SX X (LT X.K (α := α) (β := β) t) Γ ((.Return (some (.Tuple [a, b] x1 p3)) pos :: sts) :: k) (.inl xs) :=
  ⟨fun B ρ σ H D hb h l => wC_cons (go1 (ps_ret (pe_tup (pa_cons peW (pa_cons peW pa_nil he2) he))) (ha.run B ρ σ H h _ fun v H1 e1 h1 => hb0.run B _ σ H1 h1 _ fun w H2 e2 h2 => by
    refine ⟨by show 2 ≤ sizeLine; decide, fun tp hp => l _ _ ?_⟩
    have ev := topTx h2.swap
    injection ev with ev
    subst ev
    obtain ⟨zl, Hd, z1, z2, z3, z4, z5, z6⟩ := id h2
    obtain ⟨a', ws, g1, g2, g3, g4, g5⟩ := z5 _ List.mem_cons_self
    have g1 : some w = some (V.ref a') := g1
    injection g1 with g1
    subst g1
    have en : Ex H2 (upd H2 tp (.tup [.str (mkS t), .ref a'])) := Ex.new hp
    have hd : Hd tp = none := z2.back hp
    have ed : Ex Hd (upd Hd tp (.tup [.str (mkS t), .ref a'])) := Ex.new hd
    have ne : a' ≠ tp := fun z => by
      subst z
      rw [g4] at hp
      cases hp
    refine ⟨upd Hd tp (.tup [.str (mkS t), .ref a']), z1.trans ed, z2.upd2, z3.trans en, fun b' b1 b2 => ?_, a', ⟨_, rfl, tp, rfl, SqT.of upd_same⟩, a', ws, rfl, g2, by rw [upd_ne ne]; exact g3, en _ _ g4, PairedMono ed g5, rfl⟩
    have nb : b' ≠ tp := fun z => by
      subst z
      exact b2 (z3.back hp)
    rw [upd_ne nb]
    exact z4 b' b1 b2))⟩
/-- y = f(..), where f gives back such a tuple: slot g (no name of the text) holds the list -/
theorem sx_setTO {ι α β : Type} [Enc α] [Enc β] {kk : Nat} {x : Str} {n : Nat} {pre : ι → Prop} {args : ι → List Sl} {t : List Nat} {mi : ι → Sum (List α) β} {y gy : Str} (i g : Nat) (F : DefOk X.prog X.w X.K X.mg X.base kk x n (spT X.K pre args t mi)) (i0 : ι) (hp : pre i0) (hr : Room kk X.A)
    {ss : List Sl} (ha : AX X Γ (e :: es) ss) (fit : Fits ss (args i0))
    (h1 : ∀ xs, mi i0 = .inl xs → ∀ a, SX X L ((Γ.set i (.is (TR.mk t a))).set g (.ownA a xs)) (sts :: k) m) (h2 : ∀ b, mi i0 = .inr b → SX X L (Γ.set i (.is b)) (sts :: k) m)
    (hgN : X.N[g]? = some gy := by rfl) (hgv : X.env.scope.names.lookup gy = none := by rfl)
    (hg : Gl X x := by rfl) (hdb : (x == ("__debug__" : Str)) = false := by decide) (he : starEach (e :: es) X.env = (false, eval e X.env) :: starEach es X.env := by rfl) (hpl : (backTo cpos (starEach es X.env)).any (·.1) = false := by rfl) (hx : Passes CX0 X E0 := by exact pass0)
    (hN : X.N.Nodup) (hi : X.N[i]? = some y := by rfl) (hxl : Loc X.env.scope y := by first | exact Or.inl rfl | exact Or.inr rfl)
    (hs : swapsWith (.Call (.Name x p) (e :: es) [] cpos) (some (.Name y p')) pos.line X.env = pure false := by rfl) (hf : X.fn y = true ∨ X.env.scope.names.lookup y = some .local := by first | exact .inl rfl | exact .inr rfl) : SX X L Γ ((.Assign [.Name y p'] (.Call (.Name x p) (e :: es) [] cpos) pos :: sts) :: k) m := by
  obtain ⟨f, fd, ps, F, hm, hk, hb, _⟩ := F.ex
  refine ⟨fun B ρ σ H D hbo h l => wC_cons (go1 (ps_set hN hi hxl (pe_call F hr hg hm hk hb .nil hx paW hdb he hpl) hs hf) (ha.run B ρ σ H h _ fun vs H1 e1 lv hh => ?_))⟩
  rw [List.append_nil]
  obtain ⟨zl, Hd, z1, z2, z3, z4, z5, z6⟩ := id hh
  refine ⟨Hd, i0, z2, hp, lv.trans fit.len, fit.ok z2 fun r hr => z5 r (List.mem_append_left _ (pushAll_mem (.inl hr))), fun v H' Hd' f1 f2 f3 f4 f5 => ?_⟩
  have base : ∀ s', SlotOk X.K B.2 Hd' H' (some v) s' → (∀ q, apart (some v, s') q) → HasE X.K B H' ((some v, s') :: ρ) σ Γ := fun s' ok ap => by
    refine drop_mid (vs := vs) (ss := ss) ⟨zl, Hd', z1.trans f1, f2, z3.trans f3, fun a' b1 b2 => f4 a' (z4 a' b1 b2) fun c => b2 (z3.back c), fun r hr => ?_, List.pairwise_cons.mpr ⟨fun q _ => ap q, z6⟩⟩
    rcases List.mem_cons.mp hr with c | c
    · rw [c]; exact ok
    · exact (z5 r c).mono f1 f3 fun a' b1 b2 => f4 a' b2 b1
  cases hmi : mi i0 with
  | inr b0 =>
    rw [hmi] at f5
    obtain ⟨w, g1, g2⟩ := f5
    exact (h2 b0 hmi).run B ρ _ H' D hbo (HasE.set i (base (.is b0) ⟨w, g1, g2⟩ (fun q => apart_is q))) l
  | inl xs =>
    rw [hmi] at f5
    obtain ⟨a, g1, a2, ws, k1, k2, k3, k4, k5, k6⟩ := f5
    have k1 : some (V.ref a) = some (V.ref a2) := k1
    injection k1 with k1
    injection k1 with k1
    subst k1
    have hT : HasE X.K B H' ((some v, .is (TR.mk t a)) :: ρ) σ Γ := base _ (by obtain ⟨w, q1, q2⟩ := g1; exact ⟨w, q1, q2⟩) (fun q => apart_is q)
    have hA : HasE X.K B H' ((some (.ref a), .ownA a xs) :: (some v, .is (TR.mk t a)) :: pushAll vs ss ρ) σ Γ := by
      refine ⟨zl, Hd', z1.trans f1, f2, z3.trans f3, fun a' b1 b2 => f4 a' (z4 a' b1 b2) fun c => b2 (z3.back c), fun r hr => ?_, ?_⟩
      · rcases List.mem_cons.mp hr with c | c
        · rw [c]; exact ⟨a, ws, rfl, z3.back k2, k3, k4, k5, rfl⟩
        · rcases List.mem_cons.mp c with c | c
          · rw [c]; obtain ⟨w, q1, q2⟩ := g1; exact ⟨w, q1, q2⟩
          · exact (z5 r c).mono f1 f3 fun a' b1 b2 => f4 a' b2 b1
      · refine List.pairwise_cons.mpr ⟨fun r hr a' o1 o2 => ?_, List.pairwise_cons.mpr ⟨fun q _ => apart_is q, z6⟩⟩
        have o1 : some (V.ref a) = some (V.ref a') := o1
        injection o1 with o1
        injection o1 with o1
        subst o1
        rcases List.mem_cons.mp hr with c | c
        · rw [c] at o2; exact o2
        · exact owns_ne (z5 r c) o2 k2 rfl
    have hA2 : HasE X.K B H' ((some (.ref a), .ownA a xs) :: (some v, .is (TR.mk t a)) :: ρ) σ Γ := by
      have key : ∀ {vs : List V} {ss : List Sl} {ρ : List Slot} {p q : Slot}, HasE X.K B H' (p :: q :: pushAll vs ss ρ) σ Γ → HasE X.K B H' (p :: q :: ρ) σ Γ := by
        intro vs
        induction vs with
        | nil => intro ss ρ p q z; cases ss <;> exact z
        | cons v vs ih =>
          intro ss ρ p q z
          cases ss with
          | nil => exact z
          | cons s ss =>
            have z' := ih (ss := ss) (ρ := (some v, s) :: ρ) z
            exact z'.swap.pop2.swap |> fun w => by
              have z2 := z'
              obtain ⟨l, Hd, y1, y2, y3, y4, y5, y6⟩ := z2
              refine ⟨l, Hd, y1, y2, y3, y4, fun r hr => y5 r ?_, ?_⟩
              · rcases List.mem_cons.mp hr with c | c
                · rw [c]; exact List.mem_cons_self
                · rcases List.mem_cons.mp c with c | c
                  · rw [c]; exact List.mem_cons_of_mem _ List.mem_cons_self
                  · exact List.mem_cons_of_mem _ (List.mem_cons_of_mem _ (List.mem_cons_of_mem _ c))
              · have w1 := List.pairwise_cons.mp y6
                have w2 := List.pairwise_cons.mp w1.2
                have w3 := List.pairwise_cons.mp w2.2
                refine List.pairwise_cons.mpr ⟨fun r hr => w1.1 r ?_, List.pairwise_cons.mpr ⟨fun r hr => w2.1 r (List.mem_cons_of_mem _ hr), w3.2⟩⟩
                rcases List.mem_cons.mp hr with c | c
                · rw [c]; exact List.mem_cons_self
                · exact List.mem_cons_of_mem _ (List.mem_cons_of_mem _ c)
      exact key hA
    have h3 := HasE.set g (HasE.set i hA2.swap)
    exact wC_ghost hgN hgv ((h1 xs hmi a).run B ρ _ H' D hbo h3 l)
theorem HasE.ofA {K : PySem.W.Frag} {B : Hp × Hp} {H : Hp} {ρ : List Slot} {σ : L2.St} {a : Addr} {o : Option V} {α : Type} [Enc α] {xs : List α} (h : HasE K B H ((o, .ownA a xs) :: ρ) σ Γ) : o = some (.ref a) ∧ HasE K B H ((o, .own xs) :: ρ) σ Γ := by
  obtain ⟨l, Hd, z1, z2, z3, z4, z5, z6⟩ := h
  obtain ⟨a', vs, g1, g2, g3, g4, g5, g6⟩ := z5 _ List.mem_cons_self
  have g1 : o = some (.ref a') := g1
  subst g6
  refine ⟨g1, l, Hd, z1, z2, z3, z4, fun r hr => ?_, ?_⟩
  · rcases List.mem_cons.mp hr with c | c
    · rw [c]; exact ⟨a', vs, g1, g2, g3, g4, g5⟩
    · exact z5 r (List.mem_cons_of_mem _ c)
  · have w := List.pairwise_cons.mp z6
    exact List.pairwise_cons.mpr ⟨fun r hr b o1 o2 => w.1 r hr b o1 o2, w.2⟩
/-- y2 = y[1]: the list is taken out -/
theorem sx_takeTR {α : Type} [Enc α] {t : List Nat} {a0 : Addr} {xs : List α} {y y2 : Str} {j : Nat} {p3 p4 : Pos} (i g i2 : Nat) (g1 : Γ[i]? = some (.is (TR.mk t a0))) (g2 : Γ[g]? = some (.ownA a0 xs)) (hr : SX X L ((Γ.set g .no).set i2 (.own xs)) (sts :: k) m) (hN : X.N.Nodup) (hi : X.N[i]? = some y := by rfl) (hi2 : X.N[i2]? = some y2 := by rfl)
    (hv : Vis X.env.scope y := by first | exact Or.inl rfl | exact Or.inr (Or.inl rfl) | exact Or.inr (Or.inr rfl)) (hxl : Loc X.env.scope y2 := by first | exact Or.inl rfl | exact Or.inr rfl)
    (hd : (y == ("__debug__" : Str)) = false := by decide) (hcd : (y == ("__classdict__" : Str)) = false := by decide)
    (hs : swapsWith (.Subscript (.Name y p) (.Constant (.int 1) j p3) p4) (some (.Name y2 p')) pos.line X.env = pure false := by rfl) (hf : X.fn y2 = true ∨ X.env.scope.names.lookup y2 = some .local := by first | exact .inl rfl | exact .inr rfl) :
    SX X L Γ ((.Assign [.Name y2 p'] (.Subscript (.Name y p) (.Constant (.int 1) j p3) p4) pos :: sts) :: k) m := by
  refine ⟨fun B ρ σ H D hbo h l => wC_cons (go1 (ps_set hN hi2 hxl (pe_ix ix_tup (pe_var hi hv hd hcd) pe_int (fun _ _ => rfl)) hs hf) ?_)⟩
  obtain ⟨v, ho, hh⟩ := h.var g1
  obtain ⟨_, Hd, _, z2, _, _, z5, _⟩ := id hh
  obtain ⟨w, q1, tp, q2, q3⟩ := z5 _ List.mem_cons_self
  have q1 : some v = some w := q1
  injection q1 with q1
  subst q1 q2
  obtain ⟨o, hg, _⟩ := zip_get h.len g2
  have h2 := h.takeOut g2 hg
  obtain ⟨eo, h3⟩ := h2.ofA
  subst eo
  exact ⟨.ref tp, ho, tp, [.str (mkS t), .ref a0], (1 : Int), .ref a0, rfl, rfl, Evl.ex_t z2 q3, rfl, hr.run B ρ _ H D hbo (HasE.set i2 h3) l⟩
/-- such a tuple as data -/
theorem pc_TR {α : Type} [Enc α] {t : List Nat} {a0 : Addr} {xs : List α} {y : Str} (i g : Nat) (g1 : Γ[i]? = some (.is (TR.mk t a0))) (g2 : Γ[g]? = some (.ownA a0 xs)) (hi : X.N[i]? = some y := by rfl) (hv : Vis X.env.scope y := by first | exact Or.inl rfl | exact Or.inr (Or.inl rfl) | exact Or.inr (Or.inr rfl))
    (hd : (y == ("__debug__" : Str)) = false := by decide) (hcd : (y == ("__classdict__" : Str)) = false := by decide) : @PC X Γ (.Name y p) (List Nat × List α) (@encPair _ _ _ encList) (t, xs) :=
  @PC.mk X Γ (.Name y p) (List Nat × List α) (@encPair _ _ _ encList) (t, xs) (fun B ρ σ H h Q q => by
  obtain ⟨v, ho, hh⟩ := h.var g1
  obtain ⟨_, Hd, _, z2, _, _, z5, _⟩ := id hh
  obtain ⟨w, q1, tp, q2, q3⟩ := z5 _ List.mem_cons_self
  have q1 : some v = some w := q1
  injection q1 with q1
  subst q1 q2
  obtain ⟨o, hg, hm⟩ := zip_get h.len g2
  obtain ⟨a', vs, k1, k2, k3, k4, k5, k6⟩ := z5 _ (List.mem_cons_of_mem _ (List.mem_append_right _ hm))
  subst k6
  refine goE (pe_var hi hv hd hcd) ⟨.ref tp, ho, q _ H (Ex.refl H) ⟨tp, _, _, rfl, Evl.ex_t z2 q3, rfl, a', vs, rfl, k4, PairedMono z2 k5⟩ h⟩)
theorem px_TRfst {t : List Nat} {a0 : Addr} (ha : PX X Γ a (.is (TR.mk t a0))) (hb : PX X Γ b (.is (0 : Int))) (hs : PlainIx b := by exact fun _ _ => rfl) : PX X Γ (.Subscript a b pos) (.is t) :=
  px_proj ha hb (fun Hd v ⟨tp, h1, h2⟩ => ⟨tp, _, _, h1, h2, rfl, rfl⟩) hs
end
end DX
/-! DX15: the promise of a def that may raise, from its body; of one that gives back a tuple with a list of its own. -/
namespace DX
open PySem PySem.Spec PyProof.Rows L2
section
variable {P : Program} {w : World} {K : PySem.W.Frag} {mg : Str → Option Value} {base : Heap}
theorem pw_all {l : List Slot} (h : ∀ p ∈ l, ∀ q, apart p q) : l.Pairwise apart := by
  induction l with
  | nil => exact .nil
  | cons p l ih => exact List.pairwise_cons.mpr ⟨fun q _ => h p List.mem_cons_self q, ih fun r hr => h r (List.mem_cons_of_mem _ hr)⟩
theorem start_has {Hd0 H : Hp} {vs : List V} {args : List Sl} {N ps : List Str} (h1 : Ex Hd0 H) (hl : vs.length = args.length) (hn : args.length = ps.length) (ha : ∀ p ∈ (vs.map some).zip args, SlotOk K H Hd0 H p.1 p.2 ∧ ∀ q, apart p q) :
    HasE K (Hd0, H) H [] (L2.start N vs) (args ++ List.replicate (N.length - ps.length) .no) := by
  refine ⟨?_, Hd0, Ex.refl _, h1, Ex.refl _, fun a b _ => b, ?_, ?_⟩
  · unfold L2.start
    simp [hl, hn]
  · intro p hp
    rw [List.nil_append] at hp
    unfold L2.start at hp
    rw [zip_append (by simp [hl])] at hp
    rcases List.mem_append.mp hp with z | z
    · exact (ha p z).1
    · have := (List.of_mem_zip (show (p.1, p.2) ∈ _ from z)).2
      rw [(List.mem_replicate.mp this).2]
      trivial
  · rw [List.nil_append]
    unfold L2.start
    rw [zip_append (by simp [hl])]
    refine List.pairwise_append.mpr ⟨?_, ?_, fun p hp q' _ => (ha p hp).2 q'⟩
    · exact pw_all fun p hp q' => (ha p hp).2 q'
    · refine pw_all fun p hp q' => ?_
      have := (List.of_mem_zip (show (p.1, p.2) ∈ _ from hp)).2
      obtain ⟨o, s'⟩ := p
      have e : s' = .no := (List.mem_replicate.mp this).2
      subst e
      exact apart_no q'
theorem r0w {X : Cx} {b : List Stmt} {D : Ends} {σ : L2.St} {H : Hp} (h : wC X [b] D σ H) : wS X b D σ H := h
theorem defFnX {ι R : Type} {x qual : Str} {st : Stmt} {f : Addr} {fd : FuncData} {N ps : List Str} {kk : Nat} (F : Fun K x qual st f fd) (S : FnScope N ps (defScope st))
    (pre : ι → Prop) (args : ι → List Sl) (res : R → Sl) (mi : ι → Res R) (hn : ∀ i, (args i).length = ps.length)
    (body : ∀ (i : ι), pre i → ∀ (cdv : Value) (A : Around) (outer : List Env) (s : Shared) (H : Hp) (E : XK), Room kk (A.deeper (envOfC qual (defScope st) s.heap.objs.size f cdv)) →
      SX (cxOf (L2.CX P w) P w K mg base N qual (defScope st) f cdv A outer s H E) (LX K mg res fun cls d _ H' => E cls d H') (args i ++ List.replicate (N.length - ps.length) .no) [defBody st] (mi i)) :
    FnOk P w K mg base (L2.CX P w) (kk + 1) f fd ps (spX K mg pre args res mi) := by
  refine F.okX S (fun vs H Q E ⟨_, i, _, _, l, _⟩ => l.trans (hn i)) fun cdv A outer s H vs Q E hr h => ?_
  refine ⟨wS _ (defBody st), pssW, ?_⟩
  obtain ⟨Hd0, i, h1, hp, hl, ha, q⟩ := h
  refine r0w ((body i hp cdv A outer s H E hr).run (Hd0, H) [] (L2.start N vs) H { nx := fun _ H' => Q .non H', rt := Q } (fun p hp => nomatch hp) (start_has h1 hl (hn i) ha) ?_)
  cases hm : mi i with
  | ok r =>
    rw [hm] at q
    intro v H' hv
    obtain ⟨Hd, a1, a2, a3, a4, a5⟩ := hv
    exact q v H' Hd a1 a2 a3 a4 a5
  | error e =>
    rw [hm] at q
    exact fun cls d σ H' ex ie => q cls d H' ex ie
theorem defOkX {ι R : Type} {x qual : Str} {st : Stmt} {f : Addr} {fd : FuncData} {N ps : List Str} {kk : Nat} (F : Fun K x qual st f fd) (hm : mg x = some (.ref f)) (S : FnScope N ps (defScope st)) (bd : Binds K fd ps [])
    (pre : ι → Prop) (args : ι → List Sl) (res : R → Sl) (mi : ι → Res R) (hn : ∀ i, (args i).length = ps.length)
    (body : ∀ (i : ι), pre i → ∀ (cdv : Value) (A : Around) (outer : List Env) (s : Shared) (H : Hp) (E : XK), Room kk (A.deeper (envOfC qual (defScope st) s.heap.objs.size f cdv)) →
      SX (cxOf (L2.CX P w) P w K mg base N qual (defScope st) f cdv A outer s H E) (LX K mg res fun cls d _ H' => E cls d H') (args i ++ List.replicate (N.length - ps.length) .no) [defBody st] (mi i)) :
    DefOkX P w K mg base (kk + 1) x ps.length (spX K mg pre args res mi) :=
  ⟨f, fd, ps, defFnX F S pre args res mi hn body, hm, F.kp, bd, rfl⟩
theorem defOkT {ι α β : Type} [Enc α] [Enc β] {x qual : Str} {st : Stmt} {f : Addr} {fd : FuncData} {N ps : List Str} {kk : Nat} (F : Fun K x qual st f fd) (hm : mg x = some (.ref f)) (S : FnScope N ps (defScope st)) (bd : Binds K fd ps [])
    (pre : ι → Prop) (args : ι → List Sl) (t : List Nat) (mi : ι → Sum (List α) β) (hn : ∀ i, (args i).length = ps.length)
    (body : ∀ (i : ι), pre i → ∀ (cdv : Value) (A : Around) (outer : List Env) (s : Shared) (H : Hp) (E : XK), Room kk (A.deeper (envOfC qual (defScope st) s.heap.objs.size f cdv)) →
      SX (cxOf CX0 P w K mg base N qual (defScope st) f cdv A outer s H E).nox (LT K t) (args i ++ List.replicate (N.length - ps.length) .no) [defBody st] (mi i)) :
    DefOk P w K mg base (kk + 1) x ps.length (spT K pre args t mi) := by
  refine ⟨f, fd, ps, ?_, hm, F.kp, bd, rfl⟩
  refine F.ok S (fun vs H Q E ⟨_, i, _, _, l, _⟩ => l.trans (hn i)) fun cdv A outer s H vs Q E hr h => ?_
  refine ⟨wS _ (defBody st), pssW, ?_⟩
  obtain ⟨Hd0, i, h1, hp, hl, ha, q⟩ := h
  refine r0w ((body i hp cdv A outer s H E hr).run (Hd0, H) [] (L2.start N vs) H { nx := fun _ H' => Q .non H', rt := Q } (fun p hp => nomatch hp) (start_has h1 hl (hn i) ha) ?_)
  intro v H' hv
  obtain ⟨Hd, a1, a2, a3, a4, a5⟩ := hv
  exact q v H' Hd a1 a2 a3 a4 a5
end
end DX
namespace DX
open PySem PySem.Spec PyProof.Rows L2
theorem one_get {t : List Nat} {i : Nat} {x : List Nat} (h : (List.map (fun c => [c]) t)[i]? = some x) : x = [x.headD 0] := by
  rw [List.getElem?_map] at h
  cases q : t[i]? with
  | none => rw [q] at h; cases h
  | some c =>
    rw [q] at h
    have h : some [c] = some x := h
    injection h with h
    subst h
    rfl
section
variable {X : Cx} {Γ : List Sl} {a b : Expr} {pos : Pos} {x y : List Nat}
theorem px_one (ha : PX X Γ a (.is x)) (h : x = [x.headD 0]) : PX X Γ a (.is [x.headD 0]) := by rw [← h]; exact ha
theorem px_inT1 (ha : PX X Γ a (.is x)) (hb : PX X Γ b (.is y)) (h : x = [x.headD 0]) (hm : behindInMarks .In b = false := by rfl) : PX X Γ (.Compare a [.In] [b] pos) (.is (decide (x.headD 0 ∈ y))) := px_inT (px_one ha h) hb hm
theorem tx_inT1 (ha : PX X Γ a (.is x)) (hb : PX X Γ b (.is y)) (h : x = [x.headD 0]) (hm : behindInMarks .In b = false := by rfl) : TX X Γ (.Compare a [.In] [b] pos) (decide (x.headD 0 ∈ y)) := tx_inT (px_one ha h) hb hm
theorem px_niT1 (ha : PX X Γ a (.is x)) (hb : PX X Γ b (.is y)) (h : x = [x.headD 0]) (hm : behindInMarks .NotIn b = false := by rfl) : PX X Γ (.Compare a [.NotIn] [b] pos) (.is (!decide (x.headD 0 ∈ y))) := px_niT (px_one ha h) hb hm
theorem tx_niT1 (ha : PX X Γ a (.is x)) (hb : PX X Γ b (.is y)) (h : x = [x.headD 0]) (hm : behindInMarks .NotIn b = false := by rfl) : TX X Γ (.Compare a [.NotIn] [b] pos) (!decide (x.headD 0 ∈ y)) := tx_niT (px_one ha h) hb hm
end
end DX
namespace DX
open PySem PySem.Spec PyProof.Rows L2
theorem px_powC {X : Cx} {Γ : List Sl} {a b : Expr} {pos : Pos} {x y z : Int} (ha : PX X Γ a (.is x)) (hb : PX X Γ b (.is y)) (hc : CPow x y) (hz : x ^ y.toNat = z) : PX X Γ (.BinOp a .Pow b pos) (.is z) := hz ▸ px_pow ha hb hc
end DX
namespace DX
open PySem PySem.Spec PyProof.Rows L2
theorem forK_cases {S R α M : Type} {step : S → α → Out S R} {s0 : S} {xs : List α} {m : S → M} {mr : R → M} (P : M → Prop) (h1 : ∀ s, P (m s)) (h2 : ∀ r, (∃ s x, x ∈ xs ∧ step s x = .ret r) → P (mr r)) : P (forK step s0 xs m mr) := by
  have key : ∀ (xs : List α) (s0 : S) r, forO step s0 xs = .ret r → ∃ s x, x ∈ xs ∧ step s x = .ret r := by
    intro xs
    induction xs with
    | nil => intro s0 r h; cases h
    | cons x xs ih =>
      intro s0 r h
      unfold forO at h
      cases q : step s0 x with
      | go s' =>
        rw [q] at h
        obtain ⟨s, y, hy, e⟩ := ih s' r h
        exact ⟨s, y, List.mem_cons_of_mem _ hy, e⟩
      | brk s' => rw [q] at h; cases h
      | ret r' =>
        rw [q] at h
        injection h with h
        exact ⟨s0, x, List.mem_cons_self, by rw [q, h]⟩
  unfold forK
  cases q : forO step s0 xs with
  | go s => exact h1 s
  | brk s => exact h1 s
  | ret r => exact h2 r (key xs s0 r q)
/-- a choice that a sum makes -/
def sumK {α β M : Type} (Y : Sum α β) (f : α → M) (g : β → M) : M := match Y with
  | .inl x => f x
  | .inr y => g y
theorem sumK_l {α β M : Type} {Y : Sum α β} {f : α → M} {g : β → M} {x : α} (h : Y = .inl x) : sumK Y f g = f x := by rw [h]; rfl
theorem sumK_r {α β M : Type} {Y : Sum α β} {f : α → M} {g : β → M} {x : β} (h : Y = .inr x) : sumK Y f g = g x := by rw [h]; rfl
theorem exK_ok {R M : Type} {Y : Res R} {f : PErr → M} {g : R → M} {r : R} (h : Y = .ok r) : exK Y f g = g r := by rw [h]; rfl
theorem exK_er {R M : Type} {Y : Res R} {f : PErr → M} {g : R → M} {r : PErr} (h : Y = .error r) : exK Y f g = f r := by rw [h]; rfl
end DX
namespace DX
theorem mem2 {α : Type} {a b x : α} {i : Nat} (h : [a, b][i]? = some x) : x = a ∨ x = b := by
  have := List.mem_of_getElem? h
  simpa using this
theorem mem3 {α : Type} {a b c x : α} {i : Nat} (h : [a, b, c][i]? = some x) : x = a ∨ x = b ∨ x = c := by
  have := List.mem_of_getElem? h
  simpa using this
theorem mem4 {α : Type} {a b c d x : α} {i : Nat} (h : [a, b, c, d][i]? = some x) : x = a ∨ x = b ∨ x = c ∨ x = d := by
  have := List.mem_of_getElem? h
  simpa using this
end DX
namespace DX
theorem rangeI_cons (lo : Int) (n : Nat) : rangeI lo (n + 1) = lo :: rangeI (lo + 1) n := by
  unfold rangeI
  rw [List.range_succ_eq_map, List.map_cons, List.map_map]
  congr 1
  · simp
  · apply List.map_congr_left
    intro k _
    simp
    omega
theorem forO_go {S R : Type} {step : S → Int → Out S R} (I : Int → S → Prop) : ∀ (n : Nat) (lo : Int) (s : S), (∀ k s, lo ≤ k → k < lo + n → I k s → ∃ s', step s k = .go s' ∧ I (k + 1) s') → I lo s → ∃ s', forO step s (rangeI lo n) = .go s' ∧ I (lo + n) s'
  | 0, lo, s, _, h0 => ⟨s, rfl, by simpa using h0⟩
  | n + 1, lo, s, h, h0 => by
    obtain ⟨s1, e1, h1⟩ := h lo s (Int.le_refl _) (by omega) h0
    obtain ⟨s2, e2, h2⟩ := forO_go I n (lo + 1) s1 (fun k s a b => h k s (by omega) (by omega)) h1
    refine ⟨s2, ?_, ?_⟩
    · rw [rangeI_cons, forO_cons, e1]
      exact e2
    · rw [show lo + ((n + 1 : Nat) : Int) = lo + 1 + (n : Int) by omega]
      exact h2
theorem forK_go {S R α M : Type} {step : S → α → Out S R} {s s' : S} {xs : List α} {m : S → M} {mr : R → M} (e : forO step s xs = .go s') : forK step s xs m mr = m s' := by
  unfold forK
  rw [e]
theorem forK_ret {S R α M : Type} {step : S → α → Out S R} {s : S} {r : R} {xs : List α} {m : S → M} {mr : R → M} (e : forO step s xs = .ret r) : forK step s xs m mr = mr r := by
  unfold forK
  rw [e]
theorem forO_all {S R α : Type} {step : S → α → Out S R} (s : S) : ∀ {xs : List α}, (∀ x ∈ xs, step s x = .go s) → forO step s xs = .go s
  | [], _ => rfl
  | x :: xs, h => by
    rw [forO_cons, h x List.mem_cons_self]
    exact forO_all s fun y hy => h y (List.mem_cons_of_mem _ hy)
theorem forK_all {S R α M : Type} {step : S → α → Out S R} {s : S} {xs : List α} {m : S → M} {mr : R → M} (h : ∀ x ∈ xs, step s x = .go s) : forK step s xs m mr = m s := forK_go (forO_all s h)
end DX
namespace DX
open PySem PySem.Spec PyProof.Rows L2
theorem kit_ref {K : PySem.W.Frag} {D C : Addr} (h1 : PySem.W.isClsIn K C = true) (h2 : PySem.W.typeIn K (.ref C) = some (.type "type")) (h3 : PySem.W.subIn K (.ref D) (.ref C) = some true) : PySem.W.kitOne K (.ref D) (.ref C) = some true := by
  unfold PySem.W.kitOne
  split
  · rfl
  · unfold PySem.W.kitCls
    have h1 : (PySem.W.clsIn K C).isSome = true := h1
    dsimp only
    rw [if_pos (by rw [h1, h2]; rfl)]
    exact h3
theorem kit_refN {K : PySem.W.Frag} {D C : Addr} (h1 : PySem.W.isClsIn K C = true) (h2 : PySem.W.typeIn K (.ref C) = some (.type "type")) (h3 : PySem.W.subIn K (.ref D) (.ref C) = some false) (h4 : (Value.ref D == Value.ref C) = false) : PySem.W.kitOne K (.ref D) (.ref C) = some false := by
  unfold PySem.W.kitOne
  rw [if_neg (by rw [h4]; exact Bool.false_ne_true)]
  unfold PySem.W.kitCls
  have h1 : (PySem.W.clsIn K C).isSome = true := h1
  dsimp only
  rw [if_pos (by rw [h1, h2]; rfl)]
  exact h3
theorem kit_VE {K : PySem.W.Frag} {D : Addr} {b : Bool} (h3 : PySem.W.subIn K (.ref D) (.type "ValueError") = some b) : PySem.W.kitOne K (.ref D) (.type "ValueError") = some b := by
  unfold PySem.W.kitOne
  rw [if_neg (fun h => by have := beq_iff_eq.mp h; cases this)]
  unfold PySem.W.kitCls
  dsimp only
  rw [if_pos (show PySem.W.kitMeta "ValueError" = true by decide +kernel)]
  exact h3
theorem kany_cons {K : PySem.W.Frag} {t c : Value} {cs : List Value} (h : PySem.W.kitOne K t c = some false) (hr : PySem.W.kitAny K t cs = some false) : PySem.W.kitAny K t (c :: cs) = some false := kitAny_cons h (fun _ => hr) (fun z => nomatch z)
end DX
/-! DX16: optional ints, truth of lists, pop, extend, sums, phrases, targets of two names, enumerate. -/
namespace DX
open PySem PySem.Spec PyProof.Rows L2
open DEnc (encD)

/-! ### an int or None -/
def optV : Option Int → V
  | none => .non
  | some i => .int i
instance : Sc (Option Int) := ⟨optV⟩
def optD : Option Int → PyData
  | none => .none
  | some i => .int i
instance : DEnc (Option Int) := ⟨optD, fun {K H v x} h => by
  have h : v = optV x := h
  subst h
  cases x with
  | none => exact .non
  | some i => exact .int i⟩
instance : DInj (Option Int) := ⟨fun x y => by
  show same (optD x) (optD y) = true ↔ _
  cases x <;> cases y <;> simp [optD, same]⟩
section
variable {X : Cx} {Γ : List Sl} {e a b c : Expr} {es : List Expr} {s : Sl} {ss : List Sl} {pos p p1 p2 p3 apos cpos : Pos}
theorem px_some {i : Int} (h : PX X Γ e (.is i)) : PX X Γ e (.is (some i : Option Int)) := ⟨fun B ρ σ H h' Q q => h.run B ρ σ H h' _ fun v H1 e1 h1 => q v H1 e1 (by
  have ev := h1.topSc
  rw [ev]
  exact h1.pop.pushSc (some i : Option Int))⟩
theorem px_noneO (h : PX X Γ e (.is ())) : PX X Γ e (.is (none : Option Int)) := ⟨fun B ρ σ H h' Q q => h.run B ρ σ H h' _ fun v H1 e1 h1 => q v H1 e1 (by
  have ev := h1.topSc
  rw [ev]
  exact h1.pop.pushSc (none : Option Int))⟩
theorem px_un {o : Option Int} (h : PX X Γ e (.is o)) (hs : o.isNone = false) : PX X Γ e (.is (o.getD 0)) := by
  cases o with
  | none => cases hs
  | some i => exact ⟨fun B ρ σ H h' Q q => h.run B ρ σ H h' _ fun v H1 e1 h1 => q v H1 e1 (by
      have ev := h1.topSc
      rw [ev]
      exact h1.pop.pushSc i)⟩
theorem optV_none (o : Option Int) : decide (optV o = V.non) = o.isNone := by
  cases o <;> simp [optV]
theorem px_isNO {o : Option Int} {j : Nat} (ha : PX X Γ a (.is o)) : PX X Γ (.Compare a [.Is] [.Constant .none j p2] pos) (.is o.isNone) :=
  ⟨fun B ρ σ H h Q q => goE (pe_cmp (pc_isN peW)) (ha.run B ρ σ H h _ fun v H1 e1 h1 => by
    have ev := h1.topSc
    injection ev with ev
    subst ev
    show Q (.bl (decide (optV o = .non))) H1
    rw [optV_none]
    exact q _ H1 e1 (h1.pop.pushSc o.isNone))⟩
theorem tx_isNO {o : Option Int} {j : Nat} (ha : PX X Γ a (.is o)) : TX X Γ (.Compare a [.Is] [.Constant .none j p2] pos) o.isNone :=
  ⟨fun B ρ σ H h Q q => goT (pt_cmp (pc_isN peW)) (ha.run B ρ σ H h _ fun v H1 e1 h1 => by
    have ev := h1.topSc
    injection ev with ev
    subst ev
    refine ⟨_, rfl, ?_⟩
    show Q (decide (optV o = .non)) H1
    rw [optV_none]
    exact q H1 e1 h1.pop)⟩
theorem px_notNO {o : Option Int} {j : Nat} (ha : PX X Γ a (.is o)) : PX X Γ (.Compare a [.IsNot] [.Constant .none j p2] pos) (.is (!o.isNone)) :=
  ⟨fun B ρ σ H h Q q => goE (pe_cmp (pc_notN peW)) (ha.run B ρ σ H h _ fun v H1 e1 h1 => by
    have ev := h1.topSc
    injection ev with ev
    subst ev
    show Q (.bl (!decide (optV o = .non))) H1
    rw [optV_none]
    exact q _ H1 e1 (h1.pop.pushSc (!o.isNone)))⟩
theorem tx_notNO {o : Option Int} {j : Nat} (ha : PX X Γ a (.is o)) : TX X Γ (.Compare a [.IsNot] [.Constant .none j p2] pos) (!o.isNone) :=
  ⟨fun B ρ σ H h Q q => goT (pt_cmp (pc_notN peW)) (ha.run B ρ σ H h _ fun v H1 e1 h1 => by
    have ev := h1.topSc
    injection ev with ev
    subst ev
    refine ⟨_, rfl, ?_⟩
    show Q (!decide (optV o = .non)) H1
    rw [optV_none]
    exact q H1 e1 h1.pop)⟩

/-! ### a list as a test -/
theorem tx_list {α : Type} [Enc α] {xs : List α} (lk : Lk s xs) (ha : PX X Γ a s) (he : ∀ whole, isTrue a X.env whole = (do let v ← whole; standAt a.pos; holding [v] (truthy v)) := by intro _; rfl) : TX X Γ a (!xs.isEmpty) :=
  ⟨fun B ρ σ H h Q q => goT (pt_truth peW he) (ha.run B ρ σ H h _ fun v H1 e1 h1 => by
    obtain ⟨l, Hd, z1, z2, z3, z4, z5, z6⟩ := id h1
    obtain ⟨a', vs, g1, g2, g3⟩ := lk.ok z2 (z5 _ List.mem_cons_self)
    injection g1 with g1
    subst g1
    refine ⟨!vs.isEmpty, .inl ⟨vs, SqL.of g2, rfl⟩, ?_⟩
    have : vs.isEmpty = xs.isEmpty := by
      have := paired_len g3
      cases vs <;> cases xs <;> simp_all
    rw [this]
    exact q H1 e1 h1.pop)⟩

/-! ### sum -/
theorem px_sum {xs : List Int} (lk : Lk s xs) (hc : X.calm = true) (hm : X.mg "sum" = none) (ha : PX X Γ a s) (hg : Gl X "sum" := by rfl) (he : starEach [a] X.env = (false, eval a X.env) :: starEach [] X.env := by rfl) :
    PX X Γ (.Call (.Name "sum" p) [a] [] pos) (.is xs.sum) :=
  px_B _ (cr_sum hc) hm PyProof.Rows.boot_sum (ax_cons ha ax_nil he) (fun B ρ σ H vs Q l h q => by
    obtain ⟨v, rfl⟩ := one_of l
    obtain ⟨_, Hd, _, h2, _, _, h5, _⟩ := id h
    obtain ⟨a', ws, e1, e2, e3⟩ := lk.ok h2 (h5 _ List.mem_cons_self)
    injection e1 with e1
    subst e1
    have := paired_int e3
    subst this
    exact ⟨a', xs, rfl, SqL.of e2, q⟩) hg (by decide) (by decide) he rfl
theorem px_tupleof {α : Type} [Enc α] {xs : List α} (lk : Lk s xs) (hm : X.mg "tuple" = none) (ha : PX X Γ a s) (hg : Gl X "tuple" := by rfl) (he : starEach [a] X.env = (false, eval a X.env) :: starEach [] X.env := by rfl) :
    PX X Γ (.Call (.Name "tuple" p) [a] [] pos) (.is (Tup.mk xs)) :=
  ⟨fun B ρ σ H h Q q => goE (pe_callTy call_tuple_of hg hm (by decide +kernel) (pa_cons peW pa_nil he) (by decide) (by decide) he rfl) (ha.run B ρ σ H h _ fun v H1 e1 h1 => by
    obtain ⟨l, Hd, z1, z2, z3, z4, z5, z6⟩ := id h1
    obtain ⟨a', vs, g1, g2, g3⟩ := lk.ok z2 (z5 _ List.mem_cons_self)
    injection g1 with g1
    subst g1
    refine ⟨a', vs, rfl, .inl ⟨SqL.of g2, fun t ht => q _ _ (e1.trans (Ex.new ht)) ?_⟩⟩
    refine (HasE.newIs (x := Tup.mk xs) h1 ht fun Hd' ed hn ok => ?_).pop2
    obtain ⟨a2, vs2, k1, k2, k3⟩ := lk.ok ed (ok _ List.mem_cons_self)
    injection k1 with k1
    injection k1 with k1
    subst k1
    rw [g2] at k2
    injection k2 with k2
    injection k2 with k2
    subst k2
    exact ⟨t, vs, rfl, SqT.of upd_same, PairedMono (Ex.new hn) k3⟩)⟩
end

/-! ### phrases -/
inductive Phr where
  | put (c : List Nat)
  | copy (s l : Int)
abbrev tPut : List Nat := [112, 117, 116]
abbrev tCopy : List Nat := [99, 111, 112, 121]
def Phr.isPut : Phr → Bool
  | .put _ => true
  | .copy _ _ => false
def Phr.tag : Phr → List Nat
  | .put _ => tPut
  | .copy _ _ => tCopy
def Phr.let : Phr → List Nat
  | .put c => c
  | .copy _ _ => []
def Phr.start : Phr → Int
  | .put _ => 0
  | .copy s _ => s
def Phr.len : Phr → Int
  | .put _ => 0
  | .copy _ l => l
instance : Inhabited Phr := ⟨.put []⟩
def Phr.reps : Phr → List V
  | .put c => [.str (mkS tPut), .str (mkS c)]
  | .copy s l => [.str (mkS tCopy), .int s, .int l]
instance encPhr : Enc Phr where
  rep := fun K H v x => ∃ a, v = .ref a ∧ SqT K H a x.reps
  mono := fun e ⟨a, h1, h2⟩ => ⟨a, h1, Evl.ex_t e h2⟩
instance : DEnc Phr := ⟨fun x => match x with
  | .put c => .tuple [.str (mkS tPut), .str (mkS c)]
  | .copy s l => .tuple [.str (mkS tCopy), .int s, .int l], fun {K H v x} ⟨a, h1, h2⟩ => by
  subst h1
  cases x with
  | put c => exact .tup h2 (.cons (.str _) (.cons (.str _) .nil))
  | copy s l => exact .tup h2 (.cons (.str _) (.cons (.int _) (.cons (.int _) .nil)))⟩
theorem same_str (x y : List Nat) : same (.str (mkS x)) (.str (mkS y)) = decide (x = y) := by
  have h : same (encD x) (encD y) = true ↔ x = y := DInj.inj x y
  by_cases e : x = y
  · rw [decide_eq_true e]; exact h.mpr e
  · rw [decide_eq_false e]
    cases q : same (.str (mkS x)) (.str (mkS y)) with
    | false => rfl
    | true => exact absurd (h.mp q) e
theorem same_int (x y : Int) : same (.int x) (.int y) = decide (x = y) := by
  have h : same (encD x) (encD y) = true ↔ x = y := DInj.inj x y
  by_cases e : x = y
  · rw [decide_eq_true e]; exact h.mpr e
  · rw [decide_eq_false e]
    cases q : same (.int x) (.int y) with
    | false => rfl
    | true => exact absurd (h.mp q) e
instance : DInj Phr := ⟨fun x y => by
  cases x with
  | put c =>
    cases y with
    | put d =>
      show same (.tuple [.str (mkS tPut), .str (mkS c)]) (.tuple [.str (mkS tPut), .str (mkS d)]) = true ↔ _
      unfold same
      simp only [sameAll, same_str, Bool.and_true, Bool.and_eq_true_iff]
      simp
    | copy s l =>
      show same (.tuple [.str (mkS tPut), .str (mkS c)]) (.tuple [.str (mkS tCopy), .int s, .int l]) = true ↔ _
      unfold same
      simp only [sameAll, same_str]
      simp
  | copy s l =>
    cases y with
    | put d =>
      show same (.tuple [.str (mkS tCopy), .int s, .int l]) (.tuple [.str (mkS tPut), .str (mkS d)]) = true ↔ _
      unfold same
      simp only [sameAll, same_str]
      simp
    | copy t m =>
      show same (.tuple [.str (mkS tCopy), .int s, .int l]) (.tuple [.str (mkS tCopy), .int t, .int m]) = true ↔ _
      unfold same
      simp only [sameAll, same_str, same_int, Bool.and_true, Bool.and_eq_true_iff]
      simp⟩
section
variable {X : Cx} {Γ : List Sl} {e a b c : Expr} {es : List Expr} {s : Sl} {ss : List Sl} {pos p p1 p2 p3 apos cpos : Pos} {x : Phr}
theorem px_phTag (ha : PX X Γ a (.is x)) (hb : PX X Γ b (.is (0 : Int))) (hs : PlainIx b := by exact fun _ _ => rfl) : PX X Γ (.Subscript a b pos) (.is x.tag) :=
  px_proj ha hb (fun Hd v ⟨t, h1, h2⟩ => by
    cases x with
    | put c => exact ⟨t, _, _, h1, h2, rfl, rfl⟩
    | copy s l => exact ⟨t, _, _, h1, h2, rfl, rfl⟩) hs
theorem px_phLet (ha : PX X Γ a (.is x)) (hb : PX X Γ b (.is (1 : Int))) (hp : x.isPut = true) (hs : PlainIx b := by exact fun _ _ => rfl) : PX X Γ (.Subscript a b pos) (.is x.let) :=
  px_proj ha hb (fun Hd v ⟨t, h1, h2⟩ => by
    cases x with
    | put c => exact ⟨t, _, _, h1, h2, rfl, rfl⟩
    | copy s l => cases hp) hs
theorem px_phStart (ha : PX X Γ a (.is x)) (hb : PX X Γ b (.is (1 : Int))) (hp : x.isPut = false) (hs : PlainIx b := by exact fun _ _ => rfl) : PX X Γ (.Subscript a b pos) (.is x.start) :=
  px_proj ha hb (fun Hd v ⟨t, h1, h2⟩ => by
    cases x with
    | put c => cases hp
    | copy s l => exact ⟨t, _, _, h1, h2, rfl, rfl⟩) hs
theorem px_phLen (ha : PX X Γ a (.is x)) (hb : PX X Γ b (.is (2 : Int))) (hp : x.isPut = false) (hs : PlainIx b := by exact fun _ _ => rfl) : PX X Γ (.Subscript a b pos) (.is x.len) :=
  px_proj ha hb (fun Hd v ⟨t, h1, h2⟩ => by
    cases x with
    | put c => cases hp
    | copy s l => exact ⟨t, _, _, h1, h2, rfl, rfl⟩) hs
theorem tag_put : (decide (x.tag = tPut)) = x.isPut := by cases x <;> simp [Phr.tag, Phr.isPut]
theorem tag_copy : (decide (x.tag = tCopy)) = !x.isPut := by cases x <;> simp [Phr.tag, Phr.isPut]
theorem phr_of_pair {c : List Nat} (h : PX X Γ e (.is (tPut, c))) : PX X Γ e (.is (Phr.put c)) := ⟨fun B ρ σ H h' Q q => h.run B ρ σ H h' _ fun v H1 e1 h1 => q v H1 e1 (by
  obtain ⟨l, Hd, z1, z2, z3, z4, z5, z6⟩ := h1
  have z7 := List.pairwise_cons.mp z6
  refine ⟨l, Hd, z1, z2, z3, z4, fun p hp => ?_, List.pairwise_cons.mpr ⟨fun q _ => apart_is q, z7.2⟩⟩
  rcases List.mem_cons.mp hp with z | z
  · rw [z]
    obtain ⟨w, f1, t, v1, v2, f2, f3, f4, f5⟩ := z5 _ List.mem_cons_self
    have f4 : v1 = .str (mkS tPut) := f4
    have f5 : v2 = .str (mkS c) := f5
    subst f4 f5
    exact ⟨w, f1, t, f2, f3⟩
  · exact z5 p (List.mem_cons_of_mem _ z))⟩
theorem phr_of_t3 {i j : Int} (h : PX X Γ e (.is (T3.mk tCopy i j))) : PX X Γ e (.is (Phr.copy i j)) := ⟨fun B ρ σ H h' Q q => h.run B ρ σ H h' _ fun v H1 e1 h1 => q v H1 e1 (by
  obtain ⟨l, Hd, z1, z2, z3, z4, z5, z6⟩ := h1
  have z7 := List.pairwise_cons.mp z6
  refine ⟨l, Hd, z1, z2, z3, z4, fun p hp => ?_, List.pairwise_cons.mpr ⟨fun q _ => apart_is q, z7.2⟩⟩
  rcases List.mem_cons.mp hp with z | z
  · rw [z]
    obtain ⟨w, f1, t, v1, v2, v3, f2, f3, f4, f5, f6⟩ := z5 _ List.mem_cons_self
    have f4 : v1 = .str (mkS tCopy) := f4
    have f5 : v2 = .int i := f5
    have f6 : v3 = .int j := f6
    subst f4 f5 f6
    exact ⟨w, f1, t, f2, f3⟩
  · exact z5 p (List.mem_cons_of_mem _ z))⟩
end
end DX
/-! DX17: pop, extend, targets of two names, enumerate. -/
namespace DX
open PySem PySem.Spec PyProof.Rows L2
open DEnc (encD)
section
variable {X : Cx} {M : Type} {L : Leaf M} {Γ Γ' : List Sl} {k : List (List Stmt)} {m : M} {st : Stmt} {sts : List Stmt} {e a b c tg iter : Expr} {es : List Expr} {pos p p' p2 apos cpos tpos : Pos} {s : Sl}
theorem lastIx {α : Type} [Inhabited α] {xs : List α} (h : 0 < xs.length) : xs[xs.length - 1]? = some (ix xs (-1)) := by
  have e := ix_ok (xs := xs) (i := -1) ⟨by omega, by omega⟩
  unfold atI ixN at e
  rw [if_neg (by decide), if_pos (by omega)] at e
  have e2 : ((-1 : Int) + (xs.length : Int)).toNat = xs.length - 1 := by omega
  have e : xs[((-1 : Int) + (xs.length : Int)).toNat]? = some (ix xs (-1)) := e
  rw [e2] at e
  exact e
theorem paired_dropLast {α β : Type} {F : α → β → Prop} : ∀ {l : List α} {m : List β}, Paired F l m → Paired F l.dropLast m.dropLast
  | _, _, .nil => .nil
  | _, _, .cons r .nil => .nil
  | _, _, .cons r (.cons q t) => .cons r (paired_dropLast (.cons q t))
/-- y2 = y.pop(), y one's own list -/
theorem sx_pop {α : Type} [Enc α] [Inhabited α] {xs : List α} {y y2 : Str} {mm : List α → α → M} (i j : Nat) (g : Γ[i]? = some (.own xs)) (hz : 0 < xs.length) (hr : ∀ x v, x = xs.dropLast → v = ix xs (-1) → SX X L ((Γ.set i (.own x)).set j (.is v)) (sts :: k) (mm x v)) (hN : X.N.Nodup) (hbo : Γ.any bors = false := by rfl)
    (hi : X.N[i]? = some y := by rfl) (hj : X.N[j]? = some y2 := by rfl) (hv : Vis X.env.scope y := by first | exact Or.inl rfl | exact Or.inr (Or.inl rfl) | exact Or.inr (Or.inr rfl)) (hx : Loc X.env.scope y2 := by first | exact Or.inl rfl | exact Or.inr rfl)
    (hd : (y == ("__debug__" : Str)) = false := by decide) (hcd : (y == ("__classdict__" : Str)) = false := by decide)
    (hbase : attributeBase (.Name y p) "pop" X.env (eval (.Name y p) X.env) = eval (.Name y p) X.env := by rfl) (hline : (apos.endLine == cpos.line) = true := by rfl)
    (hs : swapsWith (.Call (.Attribute (.Name y p) "pop" apos) [] [] cpos) (some (.Name y2 p')) pos.line X.env = pure false := by rfl) (hf : X.fn y2 = true ∨ X.env.scope.names.lookup y2 = some .local := by first | exact .inl rfl | exact .inr rfl) :
    SX X L Γ ((.Assign [.Name y2 p'] (.Call (.Attribute (.Name y p) "pop" apos) [] [] cpos) pos :: sts) :: k) (lt xs.dropLast fun x => lt (ix xs (-1)) fun v => mm x v) :=
  ⟨fun B ρ σ H D hb h l => wC_cons (go1 (ps_set hN hj hx (pe_bm0 PySem.F.plainAttrs_list PySem.F.slot_list_pop PySem.F.type_list_pop mt_pop (pe_var hi hv hd hcd) hbase hline) hs hf) (by
    obtain ⟨o, ho, hm⟩ := zip_get h.len g
    have h1 := h.takeOut g ho
    obtain ⟨a, vs, g1, g2, g3, g4⟩ := HasE.topL (.own xs) h1
    subst g1
    obtain ⟨v, f1, f2⟩ := g4 (xs.length - 1) (ix xs (-1)) (lastIx hz)
    have f1' : vs[vs.length - 1]? = some v := by rw [g3]; exact f1
    refine ⟨.ref a, ho, .inl ⟨rfl, vs, SqL.of g2⟩, a, vs, v, rfl, rfl, g2, f1', ?_⟩
    have h3 := HasE.mut (vs := vs) (vs' := vs.dropLast) (xs' := xs.dropLast) f2.swap (fun q hq lq => by
      rcases List.mem_append.mp hq with z | z
      · rcases List.mem_cons.mp z with z | z
        · rw [z] at lq; exact lq
        · exact no_lends (σ := σ) (Γ := Γ) hb hbo q (List.mem_append_left _ z) lq
      · exact no_lends (σ := σ) (Γ := Γ.set i .no) hb (bors_set hbo) q (List.mem_append_right _ z) lq) (fun Hd' ed ok own => paired_dropLast (own vs g2))
    have h4 := HasE.set i h3
    rw [set_same ho, set_set_sl] at h4
    exact (hr _ _ rfl rfl).run B ρ _ _ D hb (HasE.set j h4) l))⟩
/-- y.extend(e), y one's own list -/
theorem sx_ext {α : Type} [Enc α] {xs ys : List α} {y : Str} {mm : List α → M} (i : Nat) (g : Γ[i]? = some (.own xs)) (lk : Lk s ys) (he : PX X Γ e s) (hz : xs.length + ys.length ≤ sizeLine) (hr : ∀ x, x = xs ++ ys → SX X L (Γ.set i (.own x)) (sts :: k) (mm x)) (hsb : bors s = false := by rfl) (hbo : Γ.any bors = false := by rfl)
    (hi : X.N[i]? = some y := by rfl) (hv : Vis X.env.scope y := by first | exact Or.inl rfl | exact Or.inr (Or.inl rfl) | exact Or.inr (Or.inr rfl))
    (hd : (y == ("__debug__" : Str)) = false := by decide) (hcd : (y == ("__classdict__" : Str)) = false := by decide)
    (hbase : attributeBase (.Name y p) "extend" X.env (eval (.Name y p) X.env) = eval (.Name y p) X.env := by rfl)
    (hfew : ((backTo cpos (starEach [e] X.env)).all (fun x => !x.1) && (backToKw cpos (keywordEach [] X.env)).all (fun x => x.1.isSome)
      && decide (([e] : List Expr).length + ([] : List Keyword).length + (if ([] : List Keyword).isEmpty then 0 else 1) < 30)) = true := by rfl)
    (hline : (apos.endLine == cpos.line) = true := by rfl) (hs : starEach [e] X.env = (false, eval e X.env) :: starEach [] X.env := by rfl) (hplain : (backTo cpos (starEach [] X.env)).any (·.1) = false := by rfl)
    (hsw : swapsWith (.Call (.Attribute (.Name y p) "extend" apos) [e] [] cpos) none pos.line X.env = pure false := by rfl) :
    SX X L Γ ((.Expr (.Call (.Attribute (.Name y p) "extend" apos) [e] [] cpos) pos :: sts) :: k) (lt (xs ++ ys) mm) :=
  ⟨fun B ρ σ H D hb h l => wC_cons (go1 (ps_expr (pe_bm PySem.F.plainAttrs_list PySem.F.slot_list_extend PySem.F.type_list_extend mt_extend (pe_var hi hv hd hcd) (pa_cons peW pa_nil hs) hbase hfew hline hs hplain) hsw) (by
    obtain ⟨o, ho, hm⟩ := zip_get h.len g
    obtain ⟨zl, Hd, z1, z2, z3, z4, z5, z6⟩ := id h
    obtain ⟨a, vs, g1, g2, g3, g4, g5⟩ := z5 _ (List.mem_append_right _ hm)
    have g1 : o = some (.ref a) := g1
    subst g1
    refine ⟨.ref a, ho, .inl ⟨rfl, vs, SqL.of g4⟩, ?_⟩
    refine he.run B ρ σ H h _ fun w H1 e1 h1 => ?_
    have g4' : H1 a = some (.lst vs) := e1 _ _ g4
    obtain ⟨zl1, Hd1, y1, y2, y3, y4, y5, y6⟩ := id h1
    obtain ⟨b', ws, k1, k2, k3⟩ := lk.ok y2 (y5 _ List.mem_cons_self)
    injection k1 with k1
    subst k1
    refine ⟨a, b', vs, ws, rfl, rfl, g4', k2, by rw [paired_len g5, paired_len k3]; exact hz, ?_⟩
    have h2 := h1.takeOut g ho
    have h3 := HasE.mut (vs := vs) (vs' := vs ++ ws) (xs' := xs ++ ys) h2 (fun q hq lq => by
      rcases List.mem_append.mp hq with z | z
      · rcases List.mem_cons.mp z with z | z
        · rw [z] at lq
          cases s with
          | bor x => cases hsb
          | no => exact lq
          | is x => exact lq
          | own x => exact lq
          | arg x => exact lq
          | ownA c x => exact lq
          | gen fp Φ => exact lq
        · exact no_lends (σ := σ) (Γ := Γ) hb hbo q (List.mem_append_left _ z) lq
      · exact no_lends (σ := σ) (Γ := Γ.set i .no) hb (bors_set hbo) q (List.mem_append_right _ z) lq) (fun Hd' ed ok own => by
        obtain ⟨b2, ws2, m1, m2, m3⟩ := lk.ok ed (ok _ List.mem_cons_self)
        injection m1 with m1
        injection m1 with m1
        subst m1
        rw [k2] at m2
        injection m2 with m2
        injection m2 with m2
        subst m2
        exact paired_append (own vs g4') m3)
    have h4 := HasE.set i h3.pop2
    rw [set_same ho, set_set_sl] at h4
    exact (hr _ rfl).run B ρ σ _ D hb h4 l))⟩
theorem ixN_m1 {n : Nat} (h : 0 < n) : ixN n (-1) = some (n - 1) := by
  unfold ixN
  rw [if_neg (by decide), if_pos (by omega)]
  congr 1
  omega

/-! ### targets -/
structure GX (X : Cx) (tg : Expr) {α : Type} [Enc α] (put : List Sl → α → List Sl) : Prop where
  ex : ∃ g : TG, PG X tg g ∧ ∀ (B : Hp × Hp) (ρ : List Slot) (σ : L2.St) (H : Hp) (Γ : List Sl) (v : V) (x : α), HasE X.K B H ((some v, .is x) :: ρ) σ Γ → ∀ Q : L2.St → Hp → Prop, (∀ σ', HasE X.K B H ρ σ' (put Γ x) → Q σ' H) → g v σ H Q
theorem gx_name {α : Type} [Enc α] {y : Str} (j : Nat) (hN : X.N.Nodup) (hi : X.N[j]? = some y := by rfl) (hx : Loc X.env.scope y := by first | exact Or.inl rfl | exact Or.inr rfl) (hf : X.fn y = true ∨ X.env.scope.names.lookup y = some .local := by first | exact .inl rfl | exact .inr rfl) : GX X (.Name y pos) (fun Γ (x : α) => Γ.set j (.is x)) :=
  ⟨gName j, pg_name hN hi hx hf, fun B ρ σ H Γ v x h Q q => q _ (HasE.set j h)⟩
theorem gx_pair {α β : Type} [Enc α] [Enc β] {t1 t2 : Expr} {kk : Nat} {put1 : List Sl → α → List Sl} {put2 : List Sl → β → List Sl} (h1 : GX X t1 put1) (h2 : GX X t2 put2) (hc : X.calm = true := by rfl)
    (hn : (assignEach [t1, t2] X.env).length = 2 := by rfl) (hst : (assignEach [t1, t2] X.env).findIdx? (·.1) = none := by rfl)
    (hs1 : (assignEach [t1, t2] X.env).map (·.2) = assign t1 X.env :: (assignEach [t2] X.env).map (·.2) := by rfl) (hs2 : (assignEach [t2] X.env).map (·.2) = assign t2 X.env :: (assignEach [] X.env).map (·.2) := by rfl) :
    GX X (.Tuple [t1, t2] kk pos) (fun Γ (x : α × β) => put2 (put1 Γ x.1) x.2) := by
  obtain ⟨g1, p1, k1⟩ := h1.ex
  obtain ⟨g2, p2, k2⟩ := h2.ex
  refine ⟨gTup X.K 2 (gCons g1 (gCons g2 gNil)), pg_tup hc (pgs_cons p1 (pgs_cons p2 pgs_nil hs2) hs1) hn hst, fun B ρ σ H Γ v x h Q q => ?_⟩
  obtain ⟨l, Hd, z1, z2, z3, z4, z5, z6⟩ := id h
  obtain ⟨w, f1, t, v1, v2, f2, f3, f4, f5⟩ := z5 _ List.mem_cons_self
  have f1 : some v = some w := f1
  injection f1 with f1
  subst f1 f2
  refine ⟨t, [v1, v2], rfl, Evl.ex_t z2 f3, rfl, v1, [v2], rfl, ?_⟩
  have hh : HasE X.K B H ((some v1, .is x.1) :: (some v2, .is x.2) :: ρ) σ Γ := by
    have z7 := List.pairwise_cons.mp z6
    refine ⟨l, Hd, z1, z2, z3, z4, fun p hp => ?_, List.pairwise_cons.mpr ⟨fun q _ => apart_is q, List.pairwise_cons.mpr ⟨fun q _ => apart_is q, z7.2⟩⟩⟩
    rcases List.mem_cons.mp hp with z | z
    · rw [z]; exact ⟨v1, rfl, f4⟩
    · rcases List.mem_cons.mp z with z | z
      · rw [z]; exact ⟨v2, rfl, f5⟩
      · exact z5 p (List.mem_cons_of_mem _ z)
  refine k1 B _ σ H Γ v1 x.1 hh _ fun σ1 hh1 => ?_
  refine ⟨v2, [], rfl, ?_⟩
  refine k2 B ρ σ1 H _ v2 x.2 hh1 _ fun σ2 hh2 => ?_
  exact ⟨rfl, q σ2 hh2⟩
/-- a for that runs through, any target -/
theorem sx_forT {S α : Type} [Enc α] {xs : List α} {P : Prop} {body : List Stmt} {mm : S → M} (put : List Sl → α → List Sl) (Γf : S → List Sl) (step : S → α → S) (s0 : S) (I : Nat → S → Prop) (hi : IX X Γ tg iter xs P) (hg : GX X tg put) (hst : Wk Γ (Γf s0)) (h0 : I 0 s0)
    (hbd : ∀ (i : Nat) (s : S) (x : α), xs[i]? = some x → I i s → SX X (LNx X.K Γf) (put (Γf s) x) [body] (step s x))
    (hI : ∀ (i : Nat) (s : S) (x : α), xs[i]? = some x → I i s → I (i + 1) (step s x))
    (hrest : ∀ s, s = xs.foldl step s0 → I xs.length s → SX X L (Γf s) (sts :: k) (mm s))
    (hc : X.calm = true := by rfl) (hp : PassesOwn (model X.prog X.w) X.A X.env X.xe := by first | exact PassesOwn.never | exact PassesOwn.leaving) (hs : ∀ x, foldedSetIterable iter X.env x = pure x := by intro _; rfl) : SX X L Γ ((.For tg iter body [] pos :: sts) :: k) (lt (xs.foldl step s0) mm) := by
  obtain ⟨g, pg, kg⟩ := hg.ex
  refine ⟨fun B ρ σ H D hb h l => wC_cons (go1 (ps_for hp hc piW pg pssW hs) ?_)⟩
  refine hi.run B ρ σ H h _ fun J H1 τ hP e1 hbt h1 hgo hstop => ?_
  have unτ : ∀ {τ : List Slot} {H' : Hp} {σ' : L2.St} {Γ' : List Sl}, HasE X.K B H' (τ ++ ρ) σ' Γ' → HasE X.K B H' ρ σ' Γ' := by
    intro τ
    induction τ with
    | nil => exact fun h => h
    | cons t τ ih => exact fun h => ih h.pop
  have hbρ : ∀ p ∈ τ ++ ρ, noBor p := fun p hp => (List.mem_append.mp hp).elim (hbt p) (hb p)
  refine ⟨fun i mm' σ' H' => mm' = xs.length - i ∧ i ≤ xs.length ∧ I i ((xs.take i).foldl step s0) ∧ HasE X.K B H' (τ ++ ρ) σ' (Γf ((xs.take i).foldl step s0)), ⟨xs.length, by simp, Nat.zero_le _, h0, h1.weak hst⟩, ?_⟩
  rintro i mm' σ' H' ⟨rfl, hin, hIs, hh⟩
  by_cases hlt : i < xs.length
  · have hx : xs[i]? = some xs[i] := List.getElem?_eq_getElem hlt
    obtain ⟨g1, g2⟩ := hgo [] σ' _ H' i xs[i] hh hx
    have tk : (xs.take (i + 1)).foldl step s0 = step ((xs.take i).foldl step s0) xs[i] := by
      rw [List.take_succ, hx, List.foldl_append]
      rfl
    refine .inr ⟨g1, fun σ2 H2 => I (i + 1) ((xs.take (i + 1)).foldl step s0) ∧ HasE X.K B H2 (τ ++ ρ) σ2 (Γf ((xs.take (i + 1)).foldl step s0)), fun σ2 H2 ⟨a1, a2⟩ => ⟨xs.length - (i + 1), by omega, rfl, hlt, a1, a2⟩, fun v H2 y => ?_⟩
    obtain ⟨e3, k3⟩ := g2 v H2 y
    refine kg B (τ ++ ρ) σ' H2 _ v xs[i] k3 _ fun σ3 k4 => ?_
    refine (hbd i _ xs[i] hx hIs).run B (τ ++ ρ) _ H2 { D with nx := fun σ2 H2 => I (i + 1) ((xs.take (i + 1)).foldl step s0) ∧ HasE X.K B H2 (τ ++ ρ) σ2 (Γf ((xs.take (i + 1)).foldl step s0)), ct := fun σ2 H2 => I (i + 1) ((xs.take (i + 1)).foldl step s0) ∧ HasE X.K B H2 (τ ++ ρ) σ2 (Γf ((xs.take (i + 1)).foldl step s0)), bk := fun σ' H' => wC X (sts :: k) D σ' H' } hbρ k4 fun σ3 H3 h3 => ?_
    rw [tk]
    exact ⟨hI i _ xs[i] hx hIs, h3⟩
  · have e : i = xs.length := by omega
    subst e
    rw [List.take_length] at hIs hh
    exact .inl ⟨hstop [] σ' _ H' hh, (hrest _ rfl hIs).run B ρ σ' H' D hb (unτ hh) l⟩
/-- a for that may be left, any target -/
theorem sx_forGT {S R α : Type} [Enc α] {xs : List α} {P : Prop} {body : List Stmt} {mm : S → M} {mr : R → M} {L0 : Leaf R} (put : List Sl → α → List Sl) (Γf : S → List Sl) (step : S → α → Out S R) (s0 : S) (I : Nat → S → Prop) (hi : IX X Γ tg iter xs P) (hg : GX X tg put) (hst : Wk Γ (Γf s0)) (h0 : I 0 s0)
    (hbd : ∀ (i : Nat) (s : S) (x : α), xs[i]? = some x → I i s → SX X (LOutG X.K Γf L0) (put (Γf s) x) [body] (step s x))
    (hI : ∀ (i : Nat) (s : S) (x : α) (s' : S), xs[i]? = some x → I i s → step s x = .go s' → I (i + 1) s')
    (hret : Rts L L0 mr) (hrest : ∀ s, (forO step s0 xs = .go s ∧ I xs.length s ∨ forO step s0 xs = .brk s) → SX X L (Γf s) (sts :: k) (mm s))
    (hc : X.calm = true := by rfl) (hp : PassesOwn (model X.prog X.w) X.A X.env X.xe := by first | exact PassesOwn.never | exact PassesOwn.leaving) (hs : ∀ x, foldedSetIterable iter X.env x = pure x := by intro _; rfl) : SX X L Γ ((.For tg iter body [] pos :: sts) :: k) (forK step s0 xs mm mr) := by
  obtain ⟨g, pg, kg⟩ := hg.ex
  refine ⟨fun B ρ σ H D hb h l => wC_cons (go1 (ps_for hp hc piW pg pssW hs) ?_)⟩
  refine hi.run B ρ σ H h _ fun J H1 τ hP e1 hbt h1 hgo hstop => ?_
  have unτ : ∀ {τ : List Slot} {H' : Hp} {σ' : L2.St} {Γ' : List Sl}, HasE X.K B H' (τ ++ ρ) σ' Γ' → HasE X.K B H' ρ σ' Γ' := by
    intro τ
    induction τ with
    | nil => exact fun h => h
    | cons t τ ih => exact fun h => ih h.pop
  have hbρ : ∀ p ∈ τ ++ ρ, noBor p := fun p hp => (List.mem_append.mp hp).elim (hbt p) (hb p)
  refine ⟨fun i mm' σ' H' => mm' = xs.length - i ∧ i ≤ xs.length ∧ ∃ s, I i s ∧ forO step s0 xs = forO step s (xs.drop i) ∧ HasE X.K B H' (τ ++ ρ) σ' (Γf s), ⟨xs.length, by simp, Nat.zero_le _, s0, h0, rfl, h1.weak hst⟩, ?_⟩
  rintro i mm' σ' H' ⟨rfl, hin, s, hIs, hf, hh⟩
  by_cases hlt : i < xs.length
  · have hx : xs[i]? = some xs[i] := List.getElem?_eq_getElem hlt
    obtain ⟨g1, g2⟩ := hgo [] σ' (Γf s) H' i xs[i] hh hx
    rw [List.drop_eq_getElem_cons hlt] at hf
    refine .inr ⟨g1, fun σ2 H2 => ∃ s', I (i + 1) s' ∧ forO step s0 xs = forO step s' (xs.drop (i + 1)) ∧ HasE X.K B H2 (τ ++ ρ) σ2 (Γf s'), fun σ2 H2 ⟨s', a1, a2, a3⟩ => ⟨xs.length - (i + 1), by omega, rfl, hlt, s', a1, a2, a3⟩, fun v H2 y => ?_⟩
    obtain ⟨e3, k3⟩ := g2 v H2 y
    have hf' : forO step s0 xs = (match step s xs[i] with
      | .go s' => forO step s' (xs.drop (i + 1))
      | .brk s' => .brk s'
      | .ret r => .ret r) := hf
    refine kg B (τ ++ ρ) σ' H2 _ v xs[i] k3 _ fun σ3 k4 => ?_
    refine (hbd i s xs[i] hx hIs).run B (τ ++ ρ) _ H2 { D with nx := fun σ2 H2 => ∃ s', I (i + 1) s' ∧ forO step s0 xs = forO step s' (xs.drop (i + 1)) ∧ HasE X.K B H2 (τ ++ ρ) σ2 (Γf s'), ct := fun σ2 H2 => ∃ s', I (i + 1) s' ∧ forO step s0 xs = forO step s' (xs.drop (i + 1)) ∧ HasE X.K B H2 (τ ++ ρ) σ2 (Γf s'), bk := fun σ' H' => wC X (sts :: k) D σ' H' } hbρ k4 ?_
    cases q : step s xs[i] with
    | go s' =>
      rw [q] at hf'
      have hI' := hI i s xs[i] s' hx hIs q
      exact ⟨fun σ3 H3 h3 => ⟨s', hI', hf', h3⟩, fun σ3 H3 h3 => ⟨s', hI', hf', h3⟩⟩
    | brk s' =>
      rw [q] at hf'
      intro σ3 H3 h3
      refine (hrest s' (.inr hf')).run B ρ σ3 H3 D hb (unτ h3) ?_
      unfold forK at l
      rw [hf'] at l
      exact l
    | ret r =>
      rw [q] at hf'
      unfold forK at l
      rw [hf'] at l
      exact hret B r D _ ρ _ rfl l
  · have e : i = xs.length := by omega
    subst e
    rw [List.drop_length] at hf
    have hf' : forO step s0 xs = .go s := hf
    refine .inl ⟨hstop [] σ' (Γf s) H' hh, (hrest s (.inl ⟨hf', hIs⟩)).run B ρ σ' H' D hb (unτ hh) ?_⟩
    unfold forK at l
    rw [hf'] at l
    exact l
/-! ### enumerate -/
def enumI {α : Type} (xs : List α) : List (Int × α) := (List.range xs.length).zipWith (fun (i : Nat) x => ((i : Int), x)) xs
theorem enumI_get {α : Type} {xs : List α} {i : Nat} {p : Int × α} (h : (enumI xs)[i]? = some p) : p.1 = (i : Int) ∧ xs[i]? = some p.2 := by
  unfold enumI at h
  rw [List.getElem?_zipWith] at h
  cases q : xs[i]? with
  | none => rw [q] at h; split at h <;> simp_all
  | some x =>
    have hl := (List.getElem?_eq_some_iff.mp q).1
    rw [q, List.getElem?_range hl] at h
    have h : some ((i : Int), x) = some p := h
    injection h with h
    subst h
    exact ⟨rfl, rfl⟩
theorem enumI_length {α : Type} (xs : List α) : (enumI xs).length = xs.length := by
  unfold enumI
  simp
theorem it_enum {α : Type} [Enc α] {xs : List α} {elts : List Expr} {kk : Nat} (hm : X.mg "enumerate" = none) (h : PX X Γ a (@Sl.is (List α) encList xs)) (hg : Gl X "enumerate" := by rfl) (hs : starEach [a] X.env = [(false, eval a X.env)] := by rfl) :
    IX X Γ (.Tuple elts kk tpos) (.Call (.Name "enumerate" p) [a] [] pos) (enumI xs) True := ⟨fun B ρ σ H h' R q => goI (pi_enum hg hm (pa_cons peW pa_nil hs) hs) (h.run B ρ σ H h' _ fun v H1 e1 h1 => by
  obtain ⟨a', vs, g1, g2, g3, _⟩ := HasE.topL (.is xs) h1
  injection g1 with g1
  subst g1
  refine ⟨a', vs, rfl, SqL.of g2, q (Ite X.K a') H1 [(some (.ref a'), .is xs)] trivial e1 (fun p hp => by rw [List.mem_singleton.mp hp]; trivial) h1 ?_ ?_⟩
  · intro ρ' σ' Γ' H' i x k hx
    obtain ⟨hx1, hx2⟩ := enumI_get hx
    obtain ⟨Hd, ed, ok⟩ := HasE.midS (τ := []) k
    obtain ⟨b', ws, m1, m2, m3⟩ := (Lk.is xs).ok ed ok
    injection m1 with m1
    injection m1 with m1
    subst m1
    obtain ⟨u, n1, n2⟩ := paired_get m3 hx2
    refine ⟨⟨ws, u, SqL.of m2, n1⟩, fun v H'' y => ?_⟩
    obtain ⟨T, z, y1, y2, y3, y4⟩ := y
    subst y1 y3
    have ev : ws[i]? = some z := y4 ws (SqL.of m2)
    refine ⟨Ex.new y2, ?_⟩
    refine HasE.newIs (x := x) k y2 fun Hd2 ed2 hn2 ok2 => ?_
    obtain ⟨b2, ws2, m1', m2', m3'⟩ := (Lk.is xs).ok ed2 (ok2 (some (.ref a'), .is xs) (List.mem_append_left _ (List.mem_append_right _ List.mem_cons_self)))
    injection m1' with m1'
    injection m1' with m1'
    subst m1'
    rw [m2] at m2'
    injection m2' with m2'
    injection m2' with m2'
    subst m2'
    obtain ⟨u2, n1', n2'⟩ := paired_get m3' hx2
    rw [ev] at n1'
    injection n1' with n1'
    subst n1'
    exact ⟨T, .int (i : Nat), z, rfl, SqT.of upd_same, by show V.int _ = V.int _; rw [hx1], Enc.mono (Ex.new hn2) n2'⟩
  · intro ρ' σ' Γ' H' k
    obtain ⟨Hd, ed, ok⟩ := HasE.midS (τ := []) k
    obtain ⟨b', ws, m1, m2, m3⟩ := (Lk.is xs).ok ed ok
    injection m1 with m1
    injection m1 with m1
    subst m1
    exact ⟨ws, SqL.of m2, by rw [paired_len m3, enumI_length]; exact Nat.le_refl _⟩)⟩
end
end DX
/-! DX18: objects of a class of the text's own as data: attributes, methods, making. -/
namespace DX
open PySem PySem.Spec PyProof.Rows L2
open DEnc (encD)
/-- the class of that name -/
abbrev ClsAt (K : PySem.W.Frag) (x : Str) (C : Addr) : Prop := PySem.W.nsIn K mainGlobals x = some (some (.ref C))
theorem clsAt_eq {K : PySem.W.Frag} {x : Str} {C D : Addr} (h : ClsAt K x C) (g : ClsAt K x D) : C = D := by
  have : some (some (Value.ref C)) = some (some (Value.ref D)) := h.symm.trans g
  injection this with this
  injection this with this
  injection this
/-- values that are objects of one class with these attributes -/
class Ob (α : Type) [Enc α] where
  cls : Str
  fields : List Str
  get : ∀ {K : PySem.W.Frag} {H : Hp} {v : V} {x : α}, Enc.rep K H v x → ∃ a C dx fs, v = .ref a ∧ ClsAt K cls C ∧ H a = some (.ins C dx fs) ∧ fs.map (·.1) = fields
theorem lookup_none {m : Str} : ∀ {fs : List (Str × V)}, (fs.map (·.1)).contains m = false → fs.lookup m = none
  | [], _ => rfl
  | (g, v) :: r, h => by
    rw [List.map_cons, List.contains_cons, Bool.or_eq_false_iff] at h
    unfold List.lookup
    rw [h.1]
    exact lookup_none h.2
structure MethOk (P : Program) (w : World) (K : PySem.W.Frag) (mg : Str → Option Value) (base : Heap) (k : Nat) (cls m : Str) (n : Nat) (sp : Sp) : Prop where
  ex : ∃ (C f : Addr) (fd : FuncData) (ps : List Str), ClsAt K cls C ∧ Cls K C ∧ Meth K C m f ∧ FnOk P w K mg base CX0 k f fd ps sp ∧ Binds K fd ps [] ∧ ps.length = n
/-- __init__'s promise: the object that is made is mk of what it is handed -/
def spI {ι α : Type} [Enc α] (K : PySem.W.Frag) (cls : Str) (pre : ι → Prop) (args : ι → List Sl) (mk : ι → α) : Sp := fun vs H Q _ => ∃ (x dx C : Addr) (H0 Hd0 : Hp) (i : ι) (ws : List V), vs = .ref x :: ws ∧ H = upd (upd H0 dx (.own x)) x (.ins C dx []) ∧ H0 x = none ∧ H0 dx = none ∧ dx ≠ x ∧ ClsAt K cls C ∧ Ex Hd0 H0 ∧ pre i ∧
  ws.length = (args i).length ∧ (∀ p ∈ (ws.map some).zip (args i), SlotOk K H0 Hd0 H0 p.1 p.2 ∧ ∀ q, apart p q) ∧
  ∀ H', Ex H0 H' → (∃ Hd', Ex Hd0 Hd' ∧ Ex Hd' H' ∧ (∀ a, Hd0 a = none → H0 a ≠ none → Hd' a = none) ∧ Enc.rep K Hd' (.ref x) (mk i)) → Q .non H'
structure MakeOk (P : Program) (w : World) (K : PySem.W.Frag) (mg : Str → Option Value) (base : Heap) (k : Nat) (cls : Str) (n : Nat) (sp : Sp) : Prop where
  ex : ∃ (C f : Addr) (fd : FuncData) (ps : List Str), ClsAt K cls C ∧ mg cls = some (.ref C) ∧ Mk K C f ∧ FnOk P w K mg base CX0 k f fd ps sp ∧ Binds K fd ps [] ∧ ps.length = n
section
variable {X : Cx} {Γ : List Sl} {e a b c o : Expr} {es : List Expr} {s : Sl} {ss : List Sl} {pos p p1 p2 p3 apos cpos : Pos}
theorem px_attr {α β : Type} [Enc α] [Enc β] {x : α} {y : β} {f cls : Str} {C : Addr} (hC : ClsAt X.K cls C) (c : Cls X.K C) (n : NoAttr X.K C f)
    (get : ∀ (Hd : Hp) (v : V), Enc.rep X.K Hd v x → ∃ a C' dx fs u, v = .ref a ∧ ClsAt X.K cls C' ∧ Hd a = some (.ins C' dx fs) ∧ fs.lookup f = some u ∧ Enc.rep X.K Hd u y) (ha : PX X Γ a (.is x)) (hb : attributeBase a f X.env (eval a X.env) = eval a X.env := by rfl) : PX X Γ (.Attribute a f pos) (.is y) :=
  ⟨fun B ρ σ H h Q q => goE (pe_fld peW hb) (ha.run B ρ σ H h _ fun v H1 e1 h1 => by
    obtain ⟨l, Hd, z1, z2, z3, z4, z5, z6⟩ := id h1
    obtain ⟨w, f1, f2⟩ := z5 _ List.mem_cons_self
    have f1 : some v = some w := f1
    injection f1 with f1
    subst f1
    obtain ⟨a', C', dx, fs, u, g1, g2, g3, g4, g5⟩ := get Hd v f2
    subst g1
    have := clsAt_eq hC g2
    subst this
    refine ⟨a', C, dx, fs, u, rfl, z2 _ _ g3, c, n, g4, q u H1 e1 ?_⟩
    exact HasE.pop2 ⟨l, Hd, z1, z2, z3, z4, fun r hr => (List.mem_cons.mp hr).elim (fun z => by rw [z]; exact ⟨u, rfl, g5⟩) (z5 r), List.pairwise_cons.mpr ⟨fun r _ => apart_is r, z6⟩⟩)⟩
/-- back from a call: what it gives back stands on top -/
theorem back {K : PySem.W.Frag} {B : Hp × Hp} {H1 H' Hd Hd' : Hp} {ρ : List Slot} {σ : L2.St} {v : V} {s0 : Sl} (zl : σ.length = Γ.length) (z1 : Ex B.1 Hd) (z3 : Ex B.2 H1) (z4 : ∀ a, B.1 a = none → B.2 a ≠ none → Hd a = none) (z5 : ∀ p ∈ ρ ++ σ.zip Γ, SlotOk K B.2 Hd H1 p.1 p.2) (z6 : (ρ ++ σ.zip Γ).Pairwise apart)
    (f1 : Ex Hd Hd') (f2 : Ex Hd' H') (f3 : Ex H1 H') (f4 : ∀ a, Hd a = none → H1 a ≠ none → Hd' a = none) (f5 : ResOk K H1 Hd' H' (some v) s0) : HasE K B H' ((some v, s0) :: ρ) σ Γ := by
  refine ⟨zl, Hd', z1.trans f1, f2, z3.trans f3, fun a' b1 b2 => f4 a' (z4 a' b1 b2) fun c => b2 (z3.back c), fun r hr => ?_, ?_⟩
  · rcases List.mem_cons.mp hr with c | c
    · rw [c]
      show SlotOk K B.2 Hd' H' (some v) s0
      cases s0 with
      | no => trivial
      | is y => exact f5.1
      | bor y => exact f5.1
      | arg y => exact f5.2.elim
      | ownA c y => exact f5.2.elim
      | gen fp Φ => exact f5.2.elim
      | own y =>
        obtain ⟨a', ws, g1, g2, g3, g4, g5⟩ := f5.1
        exact ⟨a', ws, g1, z3.back g2, g3, g4, g5⟩
    · exact (z5 r c).mono f1 f3 fun a' b1 b2 => f4 a' b2 b1
  · refine List.pairwise_cons.mpr ⟨fun r hr a' o1 o2 => ?_, z6⟩
    cases s0 with
    | no => exact o1.elim
    | is y => exact o1.elim
    | bor y => exact o1.elim
    | arg y => exact o1.elim
    | ownA c y => exact f5.2.elim
    | gen fp Φ => exact f5.2.elim
    | own y =>
      obtain ⟨b', ws, g1, g2, g3, g4, g5⟩ := f5.1
      have o1 : some v = some (V.ref a') := o1
      have g1 : some v = some (V.ref b') := g1
      rw [o1] at g1
      injection g1 with g1
      injection g1 with g1
      subst g1
      exact owns_ne (z5 r hr) o2 g2 rfl
theorem px_meth0 {ι α : Type} [Enc α] [Ob α] {x : α} {k : Nat} {m : Str} {pre : ι → Prop} {args : ι → List Sl} {res : ι → Sl} {pl : Sem Bool} (F : MethOk X.prog X.w X.K X.mg X.base k (Ob.cls α) m 1 (spD X.K pre args res)) (i : ι) (hp : pre i) (hr : Room k X.A) (hai : args i = [.is x]) (ho : PX X Γ o (.is x)) (hm : (Ob.fields α).contains m = false := by decide)
    (hx : Passes CX0 X E0 := by exact pass0) (ht : eval (.Call (.Attribute o m apos) [] [] pos) X.env = (do
      let ov ← eval o X.env
      standAt apos.atName
      let (f, first) ← holding [ov] (getMethod ov m pl)
      callWith pos f first (backTo pos (starEach [] X.env)) (backToKw pos (keywordEach [] X.env))) := by rfl) {s0 : Sl} (hs0 : res i = s0 := by rfl) : PX X Γ (.Call (.Attribute o m apos) [] [] pos) s0 := by
  subst hs0
  obtain ⟨C, f, fd, ps, hC, c, hme, F, hb, _⟩ := F.ex
  refine ⟨fun B ρ σ H h Q q => goE (pe_meth0 peW c hme F hr hb .nil hx ht) (ho.run B ρ σ H h _ fun v H1 e1 h1 => ?_)⟩
  obtain ⟨zl, Hd, z1, z2, z3, z4, z5, z6⟩ := id h1
  obtain ⟨w, f1, f2⟩ := z5 _ List.mem_cons_self
  have f1 : some v = some w := f1
  injection f1 with f1
  subst f1
  obtain ⟨a', C', dx, fs, g1, g2, g3, g4⟩ := Ob.get f2
  subst g1
  have := clsAt_eq hC g2
  subst this
  refine ⟨a', dx, fs, rfl, z2 _ _ g3, lookup_none (by rw [g4]; exact hm), Hd, i, z2, hp, by rw [hai]; rfl, fun r hr => ?_, fun v' H' Hd' k1 k2 k3 k4 k5 => q v' H' (e1.trans k3) ?_⟩
  · rw [hai] at hr
    rw [List.mem_singleton.mp hr]
    exact ⟨⟨_, rfl, f2⟩, fun q => apart_is q⟩
  · exact HasE.pop2 (back zl z1 z3 z4 z5 z6 k1 k2 k3 k4 k5)
theorem px_methN {ι α : Type} [Enc α] [Ob α] {x : α} {k n : Nat} {m : Str} {pre : ι → Prop} {args : ι → List Sl} {res : ι → Sl} {rest : List Sl} {pl : Sem Bool} (F : MethOk X.prog X.w X.K X.mg X.base k (Ob.cls α) m n (spD X.K pre args res)) (i : ι) (hp : pre i) (hr : Room k X.A) (hai : args i = .is x :: rest) (ho : PX X Γ o (.is x)) (ha : AX X Γ (e :: es) ss) (fit : Fits ss rest) (hm : (Ob.fields α).contains m = false := by decide)
    (hx : Passes CX0 X E0 := by exact pass0) (hst : starEach (e :: es) X.env = (false, eval e X.env) :: starEach es X.env := by rfl) (hpl : (backTo pos (starEach es X.env)).any (·.1) = false := by rfl) (ht : eval (.Call (.Attribute o m apos) (e :: es) [] pos) X.env = (do
      let ov ← eval o X.env
      standAt apos.atName
      let (f, first) ← holding [ov] (getMethod ov m pl)
      callWith pos f first (backTo pos (starEach (e :: es) X.env)) (backToKw pos (keywordEach [] X.env))) := by rfl) {s0 : Sl} (hs0 : res i = s0 := by rfl) : PX X Γ (.Call (.Attribute o m apos) (e :: es) [] pos) s0 := by
  subst hs0
  obtain ⟨C, f, fd, ps, hC, c, hme, F, hb, _⟩ := F.ex
  refine ⟨fun B ρ σ H h Q q => goE (pe_meth peW c hme F hr hb .nil hx paW hst hpl ht) (ho.run B ρ σ H h _ fun v H1 e1 h1 => ?_)⟩
  obtain ⟨zl, Hd, z1, z2, z3, z4, z5, z6⟩ := id h1
  obtain ⟨w, f1, f2⟩ := z5 _ List.mem_cons_self
  have f1 : some v = some w := f1
  injection f1 with f1
  subst f1
  obtain ⟨a', C', dx, fs, g1, g2, g3, g4⟩ := Ob.get f2
  subst g1
  have := clsAt_eq hC g2
  subst this
  refine ⟨a', dx, fs, rfl, z2 _ _ g3, lookup_none (by rw [g4]; exact hm), ha.run B _ σ H1 h1 _ fun vs H2 e2 lv h2 => ?_⟩
  obtain ⟨yl, Hd2, y1, y2, y3, y4, y5, y6⟩ := id h2
  have fit2 : Fits (.is x :: ss) (.is x :: rest) := .is fit
  refine ⟨Hd2, i, y2, hp, by rw [hai, List.append_nil]; simp [lv, fit.len], fun r hr => ?_, fun v' H' Hd' k1 k2 k3 k4 k5 => q v' H' ((e1.trans e2).trans k3) ?_⟩
  · rw [hai, List.append_nil] at hr
    rcases List.mem_cons.mp hr with z | z
    · rw [z]
      obtain ⟨w2, m1, m2⟩ := y5 (some (.ref a'), .is x) (List.mem_append_left _ (pushAll_mem (.inr List.mem_cons_self)))
      exact ⟨⟨w2, m1, m2⟩, fun q => apart_is q⟩
    · exact fit.ok y2 (fun p hp => y5 p (List.mem_append_left _ (pushAll_mem (.inl hp)))) r z
  · exact HasE.pop2 (drop_mid (back yl y1 y3 y4 y5 y6 k1 k2 k3 k4 k5))
theorem px_make {ι α : Type} [Enc α] {k n : Nat} {cls : Str} {pre : ι → Prop} {args : ι → List Sl} {mk : ι → α} (F : MakeOk X.prog X.w X.K X.mg X.base k cls n (spI X.K cls pre args mk)) (i : ι) (hp : pre i) (hr : Room (k + 1) X.A) (ha : AX X Γ (e :: es) ss) (fit : Fits ss (args i)) (hg : Gl X cls := by rfl)
    (hx : Passes CX0 X E0 := by exact pass0) (hdb : (cls == ("__debug__" : Str)) = false := by decide) (he : starEach (e :: es) X.env = (false, eval e X.env) :: starEach es X.env := by rfl) (hpl : (backTo pos (starEach es X.env)).any (·.1) = false := by rfl) {z : α} (hz : mk i = z := by rfl) : PX X Γ (.Call (.Name cls p) (e :: es) [] pos) (.is z) := by
  subst hz
  obtain ⟨C, f, fd, ps, hC, hm, M, F, hb, _⟩ := F.ex
  refine ⟨fun B ρ σ H h Q q => goE (pe_make M F hr hg hm hb .nil hx paW hdb he hpl) (ha.run B ρ σ H h _ fun vs H1 e1 l h1 => ?_)⟩
  intro x dx n1 n2 n3
  rw [List.append_nil]
  obtain ⟨zl, Hd, z1, z2, z3, z4, z5, z6⟩ := id h1
  refine ⟨x, dx, C, H1, Hd, i, vs, rfl, rfl, n1, n2, n3, hC, z2, hp, l.trans fit.len, fit.ok z2 fun r hr => z5 r (List.mem_append_left _ (pushAll_mem (.inl hr))), fun H' k1 k2 => ⟨rfl, ?_⟩⟩
  obtain ⟨Hd', m1, m2, m3, m4⟩ := k2
  exact q _ H' (e1.trans k1) (drop_mid (vs := vs) (ss := ss) (back zl z1 z3 z4 z5 z6 m1 m2 k1 m3 ⟨⟨_, rfl, m4⟩, trivial⟩))
end

/-! ### within __init__ -/
def plainSl : Sl → Prop
  | .no => True
  | @Sl.is _ _ _ => True
  | _ => False
section
variable {X : Cx} {Γ : List Sl} {e : Expr} {k : List (List Stmt)} {sts : List Stmt} {D : Ends} {σ : L2.St} {H H0 Hd HB : Hp} {x dx C : Addr} {fs : List (Str × V)} {pos p p' : Pos}
/-- self.f = e -/
theorem init_store {β : Type} [Enc β] {y : β} {f sn : Str} (he : PX X Γ e (.is y)) (hG : ∀ s ∈ Γ, plainSl s) (hσ : σ[0]? = some (some (.ref x))) (hx : H x = some (.ins C dx fs)) (hBx : HB x ≠ none) (hd : Hd x = none) (hH0 : H0 x = none) (e0 : Ex H0 HB) (c : Cls X.K C) (n : NoAttr X.K C f) (hl : fs.length < 1000) (h : HasE X.K (Hd, HB) H [] σ Γ)
    (cont : ∀ v H2 Hd2, Ex Hd Hd2 → Ex H0 H2 → (∀ a, Hd a = none → HB a ≠ none → Hd2 a = none) → H2 x = some (.ins C dx (putF f v fs)) → Enc.rep X.K Hd2 v y → HasE X.K (Hd2, H2) H2 [] σ Γ → wC X (sts :: k) D σ H2)
    (hN : X.N[0]? = some sn := by rfl) (hv : Vis X.env.scope sn := by first | exact Or.inl rfl | exact Or.inr (Or.inl rfl) | exact Or.inr (Or.inr rfl)) (hdb : (sn == ("__debug__" : Str)) = false := by decide) (hcd : (sn == ("__classdict__" : Str)) = false := by decide)
    (hs : swapsWith e (some (.Attribute (.Name sn p) f p')) pos.line X.env = pure false := by rfl) : wC X ((.Assign [.Attribute (.Name sn p) f p'] e pos :: sts) :: k) D σ H := by
  refine wC_cons (go1 (ps_fld (pe_var hN hv hdb hcd) peW hs) (he.run (Hd, HB) [] σ H h _ fun v H1 e1 h1 => ?_))
  obtain ⟨l, Hd1, z1, z2, z3, z4, z5, z6⟩ := id h1
  obtain ⟨w, f1, f2⟩ := z5 _ List.mem_cons_self
  have f1 : some v = some w := f1
  injection f1 with f1
  subst f1
  have hd1 : Hd1 x = none := z4 x hd hBx
  have hx1 : H1 x = some (.ins C dx fs) := e1 _ _ hx
  have ex2 : ∀ {G : Hp}, Ex G H1 → G x = none → Ex G (upd H1 x (.ins C dx (putF f v fs))) := fun e hn => e.mut hn
  refine ⟨.ref x, hσ, x, C, dx, fs, rfl, hx1, c, n, hl, ?_⟩
  refine cont v _ Hd1 z1 (ex2 (e0.trans z3) hH0) (fun a b1 b2 => z4 a b1 b2) upd_same f2 ⟨l, Hd1, Ex.refl _, ex2 z2 hd1, Ex.refl _, fun a b _ => b, fun q hq => ?_, (List.pairwise_cons.mp z6).2⟩
  have ok := z5 q (List.mem_cons_of_mem _ hq)
  have hq' : q ∈ σ.zip Γ := by simpa using hq
  have hp := hG q.2 (List.of_mem_zip (show (q.1, q.2) ∈ _ from hq')).2
  obtain ⟨o, s⟩ := q
  cases s with
  | no => trivial
  | is z => exact ok
  | own z => exact hp.elim
  | bor z => exact hp.elim
  | arg z => exact hp.elim
  | ownA c z => exact hp.elim
  | gen fp Φ => exact hp.elim
theorem init_expr {s : Sl} (he : PX X Γ e s) (h : HasE X.K (Hd, HB) H [] σ Γ) (cont : ∀ H1, Ex H H1 → HasE X.K (Hd, HB) H1 [] σ Γ → wC X (sts :: k) D σ H1) (hs : swapsWith e none pos.line X.env = pure false := by rfl) : wC X ((.Expr e pos :: sts) :: k) D σ H :=
  wC_cons (go1 (ps_expr peW hs) (he.run (Hd, HB) [] σ H h _ fun v H1 e1 h1 => cont H1 e1 h1.pop))
end

/-! ### a Copies as data -/
structure CopD where
  ph : List Phr
  len : Int
instance encCop : Enc CopD where
  rep := fun K H v x => ∃ a C dx vp, v = .ref a ∧ ClsAt K "Copies" C ∧ H a = some (.ins C dx [("phrases", vp), ("_length", .int x.len)]) ∧ Enc.rep K H vp (Tup.mk x.ph)
  mono := fun e ⟨a, C, dx, vp, h1, h2, h3, h4⟩ => ⟨a, C, dx, vp, h1, h2, e _ _ h3, Enc.mono e h4⟩
instance : Ob CopD := ⟨"Copies", ["phrases", "_length"], fun ⟨a, C, dx, vp, h1, h2, h3, h4⟩ => ⟨a, C, dx, _, h1, h2, h3, rfl⟩⟩
section
variable {X : Cx} {Γ : List Sl} {a : Expr} {pos : Pos} {x : CopD} {C : Addr}
theorem px_phrases (hC : ClsAt X.K "Copies" C) (c : Cls X.K C) (n : NoAttr X.K C "phrases") (ha : PX X Γ a (.is x)) (hb : attributeBase a "phrases" X.env (eval a X.env) = eval a X.env := by rfl) : PX X Γ (.Attribute a "phrases" pos) (.is (Tup.mk x.ph)) :=
  px_attr (x := x) hC c n (fun Hd v h => by obtain ⟨a, C, dx, vp, h1, h2, h3, h4⟩ := h; exact ⟨a, C, dx, _, vp, h1, h2, h3, rfl, h4⟩) ha hb
theorem px_lenOf (hC : ClsAt X.K "Copies" C) (c : Cls X.K C) (n : NoAttr X.K C "_length") (ha : PX X Γ a (.is x)) (hb : attributeBase a "_length" X.env (eval a X.env) = eval a X.env := by rfl) : PX X Γ (.Attribute a "_length" pos) (.is x.len) :=
  px_attr (x := x) hC c n (fun Hd v h => by obtain ⟨a, C, dx, vp, h1, h2, h3, h4⟩ := h; exact ⟨a, C, dx, _, .int x.len, h1, h2, h3, rfl, rfl⟩) ha hb
end
end DX
namespace DX
open PySem PySem.Spec PyProof.Rows L2
section
variable {X : Cx} {Γ : List Sl} {a b : Expr} {pos p p1 p2 p3 : Pos} {x : Phr} {j k0 : Nat}
theorem px_isPut (ha : PX X Γ a (.is x)) : PX X Γ (.Compare (.Subscript a (.Constant (.int 0) k0 p1) p2) [.Eq] [.Constant (.str "put") j p3] pos) (.is x.isPut) := tag_put (x := x) ▸ px_eqS (px_phTag ha px_int (fun _ _ => rfl)) (px_str (x := tPut) (by decide +kernel))
theorem tx_isPut (ha : PX X Γ a (.is x)) : TX X Γ (.Compare (.Subscript a (.Constant (.int 0) k0 p1) p2) [.Eq] [.Constant (.str "put") j p3] pos) x.isPut := tag_put (x := x) ▸ tx_eqS (px_phTag ha px_int (fun _ _ => rfl)) (px_str (x := tPut) (by decide +kernel))
theorem px_isCopy (ha : PX X Γ a (.is x)) : PX X Γ (.Compare (.Subscript a (.Constant (.int 0) k0 p1) p2) [.Eq] [.Constant (.str "copy") j p3] pos) (.is (!x.isPut)) := tag_copy (x := x) ▸ px_eqS (px_phTag ha px_int (fun _ _ => rfl)) (px_str (x := tCopy) (by decide +kernel))
theorem tx_isCopy (ha : PX X Γ a (.is x)) : TX X Γ (.Compare (.Subscript a (.Constant (.int 0) k0 p1) p2) [.Eq] [.Constant (.str "copy") j p3] pos) (!x.isPut) := tag_copy (x := x) ▸ tx_eqS (px_phTag ha px_int (fun _ _ => rfl)) (px_str (x := tCopy) (by decide +kernel))
end
end DX
namespace DX
open PySem PySem.Spec PyProof.Rows L2
/-- what the text's facts say of the class Copies -/
structure CK (K : PySem.W.Frag) (mg : Str → Option Value) (C : Addr) : Prop where
  at' : ClsAt K "Copies" C
  mg' : mg "Copies" = some (.ref C)
  cl : Cls K C
  n1 : NoAttr K C "phrases"
  n2 : NoAttr K C "_length"
  ha : PySem.W.findIn K (.ref C) "__class__" = some (some (.builtin "object.__class__"))
  hn : PySem.W.specialIn K (.builtin "object.__class__") "__get__" = some (some (.builtin "getset_descriptor.__get__"))
  ht : PySem.W.takesIn K (.builtin "object.__class__") = some true
  hm : PySem.W.mroIn K C (.type "object") = some true
section
variable {X : Cx} {Γ : List Sl} {a b : Expr} {pos p p2 : Pos} {x : CopD} {C : Addr}
theorem px_isCop (KC : CK X.K X.mg C) (ha : PX X Γ a (.is x)) (hm : X.mg "isinstance" = none) (hg : Gl X "isinstance" := by rfl) (hg2 : Gl X "Copies" := by rfl)
    (he : starEach [a, .Name "Copies" p2] X.env = (false, eval a X.env) :: starEach [.Name "Copies" p2] X.env := by rfl) (he2 : starEach [.Name "Copies" p2] X.env = (false, eval (.Name "Copies" p2) X.env) :: starEach [] X.env := by rfl) (hpl : (backTo pos (starEach [.Name "Copies" p2] X.env)).any (·.1) = false := by rfl) :
    PX X Γ (.Call (.Name "isinstance" p) [a, .Name "Copies" p2] [] pos) (.is true) :=
  px_B true call_isi hm PyProof.Rows.boot_isinstance (ax_cons ha (ax_cons (px_cls KC.mg' hg2) ax_nil he2) he) (fun B ρ σ H vs Q l h q => by
    obtain ⟨v, w, rfl⟩ := two_of l
    have e := h.topSc
    injection e with e
    subst e
    obtain ⟨_, Hd, _, z2, _, _, z5, _⟩ := id h
    obtain ⟨u, f1, f2⟩ := z5 (some v, .is x) (List.mem_cons_of_mem _ List.mem_cons_self)
    have f1 : some v = some u := f1
    injection f1 with f1
    subst f1
    obtain ⟨a', C', dx, vp, g1, g2, g3, g4⟩ := f2
    have := clsAt_eq KC.at' g2
    subst this
    subst g1
    exact ⟨.ref a', .ref C, .ref C, .ref C, true, rfl, .own C, .base (.ins (z2 _ _ g3) KC.cl KC.ha KC.hn KC.ht KC.hm), (by unfold PySem.W.kitOne; rw [if_pos (beq_self_eq_true _)]), q⟩) hg (by decide) (by decide) he hpl
end
end DX
namespace DX
open PySem PySem.Spec PyProof.Rows L2
/-! ### a def that gives back None at its end -/
def LU (K : PySem.W.Frag) : Leaf Unit := fun B _ D _ => (∀ v H', RetE K B H' v (.is ()) → D.rt v H') ∧ ∀ σ' H', RetE K B H' .non (.is ()) → D.nx σ' H'
theorem rets_U {K : PySem.W.Frag} : Rets K (LU K) (fun (r : Unit) => .is r) (fun r => r) := fun B r D ρ h => h.1
theorem rts_U {K : PySem.W.Frag} : Rts (LU K) (LRet K (fun (r : Unit) => .is r)) (fun r => r) := fun B r D D' ρ ρ' h l => by
  intro v H' q
  rw [h]
  exact l.1 v H' q
section
variable {X : Cx} {Γ : List Sl} {e : Expr}
theorem sx_endU : SX X (LU X.K) Γ [] () := ⟨fun B ρ σ H D hb h l => l.2 σ H ((h.pushSc ()).ret trivial)⟩
theorem paired_some {K : PySem.W.Frag} {Hd : Hp} : ∀ {vs : List V} {xs : List Int}, Paired (Enc.rep K Hd) vs xs → Paired (Enc.rep K Hd) vs (xs.map (some : Int → Option Int))
  | _, _, .nil => .nil
  | _, _, .cons r t => .cons r (paired_some t)
theorem px_someL {xs : List Int} (h : PX X Γ e (.own xs)) : PX X Γ e (.own (xs.map (some : Int → Option Int))) := ⟨fun B ρ σ H h' Q q => h.run B ρ σ H h' _ fun v H1 e1 h1 => q v H1 e1 (by
  obtain ⟨l, Hd, z1, z2, z3, z4, z5, z6⟩ := h1
  refine ⟨l, Hd, z1, z2, z3, z4, fun p hp => ?_, ?_⟩
  · rcases List.mem_cons.mp hp with z | z
    · rw [z]
      obtain ⟨a, vs, f1, f2, f3, f4, f5⟩ := z5 _ List.mem_cons_self
      exact ⟨a, vs, f1, f2, f3, f4, paired_some f5⟩
    · exact z5 p (List.mem_cons_of_mem _ z)
  · have w := List.pairwise_cons.mp z6
    exact List.pairwise_cons.mpr ⟨fun r hr b o1 o2 => w.1 r hr b o1 o2, w.2⟩)⟩
end
section
variable {P : Program} {w : World} {K : PySem.W.Frag} {mg : Str → Option Value} {base : Heap}
theorem defOkU {ι : Type} {x qual : Str} {st : Stmt} {f : Addr} {fd : FuncData} {N ps : List Str} {kk : Nat} (F : Fun K x qual st f fd) (hm : mg x = some (.ref f)) (S : FnScope N ps (defScope st)) (bd : Binds K fd ps [])
    (pre : ι → Prop) (args : ι → List Sl) (mi : ι → Unit) (hn : ∀ i, (args i).length = ps.length)
    (body : ∀ (i : ι), pre i → ∀ (cdv : Value) (A : Around) (outer : List Env) (s : Shared) (H : Hp) (E : XK), Room kk (A.deeper (envOfC qual (defScope st) s.heap.objs.size f cdv)) →
      SX (cxOf CX0 P w K mg base N qual (defScope st) f cdv A outer s H E).nox (LU K) (args i ++ List.replicate (N.length - ps.length) .no) [defBody st] (mi i)) :
    DefOk P w K mg base (kk + 1) x ps.length (spD K pre args fun i => .is (mi i)) := by
  refine ⟨f, fd, ps, ?_, hm, F.kp, bd, rfl⟩
  refine F.ok S (spD_len hn) fun cdv A outer s H vs Q E hr h => ?_
  refine ⟨wS _ (defBody st), pssW, ?_⟩
  obtain ⟨Hd0, i, h1, hp, hl, ha, q⟩ := h
  refine r0w ((body i hp cdv A outer s H E hr).run (Hd0, H) [] (L2.start N vs) H { nx := fun _ H' => Q .non H', rt := Q } (fun p hp => nomatch hp) (start_has h1 hl (hn i) ha) ?_)
  have key : ∀ v H', RetE K (Hd0, H) H' v (.is ()) → Q v H' := by
    intro v H' hv
    obtain ⟨Hd, a1, a2, a3, a4, a5⟩ := hv
    exact q v H' Hd a1 a2 a3 a4 a5
  exact ⟨key, fun σ' H' hv => key _ H' hv⟩
end
end DX
/-! DX19: == and != of data of one kind, a tuple that is not None. -/
namespace DX
open PySem PySem.Spec PyProof.Rows L2
open DEnc (encD)
instance {α : Type} : Inhabited (Tup α) := ⟨⟨[]⟩⟩
/-- data whose == is that of the values -/
class QEnc (α : Type) [Enc α] [DEnc α] [DecidableEq α] where
  eqv : ∀ x y : α, PyData.eqv (encD x) (encD y) = decide (x = y)
  dep : Nat
  dle : ∀ x : α, (encD x).depth ≤ dep
  lay : α → Prop
  ok : ∀ x : α, lay x → (encD x).canLay0 = true
theorem beq_dec {α : Type} [BEq α] [LawfulBEq α] [DecidableEq α] (a b : α) : (a == b) = decide (a = b) := by
  rw [Bool.eq_iff_iff, beq_iff_eq, decide_eq_true_eq]
instance : QEnc Int where
  eqv x y := by
    show PyData.eqv (.int x) (.int y) = _
    simp only [PyData.eqv]
    exact beq_dec x y
  dep := 0
  dle _ := Nat.le_refl _
  lay _ := True
  ok _ _ := rfl
instance : QEnc (List Nat) where
  eqv x y := by
    show PyData.eqv (.str (mkS x)) (.str (mkS y)) = _
    simp only [PyData.eqv]
    rw [beq_dec]
    exact decide_eq_decide.mpr ⟨mkS_inj, fun h => by rw [h]⟩
  dep := 0
  dle _ := Nat.le_refl _
  lay x := ∀ c ∈ x, c < 1114112
  ok x h := by
    show PyData.strOk (mkS x) = true
    unfold PyData.strOk mkS
    simpa using h
instance : QEnc (Option Int) where
  eqv x y := by
    cases x with
    | none => cases y with
      | none => show PyData.eqv .none .none = _; simp only [PyData.eqv]; rfl
      | some b => show PyData.eqv .none (.int b) = _; simp only [PyData.eqv]; rfl
    | some a => cases y with
      | none => show PyData.eqv (.int a) .none = _; simp only [PyData.eqv]; rfl
      | some b =>
        show PyData.eqv (.int a) (.int b) = _
        simp only [PyData.eqv]
        rw [beq_dec]
        exact decide_eq_decide.mpr (by rw [Option.some.injEq])
  dep := 0
  dle x := by cases x <;> exact Nat.le_refl _
  lay _ := True
  ok x _ := by cases x <;> rfl
theorem eqvAll_dec {α : Type} [Enc α] [DEnc α] [DecidableEq α] [QEnc α] : ∀ xs ys : List α, PyData.eqvAll (xs.map encD) (ys.map encD) = decide (xs = ys)
  | [], [] => by simp [PyData.eqvAll]
  | [], _ :: _ => by simp [PyData.eqvAll]
  | _ :: _, [] => by simp [PyData.eqvAll]
  | x :: xs, y :: ys => by
    rw [List.map_cons, List.map_cons, PyData.eqvAll, QEnc.eqv, eqvAll_dec xs ys, Bool.eq_iff_iff]
    simp
theorem depthAll_le {α : Type} [Enc α] [DEnc α] [DecidableEq α] [QEnc α] : ∀ xs : List α, PyData.depthAll (xs.map encD) ≤ QEnc.dep α
  | [] => Nat.zero_le _
  | x :: xs => by
    rw [List.map_cons, PyData.depthAll]
    exact Nat.max_le.mpr ⟨QEnc.dle x, depthAll_le xs⟩
theorem canAll_of {α : Type} [Enc α] [DEnc α] [DecidableEq α] [QEnc α] : ∀ xs : List α, (∀ x ∈ xs, QEnc.lay x) → PyData.canLayAll0 (xs.map encD) = true
  | [], _ => rfl
  | x :: xs, h => by
    rw [List.map_cons, PyData.canLayAll0, QEnc.ok x (h x List.mem_cons_self), canAll_of xs fun y hy => h y (List.mem_cons_of_mem _ hy)]
    rfl
instance qencList {α : Type} [Enc α] [DEnc α] [DecidableEq α] [QEnc α] : @QEnc (List α) encList dencList _ :=
  @QEnc.mk (List α) encList dencList _ (fun xs ys => by
    show PyData.eqv (.list (xs.map encD)) (.list (ys.map encD)) = _
    rw [PyData.eqv]
    exact eqvAll_dec xs ys) (QEnc.dep α + 1) (fun xs => by
    show PyData.depth (.list (xs.map encD)) ≤ _
    rw [PyData.depth]
    exact Nat.succ_le_succ (depthAll_le xs)) (fun xs => ∀ x ∈ xs, QEnc.lay x) (fun xs h => by
    show PyData.canLay0 (.list (xs.map encD)) = true
    rw [PyData.canLay0]
    exact canAll_of xs h)
section
variable {X : Cx} {Γ : List Sl} {a b : Expr} {pos p2 : Pos}
theorem px_cmpD {op : CmpOp} {r : R2} {d e : PyData} (z : Bool) (ho : OpR X (compareOp op) r) (hm : behindInMarks op b = false) (hr : ∀ (x y : V) H (Q : VK), Dp X.K H x d → Dp X.K H y e → Q (.bl z) H → r x y H Q)
    (ha : PX X Γ a (.is d)) (hb : PX X Γ b (.is e)) : PX X Γ (.Compare a [op] [b] pos) (.is z) := ⟨fun B ρ σ H h Q q => goE (pe_cmpR ho peW peW hm) (ha.run B ρ σ H h _ fun v H1 e1 h1 => hb.run B _ σ H1 h1 _ fun w H2 e2 h2 => by
  obtain ⟨w', f1, f2⟩ := topD h2
  obtain ⟨v', g1, g2⟩ := topD h2.swap
  injection f1 with f1
  injection g1 with g1
  subst f1 g1
  exact hr _ _ _ _ g2 f2 (q _ H2 (e1.trans e2) (h2.pop.pop.pushSc z)))⟩
theorem shaped_q {α : Type} [Enc α] [DEnc α] [DecidableEq α] [QEnc α] {x : α} (h : QEnc.lay x) (hd : QEnc.dep α ≤ 64) : SeqAt.shaped (encD x) = true := by
  unfold SeqAt.shaped
  rw [QEnc.ok x h, Bool.true_and]
  exact decide_eq_true (Nat.le_trans (QEnc.dle x) hd)
theorem px_eqQ {α : Type} [Enc α] [DEnc α] [DecidableEq α] [QEnc α] {x y : α} (hu : X.A.units + 64 < cLine) (hx : QEnc.lay x) (hy : QEnc.lay y) (ha : PX X Γ a (.is x)) (hb : PX X Γ b (.is y)) (hd : QEnc.dep α ≤ 64 := by decide) : PX X Γ (.Compare a [.Eq] [b] pos) (.is (decide (x = y))) :=
  px_cmpD _ (op_eqD hu) (nomark _) (fun v w H Q h1 h2 q => ⟨_, _, h1, h2, shaped_q hx hd, shaped_q hy hd, by rw [QEnc.eqv]; exact q⟩) (px_toD ha) (px_toD hb)
theorem px_neQ {α : Type} [Enc α] [DEnc α] [DecidableEq α] [QEnc α] {x y : α} (hu : X.A.units + 64 < cLine) (hx : QEnc.lay x) (hy : QEnc.lay y) (ha : PX X Γ a (.is x)) (hb : PX X Γ b (.is y)) (hd : QEnc.dep α ≤ 64 := by decide) : PX X Γ (.Compare a [.NotEq] [b] pos) (.is (!decide (x = y))) :=
  px_cmpD _ (op_neD hu) (nomark _) (fun v w H Q h1 h2 q => ⟨_, _, h1, h2, shaped_q hx hd, shaped_q hy hd, by rw [QEnc.eqv]; exact q⟩) (px_toD ha) (px_toD hb)
theorem tx_cmpD {op : CmpOp} {r : R2} {d e : PyData} (z : Bool) (ho : OpR X (compareOp op) r) (hm : behindInMarks op b = false) (hr : ∀ (x y : V) H (Q : VK), Dp X.K H x d → Dp X.K H y e → Q (.bl z) H → r x y H Q)
    (ha : PX X Γ a (.is d)) (hb : PX X Γ b (.is e)) : TX X Γ (.Compare a [op] [b] pos) z := ⟨fun B ρ σ H h Q q => goT (pt_cmpR ho peW peW hm) (ha.run B ρ σ H h _ fun v H1 e1 h1 => hb.run B _ σ H1 h1 _ fun w H2 e2 h2 => by
  obtain ⟨w', f1, f2⟩ := topD h2
  obtain ⟨v', g1, g2⟩ := topD h2.swap
  injection f1 with f1
  injection g1 with g1
  subst f1 g1
  exact hr _ _ _ _ g2 f2 ⟨z, rfl, q H2 (e1.trans e2) h2.pop.pop⟩)⟩
theorem tx_eqQ {α : Type} [Enc α] [DEnc α] [DecidableEq α] [QEnc α] {x y : α} (hu : X.A.units + 64 < cLine) (hx : QEnc.lay x) (hy : QEnc.lay y) (ha : PX X Γ a (.is x)) (hb : PX X Γ b (.is y)) (hd : QEnc.dep α ≤ 64 := by decide) : TX X Γ (.Compare a [.Eq] [b] pos) (decide (x = y)) :=
  tx_cmpD _ (op_eqD hu) (nomark _) (fun v w H Q h1 h2 q => ⟨_, _, h1, h2, shaped_q hx hd, shaped_q hy hd, by rw [QEnc.eqv]; exact q⟩) (px_toD ha) (px_toD hb)
theorem tx_neQ {α : Type} [Enc α] [DEnc α] [DecidableEq α] [QEnc α] {x y : α} (hu : X.A.units + 64 < cLine) (hx : QEnc.lay x) (hy : QEnc.lay y) (ha : PX X Γ a (.is x)) (hb : PX X Γ b (.is y)) (hd : QEnc.dep α ≤ 64 := by decide) : TX X Γ (.Compare a [.NotEq] [b] pos) (!decide (x = y)) :=
  tx_cmpD _ (op_neD hu) (nomark _) (fun v w H Q h1 h2 q => ⟨_, _, h1, h2, shaped_q hx hd, shaped_q hy hd, by rw [QEnc.eqv]; exact q⟩) (px_toD ha) (px_toD hb)
theorem tx_isNT {α : Type} [Enc α] {t : Tup α} {j : Nat} (ha : PX X Γ a (.is t)) : TX X Γ (.Compare a [.Is] [.Constant .none j p2] pos) false :=
  ⟨fun B ρ σ H h Q q => goT (pt_cmp (pc_isN peW)) (ha.run B ρ σ H h _ fun v H1 e1 h1 => by
    obtain ⟨l, Hd, z1, z2, z3, z4, z5, z6⟩ := id h1
    obtain ⟨w, f1, ad, vs, f2, _⟩ := z5 _ List.mem_cons_self
    have f1 : some v = some w := f1
    injection f1 with f1
    subst f1
    have f2 : v = .ref ad := f2
    refine ⟨false, ?_, q H1 e1 h1.pop⟩
    rw [f2]
    rfl)⟩
/-- a tuple is not None -/
theorem px_isNT {α : Type} [Enc α] {t : Tup α} {j : Nat} (ha : PX X Γ a (.is t)) : PX X Γ (.Compare a [.Is] [.Constant .none j p2] pos) (.is false) :=
  ⟨fun B ρ σ H h Q q => goE (pe_cmp (pc_isN peW)) (ha.run B ρ σ H h _ fun v H1 e1 h1 => by
    obtain ⟨l, Hd, z1, z2, z3, z4, z5, z6⟩ := id h1
    obtain ⟨w, f1, ad, vs, f2, _⟩ := z5 _ List.mem_cons_self
    have f1 : some v = some w := f1
    injection f1 with f1
    subst f1
    have f2 : v = .ref ad := f2
    show Q (.bl (decide (v = .non))) H1
    rw [f2]
    exact q _ H1 e1 (h1.pop.pushSc false))⟩
end
end DX
namespace DX
open PySem PySem.Spec PyProof.Rows L2
open DEnc (encD)
def topS (i : Nat) : Stmt := PySem.Challenge.pw_pressroots_k14_whole_tidied_alike_exactl.main.body.getD i (.Pass ⟨0, 0, 0, 0⟩)
/-- the built-in names that the text uses stand as they were -/
structure Bt (mg : Str → Option Value) : Prop where
  abs_ : mg "abs" = none
  bool_ : mg "bool" = none
  enumerate_ : mg "enumerate" = none
  int_ : mg "int" = none
  isinstance_ : mg "isinstance" = none
  len_ : mg "len" = none
  list_ : mg "list" = none
  min_ : mg "min" = none
  range_ : mg "range" = none
  str_ : mg "str" = none
  sum_ : mg "sum" = none
  tuple_ : mg "tuple" = none


theorem if_ind {α : Type} {P : α → Prop} {b : Bool} {x y : α} (h1 : b = true → P x) (h2 : b = false → P y) : P (if b = true then x else y) := by
  cases b with
  | true => exact h1 rfl
  | false => exact h2 rfl
theorem foldl_ix {S α : Type} (I : Nat → S → Prop) (step : S → α → S) (s0 : S) (xs : List α) (h0 : I 0 s0) (h : ∀ (i : Nat) (s : S) (x : α), xs[i]? = some x → I i s → I (i + 1) (step s x)) : I xs.length (xs.foldl step s0) := by
  have key : ∀ (n : Nat), n ≤ xs.length → I n ((xs.take n).foldl step s0) := by
    intro n
    induction n with
    | zero => intro _; exact h0
    | succ n ih =>
      intro hn
      have hx : xs[n]? = some xs[n] := List.getElem?_eq_getElem (by omega)
      rw [List.take_succ, hx, List.foldl_append]
      exact h n _ _ hx (ih (by omega))
  have := key xs.length (Nat.le_refl _)
  rw [List.take_length] at this
  exact this

theorem sum_ones (f : Int → List Nat) (h : ∀ c, (f c).length = 1) : ∀ xs : List Int, ((xs.map f).map List.length).sum = xs.length
  | [] => rfl
  | x :: xs => by
    rw [List.map_cons, List.map_cons, List.sum_cons, sum_ones f h xs, h x, List.length_cons]
    omega
theorem emod_bd (a : Int) {m : Int} (h : 0 < m) : 0 ≤ a % m ∧ a % m < m := ⟨Int.emod_nonneg a (by omega), Int.emod_lt_of_pos a h⟩
theorem sl_to_le {α : Type} (xs : List α) {i : Int} (h : 0 ≤ i) : (sl xs none (some i)).length ≤ i.toNat := by
  rw [sl_to h, List.length_take]
  omega
def DrawsPre (sizes : List Int) : Prop := sizes.length ≤ 10000 ∧ ∀ s ∈ sizes, 0 < s ∧ s < 2 ^ 200
theorem draws_ix {sizes : List Int} (h : DrawsPre sizes) {k : Int} (h0 : 0 ≤ k) (h1 : k < sizes.length) : 0 < ix sizes k ∧ ix sizes k < 2 ^ 200 := h.2 _ (List.mem_of_getElem? (ix_nn h0 h1))

def m__law_cell (a_script : Scr) (a_k : Int) : Int :=
  (if (decide (a_k < (a_script.l.length : Int))) = true then (ix a_script.l a_k) else 
  (0 : Int))
abbrev s__law_cell : Stmt := topS 33
abbrev N__law_cell : List Str := ["script", "k"]
theorem sc__law_cell : FnScope N__law_cell ["script", "k"] (defScope s__law_cell) := ⟨rfl, rfl, rfl, by decide +kernel, rfl, by decide +kernel, by decide +kernel⟩
abbrev Ok__law_cell (P : Program) (w : World) (K : PySem.W.Frag) (mg : Str → Option Value) (base : Heap) : Prop :=
  DefOk P w K mg base 1 "_law_cell" 2 (spD (ι := Scr × Int) K (fun i => 0 ≤ i.2) (fun i => [.is i.1, .is i.2]) (fun i => .is (m__law_cell i.1 i.2)))
theorem ok__law_cell {P : Program} {w : World} {K : PySem.W.Frag} {mg : Str → Option Value} {base : Heap} {f : Addr} {fd : FuncData} (F : Fun K "_law_cell" "_law_cell" s__law_cell f fd) (hm : mg "_law_cell" = some (.ref f)) (bd : Binds K fd ["script", "k"] []) (T : Bt mg)  : Ok__law_cell P w K mg base := by
  refine defOk (kk := 0) (R := Int) F hm sc__law_cell bd _ _ (fun r => .is r) _ (fun _ => rfl) (fun i hp cdv A outer s H E hr => ?_)
  obtain ⟨a_script, a_k⟩ := i
  have hp : 0 ≤ a_k := hp
  show SX _ _ [.is a_script, .is a_k] _ (m__law_cell a_script a_k)
  unfold m__law_cell
  refine sx_if (tx_lt (px_var 1 rfl) (px_lenScr T.len_ (px_var 0 rfl))) (fun hc1 => ?_) (fun hc1 => ?_)
  · try simp only [Bool.and_eq_true, Bool.or_eq_true, Bool.not_eq_true', Bool.and_eq_false_iff, Bool.or_eq_false_iff, Bool.not_eq_false', decide_eq_true_eq, decide_eq_false_iff_not, Classical.not_not] at hc1
    exact sx_retI (mr := (fun r => r)) (rets_ret) rfl (px_ixScr (px_var 0 rfl) (px_var 1 rfl) (by first | (constructor <;> omega) | (have tc_ := tc (by first | assumption | exact Bool.eq_false_iff.mpr (by assumption)); constructor <;> omega) | (have tp_ := tp (by assumption); constructor <;> omega) | (simp only [Bool.and_eq_true, Bool.or_eq_true, Bool.not_eq_true', Bool.and_eq_false_iff, Bool.or_eq_false_iff, Bool.not_eq_false', decide_eq_true_eq, decide_eq_false_iff_not, Classical.not_not] at *; constructor <;> omega) | (simp only [Bool.and_eq_true, Bool.or_eq_true, Bool.not_eq_true', Bool.and_eq_false_iff, Bool.or_eq_false_iff, Bool.not_eq_false', decide_eq_true_eq, decide_eq_false_iff_not, Classical.not_not, lt, List.length_cons, List.length_nil, List.length_append, List.length_map, List.length_reverse, List.length_set, rangeI_length] at *; constructor <;> omega)))
  · try simp only [Bool.and_eq_true, Bool.or_eq_true, Bool.not_eq_true', Bool.and_eq_false_iff, Bool.or_eq_false_iff, Bool.not_eq_false', decide_eq_true_eq, decide_eq_false_iff_not, Classical.not_not] at hc1
    refine sx_nil ?_
    exact sx_retI (mr := (fun r => r)) (rets_ret) rfl px_int

def m__law_draws (a_cell : Int) (a_sizes : (List Int)) : (List Int) :=
  lt (if a_cell < 0 then -a_cell else a_cell : Int) fun (v1_number : Int) => 
  lt v1_number fun (v2_rest : Int) => 
  lt (if (decide (v1_number < (1000000000000000000 : Int))) = true then lt (0 : Int) fun (v5_rest : Int) => 
    v5_rest else v2_rest : Int) fun (s4 : Int) => 
  lt ([] : List Int) fun (v6_draws : (List Int)) => 
  lt (List.foldl (fun (s7 : (List Int) × Int) (x7_k : Int) => lt (if (decide (s7.2 > (0 : Int))) = true then lt (s7.1 ++ [(s7.2 % (ix a_sizes x7_k))]) fun (v11_draws : (List Int)) => 
      lt (s7.2 / (ix a_sizes x7_k)) fun (v12_rest : Int) => 
      (v11_draws, v12_rest) else lt (((v1_number * (48271 : Int)) + ((69621 : Int) * (x7_k + (1 : Int)))) % (2147483647 : Int)) fun (v13_seed : Int) => 
      lt (((v13_seed * v13_seed) + ((40692 : Int) * (x7_k + (3 : Int)))) % (2147483399 : Int)) fun (v14_seed : Int) => 
      lt (((v14_seed * v14_seed) + (16807 : Int)) % (2147483563 : Int)) fun (v15_seed : Int) => 
      lt (s7.1 ++ [((v15_seed / (11 : Int)) % (ix a_sizes x7_k))]) fun (v16_draws : (List Int)) => 
      (v16_draws, s7.2) : (List Int) × Int) fun (s10 : (List Int) × Int) => 
    (s10.1, s10.2)) ((v6_draws, s4) : (List Int) × Int) (rangeI 0 ((a_sizes.length : Int)).toNat)) fun (s8 : (List Int) × Int) => 
  s8.1
abbrev s__law_draws : Stmt := topS 34
abbrev N__law_draws : List Str := ["cell", "sizes", "number", "rest", "draws", "k", "seed"]
theorem sc__law_draws : FnScope N__law_draws ["cell", "sizes"] (defScope s__law_draws) := ⟨rfl, rfl, rfl, by decide +kernel, rfl, by decide +kernel, by decide +kernel⟩
abbrev Ok__law_draws (P : Program) (w : World) (K : PySem.W.Frag) (mg : Str → Option Value) (base : Heap) : Prop :=
  DefOk P w K mg base 1 "_law_draws" 2 (spD (ι := Int × (List Int)) K (fun i => DrawsPre i.2) (fun i => [.is i.1, .arg i.2]) (fun i => .own (m__law_draws i.1 i.2)))
theorem ok__law_draws {P : Program} {w : World} {K : PySem.W.Frag} {mg : Str → Option Value} {base : Heap} {f : Addr} {fd : FuncData} (F : Fun K "_law_draws" "_law_draws" s__law_draws f fd) (hm : mg "_law_draws" = some (.ref f)) (bd : Binds K fd ["cell", "sizes"] []) (T : Bt mg)  : Ok__law_draws P w K mg base := by
  refine defOk (kk := 0) (R := (List Int)) F hm sc__law_draws bd _ _ (fun r => .own r) _ (fun _ => rfl) (fun i hp cdv A outer s H E hr => ?_)
  obtain ⟨a_cell, a_sizes⟩ := i
  have hp : DrawsPre a_sizes := hp
  show SX _ _ [.is a_cell, .arg a_sizes, .no, .no, .no, .no, .no] _ (m__law_draws a_cell a_sizes)
  unfold m__law_draws
  refine sx_set 2 (px_abs T.abs_ (px_var 0 rfl)) (fun v1_number h1 => ?_) sc__law_draws.nd
  refine sx_set 3 (px_var 2 rfl) (fun v2_rest h2 => ?_) sc__law_draws.nd
  refine sx_ifj (fun (s4 : Int) => [.is a_cell, .arg a_sizes, .is v1_number, .is s4, .no, .no, .no]) (tx_lt (px_var 2 rfl) (px_powC (z := 1000000000000000000) px_int px_int (by exact ⟨by decide, by decide, by decide⟩) (by decide +kernel))) (fun hc4 => ?_) (fun hc4 => ?_) (fun s4 h4 => ?_)
  · try simp only [Bool.and_eq_true, Bool.or_eq_true, Bool.not_eq_true', Bool.and_eq_false_iff, Bool.or_eq_false_iff, Bool.not_eq_false', decide_eq_true_eq, decide_eq_false_iff_not, Classical.not_not] at hc4
    refine sx_set 3 px_int (fun v5_rest h5 => ?_) sc__law_draws.nd
    exact sx_nil (sx_endN (.same (.same (.same (.same (.same (.same (.same .nil))))))))
  · try simp only [Bool.and_eq_true, Bool.or_eq_true, Bool.not_eq_true', Bool.and_eq_false_iff, Bool.or_eq_false_iff, Bool.not_eq_false', decide_eq_true_eq, decide_eq_false_iff_not, Classical.not_not] at hc4
    exact sx_nil (sx_endN (.same (.same (.same (.same (.same (.same (.same .nil))))))))
  refine sx_setO 4 (px_list ([] : List Int) ax_nil) (fun v6_draws h6 => ?_) sc__law_draws.nd
  refine sx_forF 5 (fun (s7 : (List Int) × Int) => [.is a_cell, .arg a_sizes, .is v1_number, .is s7.2, .own s7.1, .no, .no]) _ ((v6_draws, s4) : (List Int) × Int) (fun i s => (s.1 : List Int).length = i) (it_range1 T.range_ (px_len (.bor _) T.len_ (px_varO 1 (.arg _) rfl)) (by have := hp.1; constructor <;> omega)) (pg_name (i := 5) sc__law_draws.nd rfl (by first | exact Or.inl rfl | exact Or.inr rfl)) (.same (.same (.same (.same (.same (.same (.same .nil))))))) (by rw [h6]; rfl) (fun i7 s7 x7_k hx7 hI7 => ?_) (fun i7 s7 x7_k hx7 hI7 => ?_) (fun s8 h8 hI8 => ?_)
  · have hr7 := rangeI_get hx7
    have hd := draws_ix hp (k := x7_k) (by omega) (by omega)
    have hl := hp.1
    refine sx_ifj (fun (s10 : (List Int) × Int) => [.is a_cell, .arg a_sizes, .is v1_number, .is s10.2, .own s10.1, .is x7_k, .no]) (tx_gt (px_var 3 rfl) px_int) (fun hc10 => ?_) (fun hc10 => ?_) (fun s10 h10 => ?_)
    · try simp only [Bool.and_eq_true, Bool.or_eq_true, Bool.not_eq_true', Bool.and_eq_false_iff, Bool.or_eq_false_iff, Bool.not_eq_false', decide_eq_true_eq, decide_eq_false_iff_not, Classical.not_not] at hc10
      refine sx_app 4 rfl (px_mod (px_int1 T.int_ (px_var 3 rfl)) (px_ixL (.bor _) (px_varO 1 (.arg _) rfl) (px_var 5 rfl) (by first | (constructor <;> omega) | (have tc_ := tc (by first | assumption | exact Bool.eq_false_iff.mpr (by assumption)); constructor <;> omega) | (have tp_ := tp (by assumption); constructor <;> omega) | (simp only [Bool.and_eq_true, Bool.or_eq_true, Bool.not_eq_true', Bool.and_eq_false_iff, Bool.or_eq_false_iff, Bool.not_eq_false', decide_eq_true_eq, decide_eq_false_iff_not, Classical.not_not] at *; constructor <;> omega) | (simp only [Bool.and_eq_true, Bool.or_eq_true, Bool.not_eq_true', Bool.and_eq_false_iff, Bool.or_eq_false_iff, Bool.not_eq_false', decide_eq_true_eq, decide_eq_false_iff_not, Classical.not_not, lt, List.length_cons, List.length_nil, List.length_append, List.length_map, List.length_reverse, List.length_set, rangeI_length] at *; constructor <;> omega))) (by omega)) (by exact Nat.lt_of_le_of_lt (show _ ≤ 100000 by first | omega | (have tc_ := tc (by first | assumption | exact Bool.eq_false_iff.mpr (by assumption)); omega) | (have tp_ := tp (by assumption); omega) | (simp only [Bool.and_eq_true, Bool.or_eq_true, Bool.not_eq_true', Bool.and_eq_false_iff, Bool.or_eq_false_iff, Bool.not_eq_false', decide_eq_true_eq, decide_eq_false_iff_not, Classical.not_not] at *; omega) | (simp only [Bool.and_eq_true, Bool.or_eq_true, Bool.not_eq_true', Bool.and_eq_false_iff, Bool.or_eq_false_iff, Bool.not_eq_false', decide_eq_true_eq, decide_eq_false_iff_not, Classical.not_not, lt, List.length_cons, List.length_nil, List.length_append, List.length_map, List.length_reverse, List.length_set, rangeI_length] at *; omega)) (by decide)) (fun v11_draws h11 => ?_)
      refine sx_set 3 (px_div (px_var 3 rfl) (px_ixL (.bor _) (px_varO 1 (.arg _) rfl) (px_var 5 rfl) (by first | (constructor <;> omega) | (have tc_ := tc (by first | assumption | exact Bool.eq_false_iff.mpr (by assumption)); constructor <;> omega) | (have tp_ := tp (by assumption); constructor <;> omega) | (simp only [Bool.and_eq_true, Bool.or_eq_true, Bool.not_eq_true', Bool.and_eq_false_iff, Bool.or_eq_false_iff, Bool.not_eq_false', decide_eq_true_eq, decide_eq_false_iff_not, Classical.not_not] at *; constructor <;> omega) | (simp only [Bool.and_eq_true, Bool.or_eq_true, Bool.not_eq_true', Bool.and_eq_false_iff, Bool.or_eq_false_iff, Bool.not_eq_false', decide_eq_true_eq, decide_eq_false_iff_not, Classical.not_not, lt, List.length_cons, List.length_nil, List.length_append, List.length_map, List.length_reverse, List.length_set, rangeI_length] at *; constructor <;> omega))) (by exact wide_div (b := 200) (by omega) (by omega) (by decide) (by decide))) (fun v12_rest h12 => ?_) sc__law_draws.nd
      exact sx_nil (sx_endN (.same (.same (.same (.same (.same (.same (.same .nil))))))))
    · try simp only [Bool.and_eq_true, Bool.or_eq_true, Bool.not_eq_true', Bool.and_eq_false_iff, Bool.or_eq_false_iff, Bool.not_eq_false', decide_eq_true_eq, decide_eq_false_iff_not, Classical.not_not] at hc10
      refine sx_set 6 (px_mod (px_int1 T.int_ (px_add (px_mul (px_var 2 rfl) px_int (by first | exact .inl ⟨by omega, by omega⟩ | exact .inr ⟨by omega, by omega⟩)) (px_mul px_int (px_add (px_var 5 rfl) px_int) (by first | exact .inl ⟨by omega, by omega⟩ | exact .inr ⟨by omega, by omega⟩)))) px_int (by first | omega | (have tc_ := tc (by first | assumption | exact Bool.eq_false_iff.mpr (by assumption)); omega) | (have tp_ := tp (by assumption); omega) | (simp only [Bool.and_eq_true, Bool.or_eq_true, Bool.not_eq_true', Bool.and_eq_false_iff, Bool.or_eq_false_iff, Bool.not_eq_false', decide_eq_true_eq, decide_eq_false_iff_not, Classical.not_not] at *; omega) | (simp only [Bool.and_eq_true, Bool.or_eq_true, Bool.not_eq_true', Bool.and_eq_false_iff, Bool.or_eq_false_iff, Bool.not_eq_false', decide_eq_true_eq, decide_eq_false_iff_not, Classical.not_not, lt, List.length_cons, List.length_nil, List.length_append, List.length_map, List.length_reverse, List.length_set, rangeI_length] at *; omega))) (fun v13_seed h13 => ?_) sc__law_draws.nd
      refine sx_set 6 (px_mod (px_int1 T.int_ (px_add (px_mul (px_var 6 rfl) (px_var 6 rfl) (by first | exact .inl ⟨by omega, by omega⟩ | exact .inr ⟨by omega, by omega⟩)) (px_mul px_int (px_add (px_var 5 rfl) px_int) (by first | exact .inl ⟨by omega, by omega⟩ | exact .inr ⟨by omega, by omega⟩)))) px_int (by first | omega | (have tc_ := tc (by first | assumption | exact Bool.eq_false_iff.mpr (by assumption)); omega) | (have tp_ := tp (by assumption); omega) | (simp only [Bool.and_eq_true, Bool.or_eq_true, Bool.not_eq_true', Bool.and_eq_false_iff, Bool.or_eq_false_iff, Bool.not_eq_false', decide_eq_true_eq, decide_eq_false_iff_not, Classical.not_not] at *; omega) | (simp only [Bool.and_eq_true, Bool.or_eq_true, Bool.not_eq_true', Bool.and_eq_false_iff, Bool.or_eq_false_iff, Bool.not_eq_false', decide_eq_true_eq, decide_eq_false_iff_not, Classical.not_not, lt, List.length_cons, List.length_nil, List.length_append, List.length_map, List.length_reverse, List.length_set, rangeI_length] at *; omega))) (fun v14_seed h14 => ?_) sc__law_draws.nd
      refine sx_set 6 (px_mod (px_int1 T.int_ (px_add (px_mul (px_var 6 rfl) (px_var 6 rfl) (by first | exact .inl ⟨by omega, by omega⟩ | exact .inr ⟨by omega, by omega⟩)) px_int)) px_int (by first | omega | (have tc_ := tc (by first | assumption | exact Bool.eq_false_iff.mpr (by assumption)); omega) | (have tp_ := tp (by assumption); omega) | (simp only [Bool.and_eq_true, Bool.or_eq_true, Bool.not_eq_true', Bool.and_eq_false_iff, Bool.or_eq_false_iff, Bool.not_eq_false', decide_eq_true_eq, decide_eq_false_iff_not, Classical.not_not] at *; omega) | (simp only [Bool.and_eq_true, Bool.or_eq_true, Bool.not_eq_true', Bool.and_eq_false_iff, Bool.or_eq_false_iff, Bool.not_eq_false', decide_eq_true_eq, decide_eq_false_iff_not, Classical.not_not, lt, List.length_cons, List.length_nil, List.length_append, List.length_map, List.length_reverse, List.length_set, rangeI_length] at *; omega))) (fun v15_seed h15 => ?_) sc__law_draws.nd
      refine sx_app 4 rfl (px_mod (px_int1 T.int_ (px_div (px_var 6 rfl) px_int (by exact wide_div (b := 64) (by omega) (by omega) (by decide) (by decide)))) (px_ixL (.bor _) (px_varO 1 (.arg _) rfl) (px_var 5 rfl) (by first | (constructor <;> omega) | (have tc_ := tc (by first | assumption | exact Bool.eq_false_iff.mpr (by assumption)); constructor <;> omega) | (have tp_ := tp (by assumption); constructor <;> omega) | (simp only [Bool.and_eq_true, Bool.or_eq_true, Bool.not_eq_true', Bool.and_eq_false_iff, Bool.or_eq_false_iff, Bool.not_eq_false', decide_eq_true_eq, decide_eq_false_iff_not, Classical.not_not] at *; constructor <;> omega) | (simp only [Bool.and_eq_true, Bool.or_eq_true, Bool.not_eq_true', Bool.and_eq_false_iff, Bool.or_eq_false_iff, Bool.not_eq_false', decide_eq_true_eq, decide_eq_false_iff_not, Classical.not_not, lt, List.length_cons, List.length_nil, List.length_append, List.length_map, List.length_reverse, List.length_set, rangeI_length] at *; constructor <;> omega))) (by omega)) (by exact Nat.lt_of_le_of_lt (show _ ≤ 100000 by first | omega | (have tc_ := tc (by first | assumption | exact Bool.eq_false_iff.mpr (by assumption)); omega) | (have tp_ := tp (by assumption); omega) | (simp only [Bool.and_eq_true, Bool.or_eq_true, Bool.not_eq_true', Bool.and_eq_false_iff, Bool.or_eq_false_iff, Bool.not_eq_false', decide_eq_true_eq, decide_eq_false_iff_not, Classical.not_not] at *; omega) | (simp only [Bool.and_eq_true, Bool.or_eq_true, Bool.not_eq_true', Bool.and_eq_false_iff, Bool.or_eq_false_iff, Bool.not_eq_false', decide_eq_true_eq, decide_eq_false_iff_not, Classical.not_not, lt, List.length_cons, List.length_nil, List.length_append, List.length_map, List.length_reverse, List.length_set, rangeI_length] at *; omega)) (by decide)) (fun v16_draws h16 => ?_)
      exact sx_nil (sx_endN (.same (.same (.same (.same (.same (.same (.drop .nil))))))))
    exact sx_nil (sx_endN (.same (.same (.same (.same (.same (.drop (.same .nil))))))))
  · have hr7 := rangeI_get hx7
    have hd := draws_ix hp (k := x7_k) (by omega) (by omega)
    have hl := hp.1
    (first | (show List.length (Prod.fst _) = _; simp only [lt]; split <;> simp only [List.length_append, List.length_cons, List.length_nil] <;> omega))
  exact sx_retV (mr := (fun r => r)) 4 rfl (rets_ret) rfl

theorem draws_paired (c : Int) (s : List Int) (hp : DrawsPre s) : Paired (fun k y => 0 ≤ y ∧ y < ix s k) (rangeI 0 ((s.length : Int)).toNat) (m__law_draws c s) := by
  unfold m__law_draws
  simp only [lt]
  refine foldl_grow0 _ _ _ (fun st x hx => ?_) _
  have hr := mem_rangeI.mp hx
  have hd := draws_ix hp (k := x) (by omega) (by omega)
  split
  · exact ⟨_, rfl, Int.emod_nonneg _ (by omega), Int.emod_lt_of_pos _ (by omega)⟩
  · exact ⟨_, rfl, Int.emod_nonneg _ (by omega), Int.emod_lt_of_pos _ (by omega)⟩
theorem draws_len (c : Int) (s : List Int) (hp : DrawsPre s) : (m__law_draws c s).length = s.length := by
  have h := paired_len (draws_paired c s hp)
  rw [rangeI_length] at h
  omega
theorem draws_all {c : Int} {s v : List Int} (h : v = m__law_draws c s) (hp : DrawsPre s) : v.length = s.length ∧ ∀ (k : Int) (x : Int), s[k.toNat]? = some x → 0 ≤ k → 0 ≤ ix v k ∧ ix v k < x := by
  subst h
  have hl := draws_len c s hp
  refine ⟨hl, fun k x hx hk => ?_⟩
  have hlt := (List.getElem?_eq_some_iff.mp hx).1
  have e1 := ix_nn (xs := m__law_draws c s) hk (by omega)
  obtain ⟨k', f1, f2⟩ := paired_get (draws_paired c s hp) e1
  have hk' := rangeI_get f1
  have : k' = k := by omega
  subst this
  have e2 := ix_nn (xs := s) hk (by omega)
  rw [hx] at e2
  injection e2 with e2
  rw [e2]
  exact f2
theorem draws_nn {c : Int} {s v : List Int} (h : v = m__law_draws c s) (hp : DrawsPre s) (k : Int) (h0 : 0 ≤ k) (h1 : k < s.length) : 0 ≤ ix v k := by
  obtain ⟨_, hD⟩ := draws_all h hp
  exact (hD k _ (ix_nn h0 h1) h0).1
theorem draws_pre_rep {a b : List Int} {k : Int} (ha : DrawsPre a) (hb : ∀ s ∈ b, 0 < s ∧ s < 2 ^ 200) (hl : a.length + k.toNat * b.length ≤ 10000) : DrawsPre (a ++ repL b k) := by
  refine ⟨by rw [List.length_append, repL_length]; exact hl, fun s hs => ?_⟩
  rcases List.mem_append.mp hs with z | z
  · exact ha.2 s z
  · exact hb s (mem_repL z)

theorem repL_get {b : List Int} (hb : 0 < b.length) : ∀ (k i : Nat), i < k * b.length → (repL b (k : Int))[i]? = b[i % b.length]?
  | 0, i, h => by omega
  | k + 1, i, h => by
    have e : repL b ((k + 1 : Nat) : Int) = b ++ repL b (k : Int) := by
      unfold repL
      rw [Int.toNat_natCast, Int.toNat_natCast, List.replicate_succ, List.flatten_cons]
    rw [e]
    by_cases h1 : i < b.length
    · rw [List.getElem?_append_left h1, Nat.mod_eq_of_lt h1]
    · have e2 : i % b.length = (i - b.length) % b.length := Nat.mod_eq_sub_mod (by omega)
      rw [List.getElem?_append_right (by omega), repL_get hb k (i - b.length) (by rw [Nat.succ_mul] at h; omega), e2]
theorem draws_rest {c : Int} {a b v : List Int} {k j : Int} (h : v = sl (m__law_draws c (a ++ repL b k)) (some j) none) (hj : j = a.length) (ha : DrawsPre a) (hb : ∀ s ∈ b, 0 < s ∧ s < 2 ^ 200) (hl : a.length + k.toNat * b.length ≤ 10000) :
    v.length = k.toNat * b.length ∧ ∀ (i : Int) (x : Int), 0 ≤ i → i < ((k.toNat * b.length : Nat) : Int) → b[i.toNat % b.length]? = some x → 0 ≤ ix v i ∧ ix v i < x := by
  have hp := draws_pre_rep ha hb hl
  have e := draws_len c _ hp
  rw [List.length_append, repL_length] at e
  have hv : v.length = k.toNat * b.length := by
    rw [h, sl_from (by omega), List.length_drop, e]
    omega
  refine ⟨hv, fun i x h0 h1 hx => ?_⟩
  have hD := (draws_all (c := c) rfl hp).2 (j + i) x
  have g : (a ++ repL b k)[(j + i).toNat]? = some x := by
    have hb0 : 0 < b.length := by
      rcases Nat.eq_zero_or_pos b.length with z | z
      · rw [z] at hx; simp at hx; have := List.length_eq_zero_iff.mp z; subst this; simp at hx
      · exact z
    rw [List.getElem?_append_right (by omega)]
    have e1 : (j + i).toNat - a.length = i.toNat := by omega
    have e2 : repL b k = repL b ((k.toNat : Nat) : Int) := by unfold repL; rw [Int.toNat_natCast]
    rw [e1, e2, repL_get hb0 k.toNat i.toNat (by omega)]
    exact hx
  have r := hD g (by omega)
  have e3 : ix v i = ix (m__law_draws c (a ++ repL b k)) (j + i) := by
    have q1 := ix_nn (xs := v) (i := i) h0 (by omega)
    have q2 := ix_nn (xs := m__law_draws c (a ++ repL b k)) (i := j + i) (by omega) (by rw [e]; omega)
    rw [h, sl_from (by omega), List.getElem?_drop] at q1
    have e4 : j.toNat + i.toNat = (j + i).toNat := by omega
    rw [e4, q2] at q1
    injection q1 with q1
    rw [h, sl_from (by omega)]
    exact q1.symm
  rw [e3]
  exact r
theorem sum_ones' : ∀ {xs : List (List Nat)}, (∀ x ∈ xs, x.length = 1) → (xs.map List.length).sum = xs.length
  | [], _ => rfl
  | x :: xs, h => by
    rw [List.map_cons, List.sum_cons, h x List.mem_cons_self, sum_ones' fun y hy => h y (List.mem_cons_of_mem _ hy), List.length_cons]
    omega

def m__law_letter (a_number : Int) : (List Nat) :=
  [ix ([97, 98, 99, 100, 101, 102, 103, 104, 105, 106, 107, 108, 109, 110, 111, 112, 113, 114, 115, 116, 117, 118, 119, 120, 121, 122] : List Nat) (a_number % (26 : Int))]
abbrev s__law_letter : Stmt := topS 35
abbrev N__law_letter : List Str := ["number"]
theorem sc__law_letter : FnScope N__law_letter ["number"] (defScope s__law_letter) := ⟨rfl, rfl, rfl, by decide +kernel, rfl, by decide +kernel, by decide +kernel⟩
abbrev Ok__law_letter (P : Program) (w : World) (K : PySem.W.Frag) (mg : Str → Option Value) (base : Heap) : Prop :=
  DefOk P w K mg base 1 "_law_letter" 1 (spD (ι := Int) K (fun i => True) (fun i => [.is i]) (fun i => .is (m__law_letter i)))
theorem ok__law_letter {P : Program} {w : World} {K : PySem.W.Frag} {mg : Str → Option Value} {base : Heap} {f : Addr} {fd : FuncData} (F : Fun K "_law_letter" "_law_letter" s__law_letter f fd) (hm : mg "_law_letter" = some (.ref f)) (bd : Binds K fd ["number"] []) (T : Bt mg)  : Ok__law_letter P w K mg base := by
  refine defOk (kk := 0) (R := (List Nat)) F hm sc__law_letter bd _ _ (fun r => .is r) _ (fun _ => rfl) (fun i hp cdv A outer s H E hr => ?_)
  obtain ⟨a_number, rfl⟩ : ∃ z, z = i := ⟨i, rfl⟩
  show SX _ _ [.is a_number] _ (m__law_letter a_number)
  unfold m__law_letter
  exact sx_retI (mr := (fun r => r)) (rets_ret) rfl (px_ixS (px_str (by decide +kernel)) (px_mod (px_int1 T.int_ (px_var 0 rfl)) px_int (by first | omega | (have tc_ := tc (by first | assumption | exact Bool.eq_false_iff.mpr (by assumption)); omega) | (have tp_ := tp (by assumption); omega) | (simp only [Bool.and_eq_true, Bool.or_eq_true, Bool.not_eq_true', Bool.and_eq_false_iff, Bool.or_eq_false_iff, Bool.not_eq_false', decide_eq_true_eq, decide_eq_false_iff_not, Classical.not_not] at *; omega) | (simp only [Bool.and_eq_true, Bool.or_eq_true, Bool.not_eq_true', Bool.and_eq_false_iff, Bool.or_eq_false_iff, Bool.not_eq_false', decide_eq_true_eq, decide_eq_false_iff_not, Classical.not_not, lt, List.length_cons, List.length_nil, List.length_append, List.length_map, List.length_reverse, List.length_set, rangeI_length] at *; omega))) (by first | omega | decide | exact Nat.le_trans (show _ ≤ 100000 by omega) (by decide)) (by first | (constructor <;> omega) | (have tc_ := tc (by first | assumption | exact Bool.eq_false_iff.mpr (by assumption)); constructor <;> omega) | (have tp_ := tp (by assumption); constructor <;> omega) | (simp only [Bool.and_eq_true, Bool.or_eq_true, Bool.not_eq_true', Bool.and_eq_false_iff, Bool.or_eq_false_iff, Bool.not_eq_false', decide_eq_true_eq, decide_eq_false_iff_not, Classical.not_not] at *; constructor <;> omega) | (simp only [Bool.and_eq_true, Bool.or_eq_true, Bool.not_eq_true', Bool.and_eq_false_iff, Bool.or_eq_false_iff, Bool.not_eq_false', decide_eq_true_eq, decide_eq_false_iff_not, Classical.not_not, lt, List.length_cons, List.length_nil, List.length_append, List.length_map, List.length_reverse, List.length_set, rangeI_length] at *; constructor <;> omega)))

theorem letter_good (n : Int) : ∃ c, m__law_letter n = [c] ∧ 97 ≤ c ∧ c ≤ 122 := by
  refine ⟨_, rfl, ?_⟩
  exact ix_all (fun c => 97 ≤ c ∧ c ≤ 122) (by decide) (by
    have h1 := Int.emod_nonneg n (show (26 : Int) ≠ 0 by decide)
    have h2 := Int.emod_lt_of_pos n (show (0 : Int) < 26 by decide)
    simp only [List.length_cons, List.length_nil]
    omega)
theorem letter_len (n : Int) : (m__law_letter n).length = 1 := rfl

def m__law_size (a_mode : Int) (a_number : Int) (a_most : Int) : Int :=
  (if (decide (a_mode < (6 : Int))) = true then ((1 : Int) + (a_number % (if a_most < (9 : Int) then a_most else (9 : Int) : Int))) else 
  (if (decide (a_mode < (9 : Int))) = true then ((1 : Int) + (a_number % (if a_most < (18 : Int) then a_most else (18 : Int) : Int))) else 
    ((1 : Int) + (a_number % a_most))))
abbrev s__law_size : Stmt := topS 36
abbrev N__law_size : List Str := ["mode", "number", "most"]
theorem sc__law_size : FnScope N__law_size ["mode", "number", "most"] (defScope s__law_size) := ⟨rfl, rfl, rfl, by decide +kernel, rfl, by decide +kernel, by decide +kernel⟩
abbrev Ok__law_size (P : Program) (w : World) (K : PySem.W.Frag) (mg : Str → Option Value) (base : Heap) : Prop :=
  DefOk P w K mg base 1 "_law_size" 3 (spD (ι := Int × Int × Int) K (fun i => 1 ≤ i.2.2) (fun i => [.is i.1, .is i.2.1, .is i.2.2]) (fun i => .is (m__law_size i.1 i.2.1 i.2.2)))
theorem ok__law_size {P : Program} {w : World} {K : PySem.W.Frag} {mg : Str → Option Value} {base : Heap} {f : Addr} {fd : FuncData} (F : Fun K "_law_size" "_law_size" s__law_size f fd) (hm : mg "_law_size" = some (.ref f)) (bd : Binds K fd ["mode", "number", "most"] []) (T : Bt mg)  : Ok__law_size P w K mg base := by
  refine defOk (kk := 0) (R := Int) F hm sc__law_size bd _ _ (fun r => .is r) _ (fun _ => rfl) (fun i hp cdv A outer s H E hr => ?_)
  obtain ⟨a_mode, a_number, a_most⟩ := i
  have hp : 1 ≤ a_most := hp
  show SX _ _ [.is a_mode, .is a_number, .is a_most] _ (m__law_size a_mode a_number a_most)
  unfold m__law_size
  refine sx_if (tx_lt (px_var 0 rfl) px_int) (fun hc1 => ?_) (fun hc1 => ?_)
  · try simp only [Bool.and_eq_true, Bool.or_eq_true, Bool.not_eq_true', Bool.and_eq_false_iff, Bool.or_eq_false_iff, Bool.not_eq_false', decide_eq_true_eq, decide_eq_false_iff_not, Classical.not_not] at hc1
    exact sx_retI (mr := (fun r => r)) (rets_ret) rfl (px_add px_int (px_mod (px_int1 T.int_ (px_var 1 rfl)) (px_min rfl T.min_ px_int (px_var 2 rfl)) (by first | omega | (have tc_ := tc (by first | assumption | exact Bool.eq_false_iff.mpr (by assumption)); omega) | (have tp_ := tp (by assumption); omega) | (simp only [Bool.and_eq_true, Bool.or_eq_true, Bool.not_eq_true', Bool.and_eq_false_iff, Bool.or_eq_false_iff, Bool.not_eq_false', decide_eq_true_eq, decide_eq_false_iff_not, Classical.not_not] at *; omega) | (simp only [Bool.and_eq_true, Bool.or_eq_true, Bool.not_eq_true', Bool.and_eq_false_iff, Bool.or_eq_false_iff, Bool.not_eq_false', decide_eq_true_eq, decide_eq_false_iff_not, Classical.not_not, lt, List.length_cons, List.length_nil, List.length_append, List.length_map, List.length_reverse, List.length_set, rangeI_length] at *; omega))))
  · try simp only [Bool.and_eq_true, Bool.or_eq_true, Bool.not_eq_true', Bool.and_eq_false_iff, Bool.or_eq_false_iff, Bool.not_eq_false', decide_eq_true_eq, decide_eq_false_iff_not, Classical.not_not] at hc1
    refine sx_nil ?_
    refine sx_if (tx_lt (px_var 0 rfl) px_int) (fun hc2 => ?_) (fun hc2 => ?_)
    · try simp only [Bool.and_eq_true, Bool.or_eq_true, Bool.not_eq_true', Bool.and_eq_false_iff, Bool.or_eq_false_iff, Bool.not_eq_false', decide_eq_true_eq, decide_eq_false_iff_not, Classical.not_not] at hc2
      exact sx_retI (mr := (fun r => r)) (rets_ret) rfl (px_add px_int (px_mod (px_int1 T.int_ (px_var 1 rfl)) (px_min rfl T.min_ px_int (px_var 2 rfl)) (by first | omega | (have tc_ := tc (by first | assumption | exact Bool.eq_false_iff.mpr (by assumption)); omega) | (have tp_ := tp (by assumption); omega) | (simp only [Bool.and_eq_true, Bool.or_eq_true, Bool.not_eq_true', Bool.and_eq_false_iff, Bool.or_eq_false_iff, Bool.not_eq_false', decide_eq_true_eq, decide_eq_false_iff_not, Classical.not_not] at *; omega) | (simp only [Bool.and_eq_true, Bool.or_eq_true, Bool.not_eq_true', Bool.and_eq_false_iff, Bool.or_eq_false_iff, Bool.not_eq_false', decide_eq_true_eq, decide_eq_false_iff_not, Classical.not_not, lt, List.length_cons, List.length_nil, List.length_append, List.length_map, List.length_reverse, List.length_set, rangeI_length] at *; omega))))
    · try simp only [Bool.and_eq_true, Bool.or_eq_true, Bool.not_eq_true', Bool.and_eq_false_iff, Bool.or_eq_false_iff, Bool.not_eq_false', decide_eq_true_eq, decide_eq_false_iff_not, Classical.not_not] at hc2
      refine sx_nil ?_
      exact sx_retI (mr := (fun r => r)) (rets_ret) rfl (px_add px_int (px_mod (px_int1 T.int_ (px_var 1 rfl)) (px_var 2 rfl) (by first | omega | (have tc_ := tc (by first | assumption | exact Bool.eq_false_iff.mpr (by assumption)); omega) | (have tp_ := tp (by assumption); omega) | (simp only [Bool.and_eq_true, Bool.or_eq_true, Bool.not_eq_true', Bool.and_eq_false_iff, Bool.or_eq_false_iff, Bool.not_eq_false', decide_eq_true_eq, decide_eq_false_iff_not, Classical.not_not] at *; omega) | (simp only [Bool.and_eq_true, Bool.or_eq_true, Bool.not_eq_true', Bool.and_eq_false_iff, Bool.or_eq_false_iff, Bool.not_eq_false', decide_eq_true_eq, decide_eq_false_iff_not, Classical.not_not, lt, List.length_cons, List.length_nil, List.length_append, List.length_map, List.length_reverse, List.length_set, rangeI_length] at *; omega))))

theorem size_post {mode number most v : Int} (h : v = m__law_size mode number most) (h1 : 1 ≤ most) : 1 ≤ v ∧ v ≤ most := by
  subst h
  unfold m__law_size
  have key : ∀ m : Int, 1 ≤ m → m ≤ most → 1 ≤ 1 + number % m ∧ 1 + number % m ≤ most := fun m h2 h3 => by
    have a := Int.emod_nonneg number (show m ≠ 0 by omega)
    have b := Int.emod_lt_of_pos number (show 0 < m by omega)
    omega
  split
  · exact key _ (by split <;> omega) (by split <;> omega)
  · split
    · exact key _ (by split <;> omega) (by split <;> omega)
    · exact key _ h1 (by omega)

def isIntD : PyData → Bool
  | .int _ => true
  | _ => false
abbrev s__law_is_int : Stmt := topS 42
abbrev N__law_is_int : List Str := ["x"]
theorem sc__law_is_int : FnScope N__law_is_int ["x"] (defScope s__law_is_int) := ⟨rfl, rfl, rfl, by decide +kernel, rfl, by decide +kernel, by decide +kernel⟩
abbrev Ok__law_is_int (P : Program) (w : World) (K : PySem.W.Frag) (mg : Str → Option Value) (base : Heap) : Prop :=
  DefOk P w K mg base 1 "_law_is_int" 1 (spD (ι := PyData) K (fun i => flatD 9 i = true) (fun i => [.is i]) (fun i => .is (isIntD i)))
theorem ok__law_is_int {P : Program} {w : World} {K : PySem.W.Frag} {mg : Str → Option Value} {base : Heap} {f : Addr} {fd : FuncData} (F : Fun K "_law_is_int" "_law_is_int" s__law_is_int f fd) (hm : mg "_law_is_int" = some (.ref f)) (bd : Binds K fd ["x"] []) (T : Bt mg) : Ok__law_is_int P w K mg base := by
  refine defOk (kk := 0) (R := Bool) F hm sc__law_is_int bd _ _ (fun r => .is r) _ (fun _ => rfl) (fun i hp cdv A outer s H E hr => ?_)
  show SX _ _ [.is i] _ (isIntD i)
  cases i with
  | none => exact sx_retI (mr := fun r => r) rets_ret rfl (px_and (px_isD _ "int" false (px_var 0 rfl) T.isinstance_ T.int_) (fun h => nomatch h) (y := false))
  | bool b => exact sx_retI (mr := fun r => r) rets_ret rfl (px_and (px_isD _ "int" true (px_var 0 rfl) T.isinstance_ T.int_) (fun _ => px_and1 (px_not (px_isD _ "bool" true (px_var 0 rfl) T.isinstance_ T.bool_))))
  | int j => exact sx_retI (mr := fun r => r) rets_ret rfl (px_and (px_isD _ "int" true (px_var 0 rfl) T.isinstance_ T.int_) (fun _ => px_and1 (px_not (px_isD _ "bool" false (px_var 0 rfl) T.isinstance_ T.bool_))))
  | str x => exact sx_retI (mr := fun r => r) rets_ret rfl (px_and (px_isD _ "int" false (px_var 0 rfl) T.isinstance_ T.int_) (fun h => nomatch h) (y := false))
  | list x => exact sx_retI (mr := fun r => r) rets_ret rfl (px_and (px_isD _ "int" false (px_var 0 rfl) T.isinstance_ T.int_) (fun h => nomatch h) (y := false))
  | tuple x => exact sx_retI (mr := fun r => r) rets_ret rfl (px_and (px_isD _ "int" false (px_var 0 rfl) T.isinstance_ T.int_) (fun h => nomatch h) (y := false))
  | dict x => exact absurd hp (by unfold flatD; decide)
abbrev s__law_same : Stmt := topS 43
abbrev N__law_same : List Str := ["got", "due", "k"]
theorem sc__law_same : FnScope N__law_same ["got", "due"] (defScope s__law_same) := ⟨rfl, rfl, rfl, by decide +kernel, rfl, by decide +kernel, by decide +kernel⟩
abbrev Ok__law_same (n : Nat) (P : Program) (w : World) (K : PySem.W.Frag) (mg : Str → Option Value) (base : Heap) : Prop :=
  DefOk P w K mg base (n + 2) "_law_same" 2 (spD (ι := PyData × PyData) K (fun i => flatD 9 i.1 = true ∧ flatD n i.2 = true) (fun i => [.is i.1, .is i.2]) (fun i => .is (same i.1 i.2)))
theorem flatD_list {n : Nat} {ds : List PyData} (h : flatD (n + 1) (.list ds) = true) : ds.length ≤ 1000000 ∧ flatAll n ds = true := by
  unfold flatD at h
  have h' := Bool.and_eq_true_iff.mp h
  exact ⟨of_decide_eq_true h'.1, h'.2⟩
theorem flatD_tuple {n : Nat} {ds : List PyData} (h : flatD (n + 1) (.tuple ds) = true) : ds.length ≤ 1000000 ∧ flatAll n ds = true := by
  unfold flatD at h
  have h' := Bool.and_eq_true_iff.mp h
  exact ⟨of_decide_eq_true h'.1, h'.2⟩
mutual
theorem flatD_mono : ∀ (n : Nat) (d : PyData), flatD n d = true → flatD (n + 1) d = true
  | 0, d, h => by cases d <;> (unfold flatD at h; cases h)
  | n + 1, .list a, h => by
    have h := flatD_list h
    unfold flatD
    exact Bool.and_eq_true_iff.mpr ⟨decide_eq_true h.1, flatAll_mono n a h.2⟩
  | n + 1, .tuple a, h => by
    have h := flatD_tuple h
    unfold flatD
    exact Bool.and_eq_true_iff.mpr ⟨decide_eq_true h.1, flatAll_mono n a h.2⟩
  | n + 1, .dict a, h => by unfold flatD at h; cases h
  | n + 1, .none, h => by unfold flatD; rfl
  | n + 1, .bool _, h => by unfold flatD; rfl
  | n + 1, .int _, h => by unfold flatD; rfl
  | n + 1, .str _, h => by unfold flatD; rfl
theorem flatAll_mono : ∀ (n : Nat) (ds : List PyData), flatAll n ds = true → flatAll (n + 1) ds = true
  | _, [], _ => by unfold flatAll; rfl
  | n, x :: xs, h => by
    unfold flatAll at h ⊢
    have h' := Bool.and_eq_true_iff.mp h
    exact Bool.and_eq_true_iff.mpr ⟨flatD_mono n x h'.1, flatAll_mono n xs h'.2⟩
end
section
variable {P : Program} {w : World} {K : PySem.W.Frag} {mg : Str → Option Value} {base : Heap} {f : Addr} {fd : FuncData}
theorem ok__law_same (F : Fun K "_law_same" "_law_same" s__law_same f fd) (hm : mg "_law_same" = some (.ref f)) (bd : Binds K fd ["got", "due"] []) (T : Bt mg) (D_is : Ok__law_is_int P w K mg base) : ∀ n, Ok__law_same n P w K mg base := by
  intro n
  induction n with
  | zero =>
    obtain ⟨f', fd', ps, F', h1, h2, h3, h4⟩ := D_is.ex
    refine ⟨f, fd, ["got", "due"], ⟨?_, ?_⟩, hm, F.kp, bd, rfl⟩
    · intro vs H Q E h
      obtain ⟨_, _, _, _, l, _⟩ := h
      exact l
    · intro A outer s H args us vs Q E hr he hb hv hs
      obtain ⟨Hd0, i, g1, g2, _⟩ := hs
      have := g2.2
      unfold flatD at this
      cases this
  | succ n ih =>
    refine defOk (kk := n + 2) (R := Bool) F hm sc__law_same bd _ _ (fun r => .is r) _ (fun _ => rfl) (fun i hp cdv A outer s H E hr => ?_)
    obtain ⟨got, due⟩ := i
    have hp : flatD 9 got = true ∧ flatD (n + 1) due = true := hp
    obtain ⟨hg, hd⟩ := hp
    show SX _ _ [.is got, .is due, .no] _ (same got due)
    cases due with
    | dict x => exact absurd hd (by unfold flatD; decide)
    | none =>
      refine sx_ifT (tx_isND (px_var 1 rfl)) ?_
      refine sx_eq (sx_retI (mr := fun r => r) rets_ret rfl (px_isND (px_var 0 rfl))) ?_
      cases got <;> first | rfl | (unfold same isNoneD; rfl)
    | bool b =>
      refine sx_ifF (tx_isND (px_var 1 rfl)) (sx_nil ?_)
      refine sx_ifT (tx_val (px_isD _ "bool" true (px_var 1 rfl) T.isinstance_ T.bool_)) ?_
      cases got with
      | bool c =>
        refine sx_eq (sx_retI (mr := fun r => r) rets_ret rfl (px_and (px_isD _ "bool" true (px_var 0 rfl) T.isinstance_ T.bool_) (fun _ => px_and1 (px_eqD0 (decide (c = b)) (vd := .bl c) (ve := .bl b) (fun _ _ _ h => by cases h; rfl) (fun _ _ _ h => by cases h; rfl) rfl dec_valB (px_var 0 rfl) (px_var 1 rfl))))) ?_
        unfold same
        show (true && decide (c = b)) = (c == b)
        cases c <;> cases b <;> rfl
      | dict x => exact absurd hg (by unfold flatD; decide)
      | _ =>
        refine sx_eq (sx_retI (mr := fun r => r) rets_ret rfl (px_and (y := false) (px_isD _ "bool" false (px_var 0 rfl) T.isinstance_ T.bool_) (fun h => nomatch h))) ?_
        unfold same
        rfl
    | int b =>
      refine sx_ifF (tx_isND (px_var 1 rfl)) (sx_nil ?_)
      refine sx_ifF (tx_val (px_isD _ "bool" false (px_var 1 rfl) T.isinstance_ T.bool_)) (sx_nil ?_)
      refine sx_ifT (tx_val (px_isD _ "int" true (px_var 1 rfl) T.isinstance_ T.int_)) ?_
      cases got with
      | int c =>
        refine sx_eq (sx_retI (mr := fun r => r) rets_ret rfl (px_and (px_call D_is (PyData.int c) hg (hr.mono (by omega)) (ax_cons (px_var 0 rfl) ax_nil) (.is .nil)) (fun _ => px_and1 (px_eqD0 (decide (c = b)) (vd := .int c) (ve := .int b) (fun _ _ _ h => by cases h; rfl) (fun _ _ _ h => by cases h; rfl) rfl dec_valI (px_var 0 rfl) (px_var 1 rfl))))) ?_
        unfold same
        show (true && decide (c = b)) = (c == b)
        rw [Bool.true_and]
        by_cases h : c = b
        · subst h; simp
        · simp [h]
      | dict x => exact absurd hg (by unfold flatD; decide)
      | none =>
        refine sx_eq (sx_retI (mr := fun r => r) rets_ret rfl (px_and (x := isIntD .none) (y := false) (px_call D_is PyData.none hg (hr.mono (by omega)) (ax_cons (px_var 0 rfl) ax_nil) (.is .nil)) (fun h => nomatch h))) ?_
        unfold same
        rfl
      | bool z =>
        refine sx_eq (sx_retI (mr := fun r => r) rets_ret rfl (px_and (x := isIntD (.bool z)) (y := false) (px_call D_is (PyData.bool z) hg (hr.mono (by omega)) (ax_cons (px_var 0 rfl) ax_nil) (.is .nil)) (fun h => nomatch h))) ?_
        unfold same
        rfl
      | str z =>
        refine sx_eq (sx_retI (mr := fun r => r) rets_ret rfl (px_and (x := isIntD (.str z)) (y := false) (px_call D_is (PyData.str z) hg (hr.mono (by omega)) (ax_cons (px_var 0 rfl) ax_nil) (.is .nil)) (fun h => nomatch h))) ?_
        unfold same
        rfl
      | list z =>
        refine sx_eq (sx_retI (mr := fun r => r) rets_ret rfl (px_and (x := isIntD (.list z)) (y := false) (px_call D_is (PyData.list z) hg (hr.mono (by omega)) (ax_cons (px_var 0 rfl) ax_nil) (.is .nil)) (fun h => nomatch h))) ?_
        unfold same
        rfl
      | tuple z =>
        refine sx_eq (sx_retI (mr := fun r => r) rets_ret rfl (px_and (x := isIntD (.tuple z)) (y := false) (px_call D_is (PyData.tuple z) hg (hr.mono (by omega)) (ax_cons (px_var 0 rfl) ax_nil) (.is .nil)) (fun h => nomatch h))) ?_
        unfold same
        rfl
    | str b =>
      refine sx_ifF (tx_isND (px_var 1 rfl)) (sx_nil ?_)
      refine sx_ifF (tx_val (px_isD _ "bool" false (px_var 1 rfl) T.isinstance_ T.bool_)) (sx_nil ?_)
      refine sx_ifF (tx_val (px_isD _ "int" false (px_var 1 rfl) T.isinstance_ T.int_)) (sx_nil ?_)
      refine sx_ifT (tx_val (px_isD _ "str" true (px_var 1 rfl) T.isinstance_ T.str_)) ?_
      cases got with
      | str c =>
        refine sx_eq (sx_retI (mr := fun r => r) rets_ret rfl (px_and (px_isD _ "str" true (px_var 0 rfl) T.isinstance_ T.str_) (fun _ => px_and1 (px_eqD0 (decide (c = b)) (vd := .str c) (ve := .str b) (fun _ _ _ h => by cases h; rfl) (fun _ _ _ h => by cases h; rfl) rfl (by by_cases h : c = b <;> simp [h]) (px_var 0 rfl) (px_var 1 rfl))))) ?_
        unfold same
        show (true && decide (c = b)) = (c == b)
        rw [Bool.true_and]
        by_cases h : c = b
        · subst h; simp
        · simp [h]
      | dict x => exact absurd hg (by unfold flatD; decide)
      | _ =>
        refine sx_eq (sx_retI (mr := fun r => r) rets_ret rfl (px_and (y := false) (px_isD _ "str" false (px_var 0 rfl) T.isinstance_ T.str_) (fun h => nomatch h))) ?_
        unfold same
        rfl
    | list ds =>
      obtain ⟨hlen, hds⟩ := flatD_list hd
      refine sx_ifF (tx_isND (px_var 1 rfl)) (sx_nil ?_)
      refine sx_ifF (tx_val (px_isD _ "bool" false (px_var 1 rfl) T.isinstance_ T.bool_)) (sx_nil ?_)
      refine sx_ifF (tx_val (px_isD _ "int" false (px_var 1 rfl) T.isinstance_ T.int_)) (sx_nil ?_)
      refine sx_ifF (tx_val (px_isD _ "str" false (px_var 1 rfl) T.isinstance_ T.str_)) (sx_nil ?_)
      cases got with
      | list gs =>
        have hgs := (flatD_list hg).2
        refine sx_ifF (tx_w (wx_and (tx_val (px_isD _ "list" true (px_var 1 rfl) T.isinstance_ T.list_)) (fun _ => wx_and1 (tx_not (tx_val (px_isD _ "list" true (px_var 0 rfl) T.isinstance_ T.list_)))))) (sx_nil ?_)
        refine sx_ifF (tx_w (wx_and (y := false) (tx_val (px_isD _ "tuple" false (px_var 1 rfl) T.isinstance_ T.tuple_)) (fun h => nomatch h))) (sx_nil ?_)
        refine sx_eq (sx_if (tx_ne (px_lenD (ds := gs) (.inl rfl) T.len_ (px_var 0 rfl)) (px_lenD (ds := ds) (.inl rfl) T.len_ (px_var 1 rfl))) (fun hc => sx_retI (mr := fun r => r) rets_ret rfl px_bool) (fun hc => sx_nil (sx_for (S := Unit) (R := Bool) (mr := fun r => r) (mm := fun _ => true) 2 (fun _ => [.is (PyData.list gs), .is (PyData.list ds), .no]) (fun r => .is r) (sameStep gs ds) () (fun _ _ => True) (it_range1 T.range_ (px_lenD (ds := ds) (.inl rfl) T.len_ (px_var 1 rfl)) ⟨by omega, by omega⟩) (pg_name (i := 2) sc__law_same.nd rfl (by first | exact Or.inl rfl | exact Or.inr rfl)) (.same (.same (.same .nil))) trivial (fun i u x hx _ => ?_) (fun _ _ _ _ _ _ _ => trivial) rets_ret (fun _ _ => sx_retI (mr := fun r => r) rets_ret rfl px_bool)))) ?_
        · obtain ⟨hi, hxe⟩ := rangeI_get hx
          have hc2 : (gs.length : Int) = ds.length := by simpa using hc
          have hc' : gs.length = ds.length := by omega
          have hlt : i < ds.length := by omega
          clear hx
          obtain rfl : x = (i : Int) := by omega
          have hi' : i < ds.length := by omega
          have hx0 : (i : Int) = (i : Int) := rfl
          have g1 : gs[i]? = some gs[i] := List.getElem?_eq_getElem (by omega)
          have g2 : ds[i]? = some ds[i] := List.getElem?_eq_getElem hi'
          have q1 : flatD 9 gs[i] = true := flatD_mono 8 _ (flatAll_mem hgs (List.mem_of_getElem? g1))
          have q2 : flatD n ds[i] = true := flatAll_mem hds (List.mem_of_getElem? g2)
          have es : sameStep gs ds u (i : Int) = if (!same gs[i] ds[i]) = true then .ret false else .go () := by
            unfold sameStep
            rw [show ((i : Int)).toNat = i from rfl, g1, g2]
            rfl
          rw [es]
          exact sx_if (tx_not (tx_val (px_call ih (gs[i], ds[i]) ⟨q1, q2⟩ (hr.mono (by omega)) (ax_cons (px_ixD (.inl rfl) g1 hx0 (px_var 0 rfl) (px_var 2 rfl)) (ax_cons (px_ixD (.inl rfl) g2 hx0 (px_var 1 rfl) (px_var 2 rfl)) ax_nil)) (.is (.is .nil))))) (fun _ => sx_retI (mr := Out.ret) rets_out rfl px_bool) (fun _ => sx_nil (sx_nil (sx_endO (.same (.same (.drop .nil))))))
        · exact (same_fin gs ds).trans (by unfold same; rfl)
      | dict x => exact absurd hg (by unfold flatD; decide)
      | _ =>
        refine sx_ifT (tx_w (wx_and (tx_val (px_isD _ "list" true (px_var 1 rfl) T.isinstance_ T.list_)) (fun _ => wx_and1 (tx_not (tx_val (px_isD _ "list" false (px_var 0 rfl) T.isinstance_ T.list_)))))) ?_
        refine sx_eq (sx_retI (mr := fun r => r) rets_ret rfl px_bool) ?_
        unfold same
        rfl
    | tuple ds =>
      obtain ⟨hlen, hds⟩ := flatD_tuple hd
      refine sx_ifF (tx_isND (px_var 1 rfl)) (sx_nil ?_)
      refine sx_ifF (tx_val (px_isD _ "bool" false (px_var 1 rfl) T.isinstance_ T.bool_)) (sx_nil ?_)
      refine sx_ifF (tx_val (px_isD _ "int" false (px_var 1 rfl) T.isinstance_ T.int_)) (sx_nil ?_)
      refine sx_ifF (tx_val (px_isD _ "str" false (px_var 1 rfl) T.isinstance_ T.str_)) (sx_nil ?_)
      refine sx_ifF (tx_w (wx_and (y := false) (tx_val (px_isD _ "list" false (px_var 1 rfl) T.isinstance_ T.list_)) (fun h => nomatch h))) (sx_nil ?_)
      cases got with
      | tuple gs =>
        have hgs := (flatD_tuple hg).2
        refine sx_ifF (tx_w (wx_and (tx_val (px_isD _ "tuple" true (px_var 1 rfl) T.isinstance_ T.tuple_)) (fun _ => wx_and1 (tx_not (tx_val (px_isD _ "tuple" true (px_var 0 rfl) T.isinstance_ T.tuple_)))))) (sx_nil ?_)
        refine sx_eq (sx_if (tx_ne (px_lenD (ds := gs) (.inr rfl) T.len_ (px_var 0 rfl)) (px_lenD (ds := ds) (.inr rfl) T.len_ (px_var 1 rfl))) (fun hc => sx_retI (mr := fun r => r) rets_ret rfl px_bool) (fun hc => sx_nil (sx_for (S := Unit) (R := Bool) (mr := fun r => r) (mm := fun _ => true) 2 (fun _ => [.is (PyData.tuple gs), .is (PyData.tuple ds), .no]) (fun r => .is r) (sameStep gs ds) () (fun _ _ => True) (it_range1 T.range_ (px_lenD (ds := ds) (.inr rfl) T.len_ (px_var 1 rfl)) ⟨by omega, by omega⟩) (pg_name (i := 2) sc__law_same.nd rfl (by first | exact Or.inl rfl | exact Or.inr rfl)) (.same (.same (.same .nil))) trivial (fun i u x hx _ => ?_) (fun _ _ _ _ _ _ _ => trivial) rets_ret (fun _ _ => sx_retI (mr := fun r => r) rets_ret rfl px_bool)))) ?_
        · obtain ⟨hi, hxe⟩ := rangeI_get hx
          have hc2 : (gs.length : Int) = ds.length := by simpa using hc
          have hc' : gs.length = ds.length := by omega
          have hlt : i < ds.length := by omega
          clear hx
          obtain rfl : x = (i : Int) := by omega
          have hi' : i < ds.length := by omega
          have hx0 : (i : Int) = (i : Int) := rfl
          have g1 : gs[i]? = some gs[i] := List.getElem?_eq_getElem (by omega)
          have g2 : ds[i]? = some ds[i] := List.getElem?_eq_getElem hi'
          have q1 : flatD 9 gs[i] = true := flatD_mono 8 _ (flatAll_mem hgs (List.mem_of_getElem? g1))
          have q2 : flatD n ds[i] = true := flatAll_mem hds (List.mem_of_getElem? g2)
          have es : sameStep gs ds u (i : Int) = if (!same gs[i] ds[i]) = true then .ret false else .go () := by
            unfold sameStep
            rw [show ((i : Int)).toNat = i from rfl, g1, g2]
            rfl
          rw [es]
          exact sx_if (tx_not (tx_val (px_call ih (gs[i], ds[i]) ⟨q1, q2⟩ (hr.mono (by omega)) (ax_cons (px_ixD (.inr rfl) g1 hx0 (px_var 0 rfl) (px_var 2 rfl)) (ax_cons (px_ixD (.inr rfl) g2 hx0 (px_var 1 rfl) (px_var 2 rfl)) ax_nil)) (.is (.is .nil))))) (fun _ => sx_retI (mr := Out.ret) rets_out rfl px_bool) (fun _ => sx_nil (sx_nil (sx_endO (.same (.same (.drop .nil))))))
        · exact (same_fin gs ds).trans (by unfold same; rfl)
      | dict x => exact absurd hg (by unfold flatD; decide)
      | _ =>
        refine sx_ifT (tx_w (wx_and (tx_val (px_isD _ "tuple" true (px_var 1 rfl) T.isinstance_ T.tuple_)) (fun _ => wx_and1 (tx_not (tx_val (px_isD _ "tuple" false (px_var 0 rfl) T.isinstance_ T.tuple_)))))) ?_
        refine sx_eq (sx_retI (mr := fun r => r) rets_ret rfl px_bool) ?_
        unfold same
        rfl
end

structure Cs (mg : Str → Option Value) : Prop where
  c_MOST : ∃ t : Tok, mg "MOST" = some (.int 128 t)



/-- the letter of a put, or nothing wrong with a copy -/
def okP : Phr → Prop
  | .put c => ∃ z, c = [z] ∧ 97 ≤ z ∧ z ≤ 122
  | .copy s l => 0 ≤ s ∧ 1 ≤ l
def manyP : Phr → Int
  | .put _ => 1
  | .copy _ l => l
def totP : List Phr → Int
  | [] => 0
  | p :: ps => manyP p + totP ps
/-- phrases that Copies takes -/
def GoodP (ps : List Phr) : Prop := ps ≠ [] ∧ (∀ p ∈ ps, okP p) ∧ totP ps ≤ 128 ∧ ∀ p ∈ ps, p.isPut = false → p.start + p.len ≤ totP ps
theorem many_pos {p : Phr} (h : okP p) : 1 ≤ manyP p := by
  cases p with
  | put c => exact Int.le_refl _
  | copy s l => exact h.2
theorem tot_nn : ∀ {ps : List Phr}, (∀ p ∈ ps, okP p) → 0 ≤ totP ps
  | [], _ => Int.le_refl _
  | p :: ps, h => by
    have h1 := many_pos (h p List.mem_cons_self)
    have h2 := tot_nn (ps := ps) fun q hq => h q (List.mem_cons_of_mem _ hq)
    show 0 ≤ manyP p + totP ps
    omega
theorem tot_app : ∀ (ps qs : List Phr), totP (ps ++ qs) = totP ps + totP qs
  | [], qs => by show totP qs = 0 + totP qs; omega
  | p :: ps, qs => by
    have := tot_app ps qs
    show manyP p + totP (ps ++ qs) = manyP p + totP ps + totP qs
    omega
theorem tot_take {ps : List Phr} {i : Nat} {x : Phr} (h : ps[i]? = some x) : totP (ps.take (i + 1)) = totP (ps.take i) + manyP x := by
  rw [List.take_succ, h, tot_app]
  show _ + (manyP x + 0) = _
  omega
theorem tot_take_le {ps : List Phr} (h : ∀ p ∈ ps, okP p) (i : Nat) : totP (ps.take i) ≤ totP ps := by
  have e : totP ps = totP (ps.take i) + totP (ps.drop i) := by rw [← tot_app, List.take_append_drop]
  have := tot_nn (ps := ps.drop i) fun p hp => h p (List.mem_of_mem_drop hp)
  omega
theorem len_le_tot : ∀ {ps : List Phr}, (∀ p ∈ ps, okP p) → (ps.length : Int) ≤ totP ps
  | [], _ => Int.le_refl _
  | p :: ps, h => by
    have h1 := many_pos (h p List.mem_cons_self)
    have h2 := len_le_tot (ps := ps) fun q hq => h q (List.mem_cons_of_mem _ hq)
    show ((ps.length + 1 : Nat) : Int) ≤ manyP p + totP ps
    omega
theorem good_len {ps : List Phr} (h : GoodP ps) : ps.length ≤ 128 := by
  have := len_le_tot h.2.1
  have := h.2.2.1
  omega
/-- what a phrase of a good list has -/
theorem tot_bd {ps : List Phr} (h : GoodP ps) {i : Nat} {x : Phr} (hx : ps[i]? = some x) : totP (ps.take (i + 1)) = totP (ps.take i) + manyP x ∧ totP (ps.take (i + 1)) ≤ 128 ∧ 0 ≤ totP (ps.take i) ∧ 1 ≤ manyP x ∧ totP ps ≤ 128 := by
  refine ⟨tot_take hx, ?_, tot_nn fun p hp => h.2.1 p (List.mem_of_mem_take hp), many_pos (h.2.1 _ (List.mem_of_getElem? hx)), h.2.2.1⟩
  have := tot_take_le h.2.1 (i + 1)
  have := h.2.2.1
  omega
theorem tc_of {ps : List Phr} (h : GoodP ps) {i : Nat} {x : Phr} (hx : ps[i]? = some x) : x.isPut = false → manyP x = x.len ∧ 0 ≤ x.start ∧ 1 ≤ x.len ∧ x.start + x.len ≤ totP ps := fun hp => by
  have h1 := h.2.1 _ (List.mem_of_getElem? hx)
  have h2 := h.2.2.2 _ (List.mem_of_getElem? hx) hp
  cases x with
  | put c => cases hp
  | copy s l => exact ⟨rfl, h1.1, h1.2, h2⟩
theorem tp_of {x : Phr} : x.isPut = true → manyP x = 1 := fun hp => by
  cases x with
  | put c => rfl
  | copy s l => cases hp
def mkCop (ps : List Phr) : CopD := ⟨ps, totP ps⟩

def m_is_letter (a_sign : (List Nat)) : Bool :=
  ((decide ((a_sign.length : Int) = (1 : Int))) && ((leT ([97] : List Nat) a_sign) && (leT a_sign ([122] : List Nat))))
abbrev s_is_letter : Stmt := topS 17
abbrev N_is_letter : List Str := ["sign"]
theorem sc_is_letter : FnScope N_is_letter ["sign"] (defScope s_is_letter) := ⟨rfl, rfl, rfl, by decide +kernel, rfl, by decide +kernel, by decide +kernel⟩
abbrev Ok_is_letter (P : Program) (w : World) (K : PySem.W.Frag) (mg : Str → Option Value) (base : Heap) : Prop :=
  DefOk P w K mg base 1 "is_letter" 1 (spD (ι := (List Nat)) K (fun i => i.length ≤ 1000) (fun i => [.is i]) (fun i => .is (m_is_letter i)))
theorem ok_is_letter {P : Program} {w : World} {K : PySem.W.Frag} {mg : Str → Option Value} {base : Heap} {f : Addr} {fd : FuncData} (F : Fun K "is_letter" "is_letter" s_is_letter f fd) (hm : mg "is_letter" = some (.ref f)) (bd : Binds K fd ["sign"] []) (T : Bt mg)  : Ok_is_letter P w K mg base := by
  refine defOk (kk := 0) (R := Bool) F hm sc_is_letter bd _ _ (fun r => .is r) _ (fun _ => rfl) (fun i hp cdv A outer s H E hr => ?_)
  obtain ⟨a_sign, rfl⟩ : ∃ z, z = i := ⟨i, rfl⟩
  have hp : a_sign.length ≤ 1000 := hp
  show SX _ _ [.is a_sign] _ (m_is_letter a_sign)
  unfold m_is_letter
  exact sx_retI (mr := (fun r => r)) (rets_ret) rfl (px_and (px_eq (px_lenS T.len_ (px_var 0 rfl) (by first | omega | decide | exact Nat.le_trans (show _ ≤ 100000 by omega) (by decide))) px_int) (fun hb1_2 => (px_and1 (px_chain (leT ([97] : List Nat) a_sign) (leT a_sign ([122] : List Nat)) op_le_str op_le_str (isV_tx _) (isV_tx _) (isV_tx _) rs_le rs_le (px_str (by decide +kernel)) (px_var 0 rfl) (px_str (by decide +kernel))))))

def m__is_phrase (a_phrase : Phr) : Bool :=
  (if a_phrase.isPut = true then (m_is_letter a_phrase.let) else 
  ((decide (a_phrase.start ≥ (0 : Int))) && (decide (a_phrase.len ≥ (1 : Int)))))
abbrev s__is_phrase : Stmt := topS 24
abbrev N__is_phrase : List Str := ["phrase"]
theorem sc__is_phrase : FnScope N__is_phrase ["phrase"] (defScope s__is_phrase) := ⟨rfl, rfl, rfl, by decide +kernel, rfl, by decide +kernel, by decide +kernel⟩
abbrev Ok__is_phrase (P : Program) (w : World) (K : PySem.W.Frag) (mg : Str → Option Value) (base : Heap) : Prop :=
  DefOk P w K mg base 2 "_is_phrase" 1 (spD (ι := Phr) K (fun i => i.let.length ≤ 1000) (fun i => [.is i]) (fun i => .is (m__is_phrase i)))
theorem ok__is_phrase {P : Program} {w : World} {K : PySem.W.Frag} {mg : Str → Option Value} {base : Heap} {f : Addr} {fd : FuncData} (F : Fun K "_is_phrase" "_is_phrase" s__is_phrase f fd) (hm : mg "_is_phrase" = some (.ref f)) (bd : Binds K fd ["phrase"] [])  (D_is_letter : Ok_is_letter P w K mg base) : Ok__is_phrase P w K mg base := by
  refine defOk (kk := 1) (R := Bool) F hm sc__is_phrase bd _ _ (fun r => .is r) _ (fun _ => rfl) (fun i hp cdv A outer s H E hr => ?_)
  obtain ⟨a_phrase, rfl⟩ : ∃ z, z = i := ⟨i, rfl⟩
  have hp : a_phrase.let.length ≤ 1000 := hp
  show SX _ _ [.is a_phrase] _ (m__is_phrase a_phrase)
  unfold m__is_phrase
  refine sx_if (tx_isPut (px_var 0 rfl)) (fun hc1 => ?_) (fun hc1 => ?_)
  · try simp only [Bool.and_eq_true, Bool.or_eq_true, Bool.not_eq_true', Bool.and_eq_false_iff, Bool.or_eq_false_iff, Bool.not_eq_false', decide_eq_true_eq, decide_eq_false_iff_not, Classical.not_not] at hc1
    exact sx_retI (mr := (fun r => r)) (rets_ret) rfl (px_callS D_is_letter a_phrase.let (by show (a_phrase.let).length ≤ 1000; first | omega | (have tc_ := tc (by first | assumption | exact Bool.eq_false_iff.mpr (by assumption)); omega) | (have tp_ := tp (by assumption); omega) | (simp only [Bool.and_eq_true, Bool.or_eq_true, Bool.not_eq_true', Bool.and_eq_false_iff, Bool.or_eq_false_iff, Bool.not_eq_false', decide_eq_true_eq, decide_eq_false_iff_not, Classical.not_not] at *; omega) | (simp only [Bool.and_eq_true, Bool.or_eq_true, Bool.not_eq_true', Bool.and_eq_false_iff, Bool.or_eq_false_iff, Bool.not_eq_false', decide_eq_true_eq, decide_eq_false_iff_not, Classical.not_not, lt, List.length_cons, List.length_nil, List.length_append, List.length_map, List.length_reverse, List.length_set, rangeI_length] at *; omega)) (hr.mono (by decide)) (ax_cons (px_phLet (px_var 0 rfl) px_int (by first | assumption | (simp only [Bool.and_eq_true, Bool.or_eq_true, Bool.not_eq_true', Bool.and_eq_false_iff, Bool.or_eq_false_iff, Bool.not_eq_false', decide_eq_true_eq, decide_eq_false_iff_not, Classical.not_not] at *; first | assumption | simp_all))) ax_nil) (.is .nil))
  · try simp only [Bool.and_eq_true, Bool.or_eq_true, Bool.not_eq_true', Bool.and_eq_false_iff, Bool.or_eq_false_iff, Bool.not_eq_false', decide_eq_true_eq, decide_eq_false_iff_not, Classical.not_not] at hc1
    refine sx_nil ?_
    exact sx_retI (mr := (fun r => r)) (rets_ret) rfl (px_and (px_ge (px_phStart (px_var 0 rfl) px_int (by first | assumption | (simp only [Bool.and_eq_true, Bool.or_eq_true, Bool.not_eq_true', Bool.and_eq_false_iff, Bool.or_eq_false_iff, Bool.not_eq_false', decide_eq_true_eq, decide_eq_false_iff_not, Classical.not_not] at *; first | assumption | simp_all))) px_int) (fun hb2_3 => (px_and1 (px_ge (px_phLen (px_var 0 rfl) px_int (by first | assumption | (simp only [Bool.and_eq_true, Bool.or_eq_true, Bool.not_eq_true', Bool.and_eq_false_iff, Bool.or_eq_false_iff, Bool.not_eq_false', decide_eq_true_eq, decide_eq_false_iff_not, Classical.not_not] at *; first | assumption | simp_all))) px_int))))

theorem leT_one (a b : Nat) : leT [a] [b] = decide (a ≤ b) := by
  unfold leT
  by_cases h : a ≤ b
  · have : ¬ [b] < [a] := by
      rw [List.cons_lt_cons_iff]
      simp
      omega
    simp [this, h]
  · have : [b] < [a] := by
      rw [List.cons_lt_cons_iff]
      omega
    simp [this, h]
theorem is_phrase_ok {p : Phr} (h : okP p) : m__is_phrase p = true := by
  unfold m__is_phrase
  cases p with
  | put c =>
    obtain ⟨z, rfl, h1, h2⟩ := h
    show m_is_letter [z] = true
    unfold m_is_letter
    rw [leT_one, leT_one, decide_eq_true h1, decide_eq_true h2]
    simp
  | copy s l =>
    show (decide (s ≥ 0) && decide (l ≥ 1)) = true
    rw [decide_eq_true h.1, decide_eq_true h.2]
    rfl
theorem let_small {p : Phr} (h : okP p) : p.let.length ≤ 1000 := by
  cases p with
  | put c =>
    obtain ⟨z, rfl, _⟩ := h
    show 1 ≤ 1000
    decide
  | copy s l => show 0 ≤ 1000; decide

def m_reach (a_phrase : Phr) : Int :=
  (if a_phrase.isPut = true then (1 : Int) else a_phrase.len)
abbrev s_reach : Stmt := topS 10
abbrev N_reach : List Str := ["phrase"]
theorem sc_reach : FnScope N_reach ["phrase"] (defScope s_reach) := ⟨rfl, rfl, rfl, by decide +kernel, rfl, by decide +kernel, by decide +kernel⟩
abbrev Ok_reach (P : Program) (w : World) (K : PySem.W.Frag) (mg : Str → Option Value) (base : Heap) : Prop :=
  DefOk P w K mg base 1 "reach" 1 (spD (ι := Phr) K (fun i => True) (fun i => [.is i]) (fun i => .is (m_reach i)))
theorem ok_reach {P : Program} {w : World} {K : PySem.W.Frag} {mg : Str → Option Value} {base : Heap} {f : Addr} {fd : FuncData} (F : Fun K "reach" "reach" s_reach f fd) (hm : mg "reach" = some (.ref f)) (bd : Binds K fd ["phrase"] [])   : Ok_reach P w K mg base := by
  refine defOk (kk := 0) (R := Int) F hm sc_reach bd _ _ (fun r => .is r) _ (fun _ => rfl) (fun i hp cdv A outer s H E hr => ?_)
  obtain ⟨a_phrase, rfl⟩ : ∃ z, z = i := ⟨i, rfl⟩
  show SX _ _ [.is a_phrase] _ (m_reach a_phrase)
  unfold m_reach
  exact sx_retI (mr := (fun r => r)) (rets_ret) rfl (px_if (tx_isPut (px_var 0 rfl)) (fun hc1 => px_int) (fun hc1 => (px_phLen (px_var 0 rfl) px_int (by first | assumption | (simp only [Bool.and_eq_true, Bool.or_eq_true, Bool.not_eq_true', Bool.and_eq_false_iff, Bool.or_eq_false_iff, Bool.not_eq_false', decide_eq_true_eq, decide_eq_false_iff_not, Classical.not_not] at *; first | assumption | simp_all)))))

def m_covered (a_phrases : (List Phr)) : Int :=
  ((a_phrases.map (fun (c1_phrase : Phr) => (m_reach c1_phrase))).sum)
abbrev s_covered : Stmt := topS 11
abbrev N_covered : List Str := ["phrases", "phrase"]
theorem sc_covered : FnScope N_covered ["phrases"] (defScope s_covered) := ⟨rfl, rfl, rfl, by decide +kernel, rfl, by decide +kernel, by decide +kernel⟩
abbrev Ok_covered (P : Program) (w : World) (K : PySem.W.Frag) (mg : Str → Option Value) (base : Heap) : Prop :=
  DefOk P w K mg base 2 "covered" 1 (spD (ι := (List Phr)) K (fun i => i.length ≤ 1000) (fun i => [.is i]) (fun i => .is (m_covered i)))
theorem ok_covered {P : Program} {w : World} {K : PySem.W.Frag} {mg : Str → Option Value} {base : Heap} {f : Addr} {fd : FuncData} (F : Fun K "covered" "covered" s_covered f fd) (hm : mg "covered" = some (.ref f)) (bd : Binds K fd ["phrases"] []) (T : Bt mg) (D_reach : Ok_reach P w K mg base) : Ok_covered P w K mg base := by
  refine defOk (kk := 1) (R := Int) F hm sc_covered bd _ _ (fun r => .is r) _ (fun _ => rfl) (fun i hp cdv A outer s H E hr => ?_)
  obtain ⟨a_phrases, rfl⟩ : ∃ z, z = i := ⟨i, rfl⟩
  have hp : a_phrases.length ≤ 1000 := hp
  show SX _ _ [.is a_phrases, .no] _ (m_covered a_phrases)
  unfold m_covered
  exact sx_retI (mr := (fun r => r)) (rets_ret) rfl (px_sum (.own _) rfl T.sum_ (px_lc0  1 (fun (c1_phrase : Phr) => (m_reach c1_phrase)) (IX.b (it_list (px_var 0 rfl))) id (fun _ _ _ _ _ => pg_name (i := 1) sc_covered.nd rfl (by first | exact Or.inl rfl | exact Or.inr rfl)) (blkOk_by (own := [("phrase", 1)]) (N := N_covered) (sc := defScope s_covered) (by decide +kernel)) sc_covered.nd rfl (fun i1 c1_phrase hx1 _ _ _ _ _ => by
      exact (px_callS D_reach c1_phrase (by trivial) (hr.mono (by decide)) (ax_cons (px_var 1 rfl) ax_nil) (.is .nil)))))

theorem reach_is (p : Phr) : m_reach p = manyP p := by cases p <;> rfl
theorem covered_is : ∀ ps : List Phr, m_covered ps = totP ps
  | [] => rfl
  | p :: ps => by
    have := covered_is ps
    unfold m_covered at *
    rw [List.map_cons, List.sum_cons, this, reach_is]
    rfl

def m__goes_on (a_before : Phr) (a_phrase : Phr) : Bool :=
  ((!a_before.isPut) && ((!a_phrase.isPut) && (decide ((a_before.start + a_before.len) = a_phrase.start))))
abbrev s__goes_on : Stmt := topS 27
abbrev N__goes_on : List Str := ["before", "phrase"]
theorem sc__goes_on : FnScope N__goes_on ["before", "phrase"] (defScope s__goes_on) := ⟨rfl, rfl, rfl, by decide +kernel, rfl, by decide +kernel, by decide +kernel⟩
abbrev Ok__goes_on (P : Program) (w : World) (K : PySem.W.Frag) (mg : Str → Option Value) (base : Heap) : Prop :=
  DefOk P w K mg base 1 "_goes_on" 2 (spD (ι := Phr × Phr) K (fun i => True) (fun i => [.is i.1, .is i.2]) (fun i => .is (m__goes_on i.1 i.2)))
theorem ok__goes_on {P : Program} {w : World} {K : PySem.W.Frag} {mg : Str → Option Value} {base : Heap} {f : Addr} {fd : FuncData} (F : Fun K "_goes_on" "_goes_on" s__goes_on f fd) (hm : mg "_goes_on" = some (.ref f)) (bd : Binds K fd ["before", "phrase"] [])   : Ok__goes_on P w K mg base := by
  refine defOk (kk := 0) (R := Bool) F hm sc__goes_on bd _ _ (fun r => .is r) _ (fun _ => rfl) (fun i hp cdv A outer s H E hr => ?_)
  obtain ⟨a_before, a_phrase⟩ := i
  show SX _ _ [.is a_before, .is a_phrase] _ (m__goes_on a_before a_phrase)
  unfold m__goes_on
  exact sx_retI (mr := (fun r => r)) (rets_ret) rfl (px_and (px_isCopy (px_var 0 rfl)) (fun hb1_3 => (px_and (px_isCopy (px_var 1 rfl)) (fun hb1_2 => (px_and1 (px_eq (px_add (px_phStart (px_var 0 rfl) px_int (by first | assumption | (simp only [Bool.and_eq_true, Bool.or_eq_true, Bool.not_eq_true', Bool.and_eq_false_iff, Bool.or_eq_false_iff, Bool.not_eq_false', decide_eq_true_eq, decide_eq_false_iff_not, Classical.not_not] at *; first | assumption | simp_all))) (px_phLen (px_var 0 rfl) px_int (by first | assumption | (simp only [Bool.and_eq_true, Bool.or_eq_true, Bool.not_eq_true', Bool.and_eq_false_iff, Bool.or_eq_false_iff, Bool.not_eq_false', decide_eq_true_eq, decide_eq_false_iff_not, Classical.not_not] at *; first | assumption | simp_all)))) (px_phStart (px_var 1 rfl) px_int (by first | assumption | (simp only [Bool.and_eq_true, Bool.or_eq_true, Bool.not_eq_true', Bool.and_eq_false_iff, Bool.or_eq_false_iff, Bool.not_eq_false', decide_eq_true_eq, decide_eq_false_iff_not, Classical.not_not] at *; first | assumption | simp_all)))))))))

def m__check_form (a_phrases : (List Phr)) : Unit :=
  (if (!(!a_phrases.isEmpty)) = true then default else 
  forK (fun (s2 : Unit) (x2_phrase : (Int × Phr)) => (if (!(m__is_phrase x2_phrase.2)) = true then (.ret default) else 
      .go ())) (() : Unit) (enumI a_phrases) (fun (s3 : Unit) => 
    lt (m_covered a_phrases) fun (v5_length : Int) => 
    (if (decide (v5_length > (128 : Int))) = true then default else 
    forK (fun (s7 : Unit) (x7_phrase : (Int × Phr)) => (if ((!x7_phrase.2.isPut) && (decide ((x7_phrase.2.start + x7_phrase.2.len) > v5_length))) = true then (.ret default) else 
        .go ())) (() : Unit) (enumI a_phrases) (fun (s8 : Unit) => 
      ()) (fun r => r))) (fun r => r))
abbrev s__check_form : Stmt := topS 23
abbrev N__check_form : List Str := ["phrases", "length", "index", "phrase"]
theorem sc__check_form : FnScope N__check_form ["phrases"] (defScope s__check_form) := ⟨rfl, rfl, rfl, by decide +kernel, rfl, by decide +kernel, by decide +kernel⟩
abbrev Ok__check_form (P : Program) (w : World) (K : PySem.W.Frag) (mg : Str → Option Value) (base : Heap) : Prop :=
  DefOk P w K mg base 3 "_check_form" 1 (spD (ι := (List Phr)) K (fun i => GoodP i) (fun i => [.is i]) (fun i => .is (m__check_form i)))
theorem ok__check_form {P : Program} {w : World} {K : PySem.W.Frag} {mg : Str → Option Value} {base : Heap} {f : Addr} {fd : FuncData} (F : Fun K "_check_form" "_check_form" s__check_form f fd) (hm : mg "_check_form" = some (.ref f)) (bd : Binds K fd ["phrases"] []) (T : Bt mg) (C : Cs mg) (D__is_phrase : Ok__is_phrase P w K mg base) (D_covered : Ok_covered P w K mg base) : Ok__check_form P w K mg base := by
  refine defOkU (kk := 2) F hm sc__check_form bd _ _ _ (fun _ => rfl) (fun i hp cdv A outer s H E hr => ?_)
  obtain ⟨a_phrases, rfl⟩ : ∃ z, z = i := ⟨i, rfl⟩
  have hp : GoodP a_phrases := hp
  have hln := good_len hp
  show SX _ _ [.is a_phrases, .no, .no, .no] _ (m__check_form a_phrases)
  unfold m__check_form
  refine sx_if (tx_not (tx_list (.is _) (px_var 0 rfl))) (fun hc1 => ?_) (fun hc1 => ?_)
  · try simp only [Bool.and_eq_true, Bool.or_eq_true, Bool.not_eq_true', Bool.and_eq_false_iff, Bool.or_eq_false_iff, Bool.not_eq_false', decide_eq_true_eq, decide_eq_false_iff_not, Classical.not_not] at hc1
    exact sx_false (by exfalso; exact hp.1 (by simpa using hc1))
  · try simp only [Bool.and_eq_true, Bool.or_eq_true, Bool.not_eq_true', Bool.and_eq_false_iff, Bool.or_eq_false_iff, Bool.not_eq_false', decide_eq_true_eq, decide_eq_false_iff_not, Classical.not_not] at hc1
    refine sx_nil ?_
    refine sx_forGT (L0 := (LRet _ (fun r => .is r))) (fun Γ (x : (Int × Phr)) => (Γ.set 2 (.is x.1)).set 3 (.is x.2)) (fun (s2 : Unit) => [.is a_phrases, .no, .no, .no]) _ (() : Unit) (fun _ _ => True) (it_enum T.enumerate_ (px_var 0 rfl)) (gx_pair (gx_name 2 sc__check_form.nd) (gx_name 3 sc__check_form.nd)) (.same (.same (.same (.same .nil)))) (trivial) (fun i2 s2 x2_phrase hx2 hI2 => ?_) (fun i2 s2 x2_phrase s2_ hx2 hI2 hs2 => ?_) rts_U (fun s3 h3 => ?_)
    · have hm2 := enumI_get hx2
      have hx := hp.2.1 _ (List.mem_of_getElem? (enumI_get hx2).2)
      refine sx_if (tx_not (tx_val (px_callS D__is_phrase x2_phrase.2 (by show (x2_phrase.2).let.length ≤ 1000; exact let_small hx) (hr.mono (by decide)) (ax_cons (px_var 3 rfl) ax_nil) (.is .nil)))) (fun hc4 => ?_) (fun hc4 => ?_)
      · try simp only [Bool.and_eq_true, Bool.or_eq_true, Bool.not_eq_true', Bool.and_eq_false_iff, Bool.or_eq_false_iff, Bool.not_eq_false', decide_eq_true_eq, decide_eq_false_iff_not, Classical.not_not] at hc4
        exact sx_false (by rw [is_phrase_ok hx] at hc4; cases hc4)
      · try simp only [Bool.and_eq_true, Bool.or_eq_true, Bool.not_eq_true', Bool.and_eq_false_iff, Bool.or_eq_false_iff, Bool.not_eq_false', decide_eq_true_eq, decide_eq_false_iff_not, Classical.not_not] at hc4
        refine sx_nil ?_
        exact sx_nil (sx_endG (.same (.same (.drop (.drop .nil)))))
    · have hm2 := enumI_get hx2
      have hx := hp.2.1 _ (List.mem_of_getElem? (enumI_get hx2).2)
      exact trivial
    refine sx_set 1 (px_callS D_covered a_phrases (by show (a_phrases).length ≤ 1000; first | omega | (have tc_ := tc (by first | assumption | exact Bool.eq_false_iff.mpr (by assumption)); omega) | (have tp_ := tp (by assumption); omega) | (simp only [Bool.and_eq_true, Bool.or_eq_true, Bool.not_eq_true', Bool.and_eq_false_iff, Bool.or_eq_false_iff, Bool.not_eq_false', decide_eq_true_eq, decide_eq_false_iff_not, Classical.not_not] at *; omega) | (simp only [Bool.and_eq_true, Bool.or_eq_true, Bool.not_eq_true', Bool.and_eq_false_iff, Bool.or_eq_false_iff, Bool.not_eq_false', decide_eq_true_eq, decide_eq_false_iff_not, Classical.not_not, lt, List.length_cons, List.length_nil, List.length_append, List.length_map, List.length_reverse, List.length_set, rangeI_length] at *; omega)) (hr.mono (by decide)) (ax_cons (px_var 0 rfl) ax_nil) (.is .nil)) (fun v5_length h5 => ?_) sc__check_form.nd
    refine sx_if (tx_gt (px_var 1 rfl) (px_globE C.c_MOST)) (fun hc6 => ?_) (fun hc6 => ?_)
    · try simp only [Bool.and_eq_true, Bool.or_eq_true, Bool.not_eq_true', Bool.and_eq_false_iff, Bool.or_eq_false_iff, Bool.not_eq_false', decide_eq_true_eq, decide_eq_false_iff_not, Classical.not_not] at hc6
      exact sx_false (by rw [h5, covered_is] at hc6; have := hp.2.2.1; omega)
    · try simp only [Bool.and_eq_true, Bool.or_eq_true, Bool.not_eq_true', Bool.and_eq_false_iff, Bool.or_eq_false_iff, Bool.not_eq_false', decide_eq_true_eq, decide_eq_false_iff_not, Classical.not_not] at hc6
      refine sx_nil ?_
      refine sx_forGT (L0 := (LRet _ (fun r => .is r))) (fun Γ (x : (Int × Phr)) => (Γ.set 2 (.is x.1)).set 3 (.is x.2)) (fun (s7 : Unit) => [.is a_phrases, .is v5_length, .no, .no]) _ (() : Unit) (fun _ _ => True) (it_enum T.enumerate_ (px_var 0 rfl)) (gx_pair (gx_name 2 sc__check_form.nd) (gx_name 3 sc__check_form.nd)) (.same (.same (.same (.same .nil)))) (trivial) (fun i7 s7 x7_phrase hx7 hI7 => ?_) (fun i7 s7 x7_phrase s7_ hx7 hI7 hs7 => ?_) rts_U (fun s8 h8 => ?_)
      · have hm7 := enumI_get hx7
        have tc := tc_of hp (enumI_get hx7).2
        refine sx_if (tx_w (wx_and (tx_isCopy (px_var 3 rfl)) (fun hw9 => (wx_and1 (tx_gt (px_add (px_phStart (px_var 3 rfl) px_int (by first | assumption | (simp only [Bool.and_eq_true, Bool.or_eq_true, Bool.not_eq_true', Bool.and_eq_false_iff, Bool.or_eq_false_iff, Bool.not_eq_false', decide_eq_true_eq, decide_eq_false_iff_not, Classical.not_not] at *; first | assumption | simp_all))) (px_phLen (px_var 3 rfl) px_int (by first | assumption | (simp only [Bool.and_eq_true, Bool.or_eq_true, Bool.not_eq_true', Bool.and_eq_false_iff, Bool.or_eq_false_iff, Bool.not_eq_false', decide_eq_true_eq, decide_eq_false_iff_not, Classical.not_not] at *; first | assumption | simp_all)))) (px_var 1 rfl)))))) (fun hc10 => ?_) (fun hc10 => ?_)
        · try simp only [Bool.and_eq_true, Bool.or_eq_true, Bool.not_eq_true', Bool.and_eq_false_iff, Bool.or_eq_false_iff, Bool.not_eq_false', decide_eq_true_eq, decide_eq_false_iff_not, Classical.not_not] at hc10
          exact sx_false (by rw [h5, covered_is] at hc10; have := tc hc10.1; omega)
        · try simp only [Bool.and_eq_true, Bool.or_eq_true, Bool.not_eq_true', Bool.and_eq_false_iff, Bool.or_eq_false_iff, Bool.not_eq_false', decide_eq_true_eq, decide_eq_false_iff_not, Classical.not_not] at hc10
          refine sx_nil ?_
          exact sx_nil (sx_endG (.same (.same (.drop (.drop .nil)))))
      · have hm7 := enumI_get hx7
        have tc := tc_of hp (enumI_get hx7).2
        exact trivial
      exact sx_nil sx_endU

def m_Copies_sources (a_self : CopD) : (List (Option Int)) :=
  lt ([] : List (Option Int)) fun (v1_listed : (List (Option Int))) => 
  lt (List.foldl (fun (s2 : (List (Option Int))) (x2_phrase : Phr) => lt (if x2_phrase.isPut = true then lt (s2 ++ [(none : Option Int)]) fun (v6_listed : (List (Option Int))) => 
      v6_listed else lt (s2 ++ ((rangeI x2_phrase.start ((x2_phrase.start + x2_phrase.len) - x2_phrase.start).toNat).map some)) fun (v7_listed : (List (Option Int))) => 
      v7_listed : (List (Option Int))) fun (s5 : (List (Option Int))) => 
    s5) (v1_listed : (List (Option Int))) (Tup.mk a_self.ph).l) fun (s3 : (List (Option Int))) => 
  s3
abbrev s_Copies_sources : Stmt := inClass (topS 22) 10
abbrev N_Copies_sources : List Str := ["self", "listed", "phrase"]
theorem sc_Copies_sources : FnScope N_Copies_sources ["self"] (defScope s_Copies_sources) := ⟨rfl, rfl, rfl, by decide +kernel, rfl, by decide +kernel, by decide +kernel⟩
abbrev Ok_Copies_sources (P : Program) (w : World) (K : PySem.W.Frag) (mg : Str → Option Value) (base : Heap) : Prop :=
  MethOk P w K mg base 1 "Copies" "sources" 1 (spD (ι := CopD) K (fun i => GoodP i.ph) (fun i => [.is i]) (fun i => .own (m_Copies_sources i)))
theorem ok_Copies_sources {P : Program} {w : World} {K : PySem.W.Frag} {mg : Str → Option Value} {base : Heap} {f C : Addr} {fd : FuncData} (F : Fun K "sources" "Copies.sources" s_Copies_sources f fd) (hC : ClsAt K "Copies" C) (cc : Cls K C) (hme : Meth K C "sources" f) (bd : Binds K fd ["self"] []) (T : Bt mg)  {CC : Addr} (KC : CK K mg CC) : Ok_Copies_sources P w K mg base := by
  refine ⟨C, f, fd, ["self"], hC, cc, hme, ?_, bd, rfl⟩
  refine defFn (kk := 0) (R := (List (Option Int))) F sc_Copies_sources _ _ (fun r => .own r) _ (fun _ => rfl) (fun i hp cdv A outer s H E hr => ?_)
  obtain ⟨a_self, rfl⟩ : ∃ z, z = i := ⟨i, rfl⟩
  have hp : GoodP a_self.ph := hp
  show SX _ _ [.is a_self, .no, .no] _ (m_Copies_sources a_self)
  unfold m_Copies_sources
  refine sx_setO 1 (px_list ([] : List (Option Int)) ax_nil) (fun v1_listed h1 => ?_) sc_Copies_sources.nd
  refine sx_forF 2 (fun (s2 : (List (Option Int))) => [.is a_self, .own s2, .no]) _ (v1_listed : (List (Option Int))) (fun i (s : List (Option Int)) => (s.length : Int) = totP (a_self.ph.take i)) (it_tup (px_phrases KC.at' KC.cl KC.n1 (px_var 0 rfl))) (pg_name (i := 2) sc_Copies_sources.nd rfl (by first | exact Or.inl rfl | exact Or.inr rfl)) (.same (.same (.same .nil))) (by rw [h1]; rfl) (fun i2 s2 x2_phrase hx2 hI2 => ?_) (fun i2 s2 x2_phrase hx2 hI2 => ?_) (fun s3 h3 hI3 => ?_)
  · have hm2 := List.mem_of_getElem? hx2
    have tb := tot_bd hp hx2
    have tc := tc_of hp hx2
    have tp := tp_of (x := x2_phrase)
    have tI := hI2
    refine sx_ifj (fun (s5 : (List (Option Int))) => [.is a_self, .own s5, .is x2_phrase]) (tx_isPut (px_var 2 rfl)) (fun hc5 => ?_) (fun hc5 => ?_) (fun s5 h5 => ?_)
    · try simp only [Bool.and_eq_true, Bool.or_eq_true, Bool.not_eq_true', Bool.and_eq_false_iff, Bool.or_eq_false_iff, Bool.not_eq_false', decide_eq_true_eq, decide_eq_false_iff_not, Classical.not_not] at hc5
      refine sx_app 1 rfl (px_noneO px_none) (by exact Nat.lt_of_le_of_lt (show _ ≤ 100000 by first | omega | (have tc_ := tc (by first | assumption | exact Bool.eq_false_iff.mpr (by assumption)); omega) | (have tp_ := tp (by assumption); omega) | (simp only [Bool.and_eq_true, Bool.or_eq_true, Bool.not_eq_true', Bool.and_eq_false_iff, Bool.or_eq_false_iff, Bool.not_eq_false', decide_eq_true_eq, decide_eq_false_iff_not, Classical.not_not] at *; omega) | (simp only [Bool.and_eq_true, Bool.or_eq_true, Bool.not_eq_true', Bool.and_eq_false_iff, Bool.or_eq_false_iff, Bool.not_eq_false', decide_eq_true_eq, decide_eq_false_iff_not, Classical.not_not, lt, List.length_cons, List.length_nil, List.length_append, List.length_map, List.length_reverse, List.length_set, rangeI_length] at *; omega)) (by decide)) (fun v6_listed h6 => ?_)
      exact sx_nil (sx_endN (.same (.same (.same .nil))))
    · try simp only [Bool.and_eq_true, Bool.or_eq_true, Bool.not_eq_true', Bool.and_eq_false_iff, Bool.or_eq_false_iff, Bool.not_eq_false', decide_eq_true_eq, decide_eq_false_iff_not, Classical.not_not] at hc5
      refine sx_ext 1 rfl (.own _) (px_someL (px_listR2 rfl T.list_ T.range_ (px_phStart (px_var 2 rfl) px_int (by first | assumption | (simp only [Bool.and_eq_true, Bool.or_eq_true, Bool.not_eq_true', Bool.and_eq_false_iff, Bool.or_eq_false_iff, Bool.not_eq_false', decide_eq_true_eq, decide_eq_false_iff_not, Classical.not_not] at *; first | assumption | simp_all))) (px_add (px_phStart (px_var 2 rfl) px_int (by first | assumption | (simp only [Bool.and_eq_true, Bool.or_eq_true, Bool.not_eq_true', Bool.and_eq_false_iff, Bool.or_eq_false_iff, Bool.not_eq_false', decide_eq_true_eq, decide_eq_false_iff_not, Classical.not_not] at *; first | assumption | simp_all))) (px_phLen (px_var 2 rfl) px_int (by first | assumption | (simp only [Bool.and_eq_true, Bool.or_eq_true, Bool.not_eq_true', Bool.and_eq_false_iff, Bool.or_eq_false_iff, Bool.not_eq_false', decide_eq_true_eq, decide_eq_false_iff_not, Classical.not_not] at *; first | assumption | simp_all)))) (by first | first | (constructor <;> omega) | (have tc_ := tc (by first | assumption | exact Bool.eq_false_iff.mpr (by assumption)); constructor <;> omega) | (have tp_ := tp (by assumption); constructor <;> omega) | (simp only [Bool.and_eq_true, Bool.or_eq_true, Bool.not_eq_true', Bool.and_eq_false_iff, Bool.or_eq_false_iff, Bool.not_eq_false', decide_eq_true_eq, decide_eq_false_iff_not, Classical.not_not] at *; constructor <;> omega) | (simp only [Bool.and_eq_true, Bool.or_eq_true, Bool.not_eq_true', Bool.and_eq_false_iff, Bool.or_eq_false_iff, Bool.not_eq_false', decide_eq_true_eq, decide_eq_false_iff_not, Classical.not_not, lt, List.length_cons, List.length_nil, List.length_append, List.length_map, List.length_reverse, List.length_set, rangeI_length] at *; constructor <;> omega) | (refine ⟨?_, ?_, ?_, ?_, ?_⟩ <;> first | omega | (have tc_ := tc (by first | assumption | exact Bool.eq_false_iff.mpr (by assumption)); omega) | (have tp_ := tp (by assumption); omega) | (simp only [Bool.and_eq_true, Bool.or_eq_true, Bool.not_eq_true', Bool.and_eq_false_iff, Bool.or_eq_false_iff, Bool.not_eq_false', decide_eq_true_eq, decide_eq_false_iff_not, Classical.not_not] at *; omega) | (simp only [Bool.and_eq_true, Bool.or_eq_true, Bool.not_eq_true', Bool.and_eq_false_iff, Bool.or_eq_false_iff, Bool.not_eq_false', decide_eq_true_eq, decide_eq_false_iff_not, Classical.not_not, lt, List.length_cons, List.length_nil, List.length_append, List.length_map, List.length_reverse, List.length_set, rangeI_length] at *; omega))))) (by simp only [lt, List.length_cons, List.length_nil, List.length_append, List.length_map, List.length_reverse, List.length_set, rangeI_length]; rw [show sizeLine = 16777216 from sizeLine_eq]; first | omega | (have tc_ := tc (by first | assumption | exact Bool.eq_false_iff.mpr (by assumption)); omega) | (have tp_ := tp (by assumption); omega) | (simp only [Bool.and_eq_true, Bool.or_eq_true, Bool.not_eq_true', Bool.and_eq_false_iff, Bool.or_eq_false_iff, Bool.not_eq_false', decide_eq_true_eq, decide_eq_false_iff_not, Classical.not_not] at *; omega) | (simp only [Bool.and_eq_true, Bool.or_eq_true, Bool.not_eq_true', Bool.and_eq_false_iff, Bool.or_eq_false_iff, Bool.not_eq_false', decide_eq_true_eq, decide_eq_false_iff_not, Classical.not_not, lt, List.length_cons, List.length_nil, List.length_append, List.length_map, List.length_reverse, List.length_set, rangeI_length] at *; omega)) (fun v7_listed h7 => ?_)
      exact sx_nil (sx_endN (.same (.same (.same .nil))))
    exact sx_nil (sx_endN (.same (.same (.drop .nil))))
  · have hm2 := List.mem_of_getElem? hx2
    have tb := tot_bd hp hx2
    have tc := tc_of hp hx2
    have tp := tp_of (x := x2_phrase)
    have tI := hI2
    (dsimp only [lt]; (repeat' split) <;> (simp only [lt, List.length_cons, List.length_nil, List.length_append, List.length_map, List.length_reverse, List.length_set, rangeI_length] at *; first | omega | (have tc_ := tc (by first | assumption | exact Bool.eq_false_iff.mpr (by assumption)); omega) | (have tp_ := tp (by assumption); omega)))
  exact sx_retV (mr := (fun r => r)) 1 rfl (rets_ret) rfl

abbrev s_Copies___init__ : Stmt := inClass (topS 22) 0
abbrev N_Copies___init__ : List Str := ["self", "phrases"]
theorem sc_Copies___init__ : FnScope N_Copies___init__ ["self", "phrases"] (defScope s_Copies___init__) := ⟨rfl, rfl, rfl, by decide +kernel, rfl, by decide +kernel, by decide +kernel⟩
abbrev Ok_Copies___init__ (P : Program) (w : World) (K : PySem.W.Frag) (mg : Str → Option Value) (base : Heap) : Prop :=
  MakeOk P w K mg base 4 "Copies" 2 (spI (ι := List Phr) (α := CopD) K "Copies" (fun i => GoodP i) (fun i => [.is i]) (fun i => mkCop i))
theorem putF_two {v v' : V} : putF ("_length" : Str) v' [(("phrases" : Str), v)] = [(("phrases" : Str), v), (("_length" : Str), v')] := by
  unfold putF
  rw [if_neg (by decide)]
  rfl
theorem ok_Copies___init__ {P : Program} {w : World} {K : PySem.W.Frag} {mg : Str → Option Value} {base : Heap} {f CC : Addr} {fd : FuncData} (F : Fun K "__init__" "Copies.__init__" s_Copies___init__ f fd) (KC : CK K mg CC) (M : Mk K CC f) (bd : Binds K fd ["self", "phrases"] []) (T : Bt mg) (D__check_form : Ok__check_form P w K mg base) (D_covered : Ok_covered P w K mg base) : Ok_Copies___init__ P w K mg base := by
  refine ⟨CC, f, fd, ["self", "phrases"], KC.at', KC.mg', M, ?_, bd, rfl⟩
  refine F.ok (k := 3) sc_Copies___init__ (fun vs H Q E ⟨_, _, _, _, _, i, ws, e, _, _, _, _, _, _, _, l, _⟩ => by rw [e, List.length_cons, l]; rfl) fun cdv A outer s H vs Q E hr h => ?_
  refine ⟨wS _ (defBody s_Copies___init__), pssW, ?_⟩
  obtain ⟨x, dx, C, H0, Hd0, i, ws, rfl, eH, n1, n2, n3, hC, h1, hp, hl, ha, q⟩ := h
  have := clsAt_eq KC.at' hC
  subst this
  obtain ⟨v0, rfl⟩ : ∃ v0, ws = [v0] := match ws, hl with | [v0], _ => ⟨v0, rfl⟩
  have e0 : Ex H0 H := by
    rw [eH]
    exact (Ex.new n2).trans (Ex.new (by rw [upd_ne (fun z => n3 z.symm)]; exact n1))
  have hx : H x = some (.ins CC dx []) := by rw [eH]; exact upd_same
  have hd : Hd0 x = none := h1.back n1
  have hh : HasE K (Hd0, H) H [] (L2.start N_Copies___init__ [.ref x, v0]) ([.no, .is i] ++ List.replicate 0 .no) := start_has (h1.trans e0) rfl rfl (fun p hp => by
    rcases List.mem_cons.mp hp with z | z
    · rw [z]; exact ⟨trivial, fun q => apart_no q⟩
    · obtain ⟨k1, k2⟩ := ha p z
      rw [List.mem_singleton.mp z] at k1 ⊢
      obtain ⟨u, m1, m2⟩ := k1
      exact ⟨⟨u, m1, m2⟩, fun q => apart_is q⟩) (ps := ["self", "phrases"])
  have hG : ∀ s ∈ ([.no, .is i] ++ List.replicate 0 .no : List Sl), plainSl s := fun s hs => by
    rcases List.mem_cons.mp hs with z | z
    · rw [z]; trivial
    · rcases List.mem_cons.mp z with z | z
      · rw [z]; trivial
      · cases z
  refine r0w ?_
  refine init_expr (px_call D__check_form i hp (hr.mono (by decide)) (ax_cons (px_var 1 rfl) ax_nil) (.is .nil)) hh (fun H1 e1 hh1 => ?_)
  refine init_store (H0 := H0) (x := x) (dx := dx) (C := CC) (fs := []) (y := Tup.mk i) (px_tupleof (.is _) T.tuple_ (px_var 1 rfl)) hG rfl (e1 _ _ hx) (by rw [hx]; exact fun z => nomatch z) hd n1 e0 KC.cl KC.n1 (by decide) hh1 (fun v H2 Hd2 a1 a2 a3 a4 a5 hh2 => ?_)
  have hd2 : Hd2 x = none := a3 x hd (by rw [hx]; exact fun z => nomatch z)
  refine init_store (H0 := H0) (x := x) (dx := dx) (C := CC) (fs := [("phrases", v)]) (y := m_covered i) (px_callS D_covered i (by have := good_len hp; omega) (hr.mono (by decide)) (ax_cons (px_var 1 rfl) ax_nil) (.is .nil)) hG rfl a4 (by rw [a4]; exact fun z => nomatch z) hd2 n1 a2 KC.cl KC.n2 (by show 1 < 1000; decide) hh2 (fun v' H3 Hd3 b1 b2 b3 b4 b5 hh3 => ?_)
  have hd3 : Hd3 x = none := b3 x hd2 (by rw [a4]; exact fun z => nomatch z)
  have ev : v' = .int (m_covered i) := b5
  rw [putF_two, ev, covered_is] at b4
  refine goSs pss_nil ?_
  obtain ⟨_, Hd4, z1, z2, _⟩ := hh3
  have e3 : Ex Hd3 H3 := z1.trans z2
  have e4 : Ex Hd3 (upd Hd3 x (.ins CC dx [("phrases", v), ("_length", .int (totP i))])) := Ex.new hd3
  refine q H3 b2 ⟨upd Hd3 x (.ins CC dx [("phrases", v), ("_length", .int (totP i))]), (a1.trans b1).trans e4, fun a u hu => ?_, fun a c1 c2 => ?_, ⟨x, CC, dx, v, rfl, hC, upd_same, Enc.mono (b1.trans e4) a5⟩⟩
  · by_cases z : a = x
    · subst z
      rw [upd_same] at hu
      rw [← hu]
      exact b4
    · rw [upd_ne z] at hu
      exact e3 a u hu
  · have ne : a ≠ x := fun z => by
      subst z
      exact c2 n1
    rw [upd_ne ne]
    have g : ∀ {G : Hp}, Ex H0 G → G a ≠ none := fun e z => by
      cases q : H0 a with
      | none => exact c2 q
      | some u => rw [e a u q] at z; cases z
    exact b3 a (a3 a c1 (g e0)) (g a2)


theorem head_pre {m : Int} (h1 : 1 ≤ m) (h2 : m ≤ 128) : DrawsPre ([10, m, 3, 2] : List Int) := by
  refine ⟨show 4 ≤ 10000 by decide, fun s hs => ?_⟩
  simp only [List.mem_cons, List.not_mem_nil, or_false] at hs
  omega
theorem parts_b {m : Int} (h1 : 1 ≤ m) (h2 : m ≤ 128) : ∀ s ∈ ([5, 26, m, m] : List Int), 0 < s ∧ s < 2 ^ 200 := by
  intro s hs
  simp only [List.mem_cons, List.not_mem_nil, or_false] at hs
  omega
theorem many_bd (a : Int) {r q : Int} (hq : 1 ≤ q) (hr : 1 ≤ r) : 1 ≤ 1 + a % (if q < r then q else r) ∧ 1 + a % (if q < r then q else r) ≤ q := by
  by_cases h : q < r
  · rw [if_pos h]
    have := emod_bd a (show 0 < q by omega)
    omega
  · rw [if_neg h]
    have := emod_bd a (show 0 < r by omega)
    omega
/-- the press that is being drawn: phrases, covered positions, at the i-th turn -/
def PI (size : Int) (i : Nat) (s : List Phr × Int) : Prop := (∀ p ∈ s.1, okP p) ∧ totP s.1 = s.2 ∧ s.2 ≤ size ∧ ((i : Int) ≤ s.2 ∨ s.2 = size) ∧ ∀ p ∈ s.1, p.isPut = false → p.start + p.len ≤ size
theorem pi_app {size : Int} {i : Nat} {ps : List Phr} {pl q : Int} {p : Phr} (h : PI size i (ps, pl)) (hp : okP p) (hm : pl + manyP p ≤ size) (hs : p.isPut = false → p.start + p.len ≤ size) (hq : q = pl + manyP p) : PI size (i + 1) (ps ++ [p], q) := by
  obtain ⟨h1, h2, h3, h4, h5⟩ := h
  have hm1 := many_pos hp
  have h2 : totP ps = pl := h2
  have h3 : pl ≤ size := h3
  have h4 : (i : Int) ≤ pl ∨ pl = size := h4
  refine ⟨fun x hx => ?_, ?_, ?_, ?_, fun x hx => ?_⟩
  · rcases List.mem_append.mp hx with z | z
    · exact h1 x z
    · rw [List.mem_singleton.mp z]; exact hp
  · show totP (ps ++ [p]) = q
    rw [tot_app]
    show totP ps + (manyP p + 0) = q
    omega
  · show q ≤ size
    omega
  · show ((i + 1 : Nat) : Int) ≤ q ∨ q = size
    omega
  · rcases List.mem_append.mp hx with z | z
    · exact h5 x z
    · rw [List.mem_singleton.mp z]; exact hs
theorem pi_stay {size : Int} {i : Nat} {s : List Phr × Int} (h : PI size i s) (hx : decide (s.2 < size) = false) : PI size (i + 1) s := by
  obtain ⟨h1, h2, h3, h4, h5⟩ := h
  have hx := of_decide_eq_false hx
  exact ⟨h1, h2, h3, .inr (by omega), h5⟩
theorem pi_good {size : Int} {n : Nat} {s : List Phr × Int} (h : PI size n s) (hn : n = size.toNat) (h1 : 1 ≤ size) (h2 : size ≤ 128) : GoodP s.1 := by
  obtain ⟨a1, a2, a3, a4, a5⟩ := h
  have : totP s.1 = size := by omega
  refine ⟨fun z => ?_, a1, by omega, fun p hp q => by rw [this]; exact a5 p hp q⟩
  rw [z] at this
  have : (0 : Int) = size := this
  omega
theorem pi_len {size : Int} {i : Nat} {s : List Phr × Int} (h : PI size i s) : (s.1.length : Int) ≤ s.2 ∧ 0 ≤ s.2 ∧ s.2 ≤ size := by
  have h1 := len_le_tot h.1
  have h2 := h.2.1
  have h3 := h.2.2.1
  omega
def m__law_press (a_cell : Int) (a_most : Int) : (List Phr) :=
  lt ([(10 : Int), a_most, (3 : Int), (2 : Int)] : List Int) fun (v1_head : (List Int)) => 
  lt (m__law_draws a_cell v1_head) fun (v2_told : (List Int)) => 
  lt (m__law_size (ix v2_told (0 : Int)) (ix v2_told (1 : Int)) a_most) fun (v3_size : Int) => 
  lt (ix ([(3 : Int), (8 : Int), a_most] : List Int) (ix v2_told (2 : Int))) fun (v4_reach_v : Int) => 
  lt (ix ([(26 : Int), (2 : Int)] : List Int) (ix v2_told (3 : Int))) fun (v5_many_letters : Int) => 
  lt (sl (m__law_draws a_cell (v1_head ++ (repL ([(5 : Int), (26 : Int), a_most, a_most] : List Int) v3_size))) (some (4 : Int)) none) fun (v6_parts : (List Int)) => 
  lt ([] : List Phr) fun (v7_phrases : (List Phr)) => 
  lt (0 : Int) fun (v8_place : Int) => 
  lt (List.foldl (fun (s9 : (List Phr) × Int) (x9_k : Int) => lt (if ((decide (s9.2 < v3_size)) && (decide ((ix v6_parts ((4 : Int) * x9_k)) < (2 : Int)))) = true then lt (s9.1 ++ [(Phr.put (m__law_letter ((ix v6_parts (((4 : Int) * x9_k) + (1 : Int))) % v5_many_letters)))]) fun (v14_phrases : (List Phr)) => 
      lt (s9.2 + (1 : Int)) fun (v15_place : Int) => 
      (v14_phrases, v15_place) else lt (if (decide (s9.2 < v3_size)) = true then lt ((1 : Int) + ((ix v6_parts (((4 : Int) * x9_k) + (2 : Int))) % (if (v3_size - s9.2) < v4_reach_v then (v3_size - s9.2) else v4_reach_v : Int))) fun (v18_many : Int) => 
        lt ((ix v6_parts (((4 : Int) * x9_k) + (3 : Int))) % ((v3_size - v18_many) + (1 : Int))) fun (v19_start : Int) => 
        lt (if ((decide ((ix v6_parts ((4 : Int) * x9_k)) = (4 : Int))) && (decide (s9.2 > (0 : Int)))) = true then lt ((ix v6_parts (((4 : Int) * x9_k) + (3 : Int))) % s9.2) fun (v23_start : Int) => 
          v23_start else v19_start : Int) fun (s22 : Int) => 
        lt (s9.1 ++ [(Phr.copy s22 v18_many)]) fun (v24_phrases : (List Phr)) => 
        lt (s9.2 + v18_many) fun (v25_place : Int) => 
        (v24_phrases, v25_place) else (s9.1, s9.2) : (List Phr) × Int) fun (s17 : (List Phr) × Int) => 
      (s17.1, s17.2) : (List Phr) × Int) fun (s13 : (List Phr) × Int) => 
    (s13.1, s13.2)) ((v7_phrases, v8_place) : (List Phr) × Int) (rangeI 0 (v3_size).toNat)) fun (s10 : (List Phr) × Int) => 
  s10.1
abbrev s__law_press : Stmt := topS 37
abbrev N__law_press : List Str := ["cell", "most", "head", "told", "size", "reach_v", "many_letters", "parts", "phrases", "place", "k", "many", "start"]
theorem sc__law_press : FnScope N__law_press ["cell", "most"] (defScope s__law_press) := ⟨rfl, rfl, rfl, by decide +kernel, rfl, by decide +kernel, by decide +kernel⟩
abbrev Ok__law_press (P : Program) (w : World) (K : PySem.W.Frag) (mg : Str → Option Value) (base : Heap) : Prop :=
  DefOk P w K mg base 2 "_law_press" 2 (spD (ι := Int × Int) K (fun i => 1 ≤ i.2 ∧ i.2 ≤ 128) (fun i => [.is i.1, .is i.2]) (fun i => .own (m__law_press i.1 i.2)))
theorem ok__law_press {P : Program} {w : World} {K : PySem.W.Frag} {mg : Str → Option Value} {base : Heap} {f : Addr} {fd : FuncData} (F : Fun K "_law_press" "_law_press" s__law_press f fd) (hm : mg "_law_press" = some (.ref f)) (bd : Binds K fd ["cell", "most"] []) (T : Bt mg) (D__law_draws : Ok__law_draws P w K mg base) (D__law_size : Ok__law_size P w K mg base) (D__law_letter : Ok__law_letter P w K mg base) : Ok__law_press P w K mg base := by
  refine defOk (kk := 1) (R := (List Phr)) F hm sc__law_press bd _ _ (fun r => .own r) _ (fun _ => rfl) (fun i hp cdv A outer s H E hr => ?_)
  obtain ⟨a_cell, a_most⟩ := i
  have hp : 1 ≤ a_most ∧ a_most ≤ 128 := hp
  have hp1 := hp.1
  have hp2 := hp.2
  show SX _ _ [.is a_cell, .is a_most, .no, .no, .no, .no, .no, .no, .no, .no, .no, .no, .no] _ (m__law_press a_cell a_most)
  unfold m__law_press
  refine sx_set 2 (px_share (px_list ([(10 : Int), a_most, (3 : Int), (2 : Int)] : List Int) (ax_cons px_int (ax_cons (px_var 1 rfl) (ax_cons px_int (ax_cons px_int ax_nil)))))) (fun v1_head h1 => ?_) sc__law_press.nd
  have fhl : v1_head.length = 4 := by rw [h1]; rfl
  refine sx_set 3 (px_share (px_call D__law_draws (a_cell, v1_head) (by show DrawsPre (v1_head); rw [h1]; exact head_pre hp1 hp2) (hr.mono (by decide)) (ax_cons (px_var 0 rfl) (ax_cons (px_var 2 rfl) ax_nil)) (.is (.arg (.is _) .nil)))) (fun v2_told h2 => ?_) sc__law_press.nd
  have hL := (draws_all h2 (by rw [h1]; exact head_pre hp1 hp2)).1
  have hD := (draws_all h2 (by rw [h1]; exact head_pre hp1 hp2)).2
  rw [h1] at hL hD
  simp only [List.length_cons, List.length_nil] at hL
  have f0 := hD (0 : Int) 10 rfl (by decide)
  have f2 := hD (2 : Int) 3 rfl (by decide)
  have f3 := hD (3 : Int) 2 rfl (by decide)
  clear hD
  refine sx_set 4 (px_callS D__law_size ((ix v2_told (0 : Int)), (ix v2_told (1 : Int)), a_most) (by show 1 ≤ (a_most); first | omega | (have tc_ := tc (by first | assumption | exact Bool.eq_false_iff.mpr (by assumption)); omega) | (have tp_ := tp (by assumption); omega) | (simp only [Bool.and_eq_true, Bool.or_eq_true, Bool.not_eq_true', Bool.and_eq_false_iff, Bool.or_eq_false_iff, Bool.not_eq_false', decide_eq_true_eq, decide_eq_false_iff_not, Classical.not_not] at *; omega) | (simp only [Bool.and_eq_true, Bool.or_eq_true, Bool.not_eq_true', Bool.and_eq_false_iff, Bool.or_eq_false_iff, Bool.not_eq_false', decide_eq_true_eq, decide_eq_false_iff_not, Classical.not_not, lt, List.length_cons, List.length_nil, List.length_append, List.length_map, List.length_reverse, List.length_set, rangeI_length] at *; omega)) (hr.mono (by decide)) (ax_cons (px_ixL (.is _) (px_var 3 rfl) px_int (by first | (constructor <;> omega) | (have tc_ := tc (by first | assumption | exact Bool.eq_false_iff.mpr (by assumption)); constructor <;> omega) | (have tp_ := tp (by assumption); constructor <;> omega) | (simp only [Bool.and_eq_true, Bool.or_eq_true, Bool.not_eq_true', Bool.and_eq_false_iff, Bool.or_eq_false_iff, Bool.not_eq_false', decide_eq_true_eq, decide_eq_false_iff_not, Classical.not_not] at *; constructor <;> omega) | (simp only [Bool.and_eq_true, Bool.or_eq_true, Bool.not_eq_true', Bool.and_eq_false_iff, Bool.or_eq_false_iff, Bool.not_eq_false', decide_eq_true_eq, decide_eq_false_iff_not, Classical.not_not, lt, List.length_cons, List.length_nil, List.length_append, List.length_map, List.length_reverse, List.length_set, rangeI_length] at *; constructor <;> omega))) (ax_cons (px_ixL (.is _) (px_var 3 rfl) px_int (by first | (constructor <;> omega) | (have tc_ := tc (by first | assumption | exact Bool.eq_false_iff.mpr (by assumption)); constructor <;> omega) | (have tp_ := tp (by assumption); constructor <;> omega) | (simp only [Bool.and_eq_true, Bool.or_eq_true, Bool.not_eq_true', Bool.and_eq_false_iff, Bool.or_eq_false_iff, Bool.not_eq_false', decide_eq_true_eq, decide_eq_false_iff_not, Classical.not_not] at *; constructor <;> omega) | (simp only [Bool.and_eq_true, Bool.or_eq_true, Bool.not_eq_true', Bool.and_eq_false_iff, Bool.or_eq_false_iff, Bool.not_eq_false', decide_eq_true_eq, decide_eq_false_iff_not, Classical.not_not, lt, List.length_cons, List.length_nil, List.length_append, List.length_map, List.length_reverse, List.length_set, rangeI_length] at *; constructor <;> omega))) (ax_cons (px_var 1 rfl) ax_nil))) (.is (.is (.is .nil)))) (fun v3_size h3 => ?_) sc__law_press.nd
  have fs := size_post h3 hp1
  clear h3
  refine sx_set 5 (px_ixL (.own _) (px_list ([(3 : Int), (8 : Int), a_most] : List Int) (ax_cons px_int (ax_cons px_int (ax_cons (px_var 1 rfl) ax_nil)))) (px_ixL (.is _) (px_var 3 rfl) px_int (by first | (constructor <;> omega) | (have tc_ := tc (by first | assumption | exact Bool.eq_false_iff.mpr (by assumption)); constructor <;> omega) | (have tp_ := tp (by assumption); constructor <;> omega) | (simp only [Bool.and_eq_true, Bool.or_eq_true, Bool.not_eq_true', Bool.and_eq_false_iff, Bool.or_eq_false_iff, Bool.not_eq_false', decide_eq_true_eq, decide_eq_false_iff_not, Classical.not_not] at *; constructor <;> omega) | (simp only [Bool.and_eq_true, Bool.or_eq_true, Bool.not_eq_true', Bool.and_eq_false_iff, Bool.or_eq_false_iff, Bool.not_eq_false', decide_eq_true_eq, decide_eq_false_iff_not, Classical.not_not, lt, List.length_cons, List.length_nil, List.length_append, List.length_map, List.length_reverse, List.length_set, rangeI_length] at *; constructor <;> omega))) (by first | (constructor <;> omega) | (have tc_ := tc (by first | assumption | exact Bool.eq_false_iff.mpr (by assumption)); constructor <;> omega) | (have tp_ := tp (by assumption); constructor <;> omega) | (simp only [Bool.and_eq_true, Bool.or_eq_true, Bool.not_eq_true', Bool.and_eq_false_iff, Bool.or_eq_false_iff, Bool.not_eq_false', decide_eq_true_eq, decide_eq_false_iff_not, Classical.not_not] at *; constructor <;> omega) | (simp only [Bool.and_eq_true, Bool.or_eq_true, Bool.not_eq_true', Bool.and_eq_false_iff, Bool.or_eq_false_iff, Bool.not_eq_false', decide_eq_true_eq, decide_eq_false_iff_not, Classical.not_not, lt, List.length_cons, List.length_nil, List.length_append, List.length_map, List.length_reverse, List.length_set, rangeI_length] at *; constructor <;> omega))) (fun v4_reach_v h4 => ?_) sc__law_press.nd
  have fr : 1 ≤ v4_reach_v ∧ v4_reach_v ≤ 128 := by rw [h4]; exact ix_all (fun x => 1 ≤ x ∧ x ≤ 128) (by intro x hx; simp only [List.mem_cons, List.not_mem_nil, or_false] at hx; omega) (by simp only [List.length_cons, List.length_nil]; omega)
  clear h4
  refine sx_set 6 (px_ixL (.own _) (px_list ([(26 : Int), (2 : Int)] : List Int) (ax_cons px_int (ax_cons px_int ax_nil))) (px_ixL (.is _) (px_var 3 rfl) px_int (by first | (constructor <;> omega) | (have tc_ := tc (by first | assumption | exact Bool.eq_false_iff.mpr (by assumption)); constructor <;> omega) | (have tp_ := tp (by assumption); constructor <;> omega) | (simp only [Bool.and_eq_true, Bool.or_eq_true, Bool.not_eq_true', Bool.and_eq_false_iff, Bool.or_eq_false_iff, Bool.not_eq_false', decide_eq_true_eq, decide_eq_false_iff_not, Classical.not_not] at *; constructor <;> omega) | (simp only [Bool.and_eq_true, Bool.or_eq_true, Bool.not_eq_true', Bool.and_eq_false_iff, Bool.or_eq_false_iff, Bool.not_eq_false', decide_eq_true_eq, decide_eq_false_iff_not, Classical.not_not, lt, List.length_cons, List.length_nil, List.length_append, List.length_map, List.length_reverse, List.length_set, rangeI_length] at *; constructor <;> omega))) (by first | (constructor <;> omega) | (have tc_ := tc (by first | assumption | exact Bool.eq_false_iff.mpr (by assumption)); constructor <;> omega) | (have tp_ := tp (by assumption); constructor <;> omega) | (simp only [Bool.and_eq_true, Bool.or_eq_true, Bool.not_eq_true', Bool.and_eq_false_iff, Bool.or_eq_false_iff, Bool.not_eq_false', decide_eq_true_eq, decide_eq_false_iff_not, Classical.not_not] at *; constructor <;> omega) | (simp only [Bool.and_eq_true, Bool.or_eq_true, Bool.not_eq_true', Bool.and_eq_false_iff, Bool.or_eq_false_iff, Bool.not_eq_false', decide_eq_true_eq, decide_eq_false_iff_not, Classical.not_not, lt, List.length_cons, List.length_nil, List.length_append, List.length_map, List.length_reverse, List.length_set, rangeI_length] at *; constructor <;> omega))) (fun v5_many_letters h5 => ?_) sc__law_press.nd
  have fm : 1 ≤ v5_many_letters ∧ v5_many_letters ≤ 26 := by rw [h5]; exact ix_all (fun x => 1 ≤ x ∧ x ≤ 26) (by decide) (by simp only [List.length_cons, List.length_nil]; omega)
  clear h5
  refine sx_set 7 (px_share (px_sl (.own _) (px_call D__law_draws (a_cell, (v1_head ++ (repL ([(5 : Int), (26 : Int), a_most, a_most] : List Int) v3_size))) (by show DrawsPre ((v1_head ++ (repL ([(5 : Int), (26 : Int), a_most, a_most] : List Int) v3_size))); rw [h1]; exact draws_pre_rep (head_pre hp1 hp2) (parts_b hp1 hp2) (by simp only [List.length_cons, List.length_nil]; omega)) (hr.mono (by decide)) (ax_cons (px_var 0 rfl) (ax_cons (px_cat (.is _) (.own _) (px_var 2 rfl) (px_rep (.own _) (px_list ([(5 : Int), (26 : Int), a_most, a_most] : List Int) (ax_cons px_int (ax_cons px_int (ax_cons (px_var 1 rfl) (ax_cons (px_var 1 rfl) ax_nil))))) (px_var 4 rfl) (by simp only [List.length_cons, List.length_nil]; rw [show sizeLine = 16777216 from sizeLine_eq]; refine ⟨?_, ?_, ?_⟩ <;> omega)) (by first | (exact Nat.le_trans (show _ ≤ 100000 by (first | omega | (simp only [lt, List.length_cons, List.length_nil, List.length_append, List.length_map, List.length_reverse, List.length_set, rangeI_length]; omega))) (by decide)) | (simp only [repL_length, List.length_append, List.length_cons, List.length_nil]; rw [show sizeLine = 16777216 from sizeLine_eq]; omega))) ax_nil)) (.is (.arg (.own _) .nil))) (ox_some px_int) ox_none)) (fun v6_parts h6 => ?_) sc__law_press.nd
  have fv := (draws_rest h6 (by rw [h1]; rfl) (by rw [h1]; exact head_pre hp1 hp2) (parts_b hp1 hp2) (by rw [h1]; simp only [List.length_cons, List.length_nil]; omega)).1
  simp only [List.length_cons, List.length_nil] at fv
  clear h6
  refine sx_setO 8 (px_list ([] : List Phr) ax_nil) (fun v7_phrases h7 => ?_) sc__law_press.nd
  refine sx_set 9 px_int (fun v8_place h8 => ?_) sc__law_press.nd
  refine sx_forF 10 (fun (s9 : (List Phr) × Int) => [.is a_cell, .is a_most, .is v1_head, .is v2_told, .is v3_size, .is v4_reach_v, .is v5_many_letters, .is v6_parts, .own s9.1, .is s9.2, .no, .no, .no]) _ ((v7_phrases, v8_place) : (List Phr) × Int) (fun i (s : List Phr × Int) => PI v3_size i s) (it_range1 T.range_ (px_var 4 rfl) (by first | (constructor <;> omega) | (have tc_ := tc (by first | assumption | exact Bool.eq_false_iff.mpr (by assumption)); constructor <;> omega) | (have tp_ := tp (by assumption); constructor <;> omega) | (simp only [Bool.and_eq_true, Bool.or_eq_true, Bool.not_eq_true', Bool.and_eq_false_iff, Bool.or_eq_false_iff, Bool.not_eq_false', decide_eq_true_eq, decide_eq_false_iff_not, Classical.not_not] at *; constructor <;> omega) | (simp only [Bool.and_eq_true, Bool.or_eq_true, Bool.not_eq_true', Bool.and_eq_false_iff, Bool.or_eq_false_iff, Bool.not_eq_false', decide_eq_true_eq, decide_eq_false_iff_not, Classical.not_not, lt, List.length_cons, List.length_nil, List.length_append, List.length_map, List.length_reverse, List.length_set, rangeI_length] at *; constructor <;> omega))) (pg_name (i := 10) sc__law_press.nd rfl (by first | exact Or.inl rfl | exact Or.inr rfl)) (.same (.same (.same (.same (.same (.same (.same (.same (.same (.same (.same (.same (.same .nil))))))))))))) (by rw [h7, h8]; exact ⟨by simp, rfl, by show (0 : Int) ≤ v3_size; omega, .inl (Int.le_refl _), by simp⟩) (fun i9 s9 x9_k hx9 hI9 => ?_) (fun i9 s9 x9_k hx9 hI9 => ?_) (fun s10 h10 hI10 => ?_)
  · have hr9 := rangeI_get hx9
    have hI := pi_len hI9
    refine sx_ifj (fun (s13 : (List Phr) × Int) => [.is a_cell, .is a_most, .is v1_head, .is v2_told, .is v3_size, .is v4_reach_v, .is v5_many_letters, .is v6_parts, .own s13.1, .is s13.2, .is x9_k, .no, .no]) (tx_w (wx_and (tx_lt (px_var 9 rfl) (px_var 4 rfl)) (fun hw11 => (wx_and1 (tx_lt (px_ixL (.is _) (px_var 7 rfl) (px_mul px_int (px_var 10 rfl) (by first | exact .inl ⟨by omega, by omega⟩ | exact .inr ⟨by omega, by omega⟩)) (by first | (constructor <;> omega) | (have tc_ := tc (by first | assumption | exact Bool.eq_false_iff.mpr (by assumption)); constructor <;> omega) | (have tp_ := tp (by assumption); constructor <;> omega) | (simp only [Bool.and_eq_true, Bool.or_eq_true, Bool.not_eq_true', Bool.and_eq_false_iff, Bool.or_eq_false_iff, Bool.not_eq_false', decide_eq_true_eq, decide_eq_false_iff_not, Classical.not_not] at *; constructor <;> omega) | (simp only [Bool.and_eq_true, Bool.or_eq_true, Bool.not_eq_true', Bool.and_eq_false_iff, Bool.or_eq_false_iff, Bool.not_eq_false', decide_eq_true_eq, decide_eq_false_iff_not, Classical.not_not, lt, List.length_cons, List.length_nil, List.length_append, List.length_map, List.length_reverse, List.length_set, rangeI_length] at *; constructor <;> omega))) px_int))))) (fun hc13 => ?_) (fun hc13 => ?_) (fun s13 h13 => ?_)
    · try simp only [Bool.and_eq_true, Bool.or_eq_true, Bool.not_eq_true', Bool.and_eq_false_iff, Bool.or_eq_false_iff, Bool.not_eq_false', decide_eq_true_eq, decide_eq_false_iff_not, Classical.not_not] at hc13
      refine sx_app 8 rfl (phr_of_pair (px_pair (ax_cons (px_str (by decide +kernel)) (ax_cons (px_callT D__law_letter ((ix v6_parts (((4 : Int) * x9_k) + (1 : Int))) % v5_many_letters) (by trivial) (hr.mono (by decide)) (ax_cons (px_mod (px_int1 T.int_ (px_ixL (.is _) (px_var 7 rfl) (px_add (px_mul px_int (px_var 10 rfl) (by first | exact .inl ⟨by omega, by omega⟩ | exact .inr ⟨by omega, by omega⟩)) px_int) (by first | (constructor <;> omega) | (have tc_ := tc (by first | assumption | exact Bool.eq_false_iff.mpr (by assumption)); constructor <;> omega) | (have tp_ := tp (by assumption); constructor <;> omega) | (simp only [Bool.and_eq_true, Bool.or_eq_true, Bool.not_eq_true', Bool.and_eq_false_iff, Bool.or_eq_false_iff, Bool.not_eq_false', decide_eq_true_eq, decide_eq_false_iff_not, Classical.not_not] at *; constructor <;> omega) | (simp only [Bool.and_eq_true, Bool.or_eq_true, Bool.not_eq_true', Bool.and_eq_false_iff, Bool.or_eq_false_iff, Bool.not_eq_false', decide_eq_true_eq, decide_eq_false_iff_not, Classical.not_not, lt, List.length_cons, List.length_nil, List.length_append, List.length_map, List.length_reverse, List.length_set, rangeI_length] at *; constructor <;> omega)))) (px_var 6 rfl) (by first | omega | (have tc_ := tc (by first | assumption | exact Bool.eq_false_iff.mpr (by assumption)); omega) | (have tp_ := tp (by assumption); omega) | (simp only [Bool.and_eq_true, Bool.or_eq_true, Bool.not_eq_true', Bool.and_eq_false_iff, Bool.or_eq_false_iff, Bool.not_eq_false', decide_eq_true_eq, decide_eq_false_iff_not, Classical.not_not] at *; omega) | (simp only [Bool.and_eq_true, Bool.or_eq_true, Bool.not_eq_true', Bool.and_eq_false_iff, Bool.or_eq_false_iff, Bool.not_eq_false', decide_eq_true_eq, decide_eq_false_iff_not, Classical.not_not, lt, List.length_cons, List.length_nil, List.length_append, List.length_map, List.length_reverse, List.length_set, rangeI_length] at *; omega))) ax_nil) (.is .nil)) ax_nil)))) (by exact Nat.lt_of_le_of_lt (show _ ≤ 100000 by first | omega | (have tc_ := tc (by first | assumption | exact Bool.eq_false_iff.mpr (by assumption)); omega) | (have tp_ := tp (by assumption); omega) | (simp only [Bool.and_eq_true, Bool.or_eq_true, Bool.not_eq_true', Bool.and_eq_false_iff, Bool.or_eq_false_iff, Bool.not_eq_false', decide_eq_true_eq, decide_eq_false_iff_not, Classical.not_not] at *; omega) | (simp only [Bool.and_eq_true, Bool.or_eq_true, Bool.not_eq_true', Bool.and_eq_false_iff, Bool.or_eq_false_iff, Bool.not_eq_false', decide_eq_true_eq, decide_eq_false_iff_not, Classical.not_not, lt, List.length_cons, List.length_nil, List.length_append, List.length_map, List.length_reverse, List.length_set, rangeI_length] at *; omega)) (by decide)) (fun v14_phrases h14 => ?_)
      refine sx_set 9 (px_add (px_var 9 rfl) px_int) (fun v15_place h15 => ?_) sc__law_press.nd
      exact sx_nil (sx_endN (.same (.same (.same (.same (.same (.same (.same (.same (.same (.same (.same (.same (.same .nil))))))))))))))
    · try simp only [Bool.and_eq_true, Bool.or_eq_true, Bool.not_eq_true', Bool.and_eq_false_iff, Bool.or_eq_false_iff, Bool.not_eq_false', decide_eq_true_eq, decide_eq_false_iff_not, Classical.not_not] at hc13
      refine sx_ifj (fun (s17 : (List Phr) × Int) => [.is a_cell, .is a_most, .is v1_head, .is v2_told, .is v3_size, .is v4_reach_v, .is v5_many_letters, .is v6_parts, .own s17.1, .is s17.2, .is x9_k, .no, .no]) (tx_lt (px_var 9 rfl) (px_var 4 rfl)) (fun hc17 => ?_) (fun hc17 => ?_) (fun s17 h17 => ?_)
      · try simp only [Bool.and_eq_true, Bool.or_eq_true, Bool.not_eq_true', Bool.and_eq_false_iff, Bool.or_eq_false_iff, Bool.not_eq_false', decide_eq_true_eq, decide_eq_false_iff_not, Classical.not_not] at hc17
        refine sx_set 11 (px_add px_int (px_mod (px_int1 T.int_ (px_ixL (.is _) (px_var 7 rfl) (px_add (px_mul px_int (px_var 10 rfl) (by first | exact .inl ⟨by omega, by omega⟩ | exact .inr ⟨by omega, by omega⟩)) px_int) (by first | (constructor <;> omega) | (have tc_ := tc (by first | assumption | exact Bool.eq_false_iff.mpr (by assumption)); constructor <;> omega) | (have tp_ := tp (by assumption); constructor <;> omega) | (simp only [Bool.and_eq_true, Bool.or_eq_true, Bool.not_eq_true', Bool.and_eq_false_iff, Bool.or_eq_false_iff, Bool.not_eq_false', decide_eq_true_eq, decide_eq_false_iff_not, Classical.not_not] at *; constructor <;> omega) | (simp only [Bool.and_eq_true, Bool.or_eq_true, Bool.not_eq_true', Bool.and_eq_false_iff, Bool.or_eq_false_iff, Bool.not_eq_false', decide_eq_true_eq, decide_eq_false_iff_not, Classical.not_not, lt, List.length_cons, List.length_nil, List.length_append, List.length_map, List.length_reverse, List.length_set, rangeI_length] at *; constructor <;> omega)))) (px_min rfl T.min_ (px_var 5 rfl) (px_sub (px_var 4 rfl) (px_var 9 rfl))) (by first | omega | (have tc_ := tc (by first | assumption | exact Bool.eq_false_iff.mpr (by assumption)); omega) | (have tp_ := tp (by assumption); omega) | (simp only [Bool.and_eq_true, Bool.or_eq_true, Bool.not_eq_true', Bool.and_eq_false_iff, Bool.or_eq_false_iff, Bool.not_eq_false', decide_eq_true_eq, decide_eq_false_iff_not, Classical.not_not] at *; omega) | (simp only [Bool.and_eq_true, Bool.or_eq_true, Bool.not_eq_true', Bool.and_eq_false_iff, Bool.or_eq_false_iff, Bool.not_eq_false', decide_eq_true_eq, decide_eq_false_iff_not, Classical.not_not, lt, List.length_cons, List.length_nil, List.length_append, List.length_map, List.length_reverse, List.length_set, rangeI_length] at *; omega)))) (fun v18_many h18 => ?_) sc__law_press.nd
        have fmm : 1 ≤ v18_many ∧ v18_many ≤ v3_size - s9.2 := by rw [h18]; exact many_bd _ (by omega) (by omega)
        refine sx_set 12 (px_mod (px_int1 T.int_ (px_ixL (.is _) (px_var 7 rfl) (px_add (px_mul px_int (px_var 10 rfl) (by first | exact .inl ⟨by omega, by omega⟩ | exact .inr ⟨by omega, by omega⟩)) px_int) (by first | (constructor <;> omega) | (have tc_ := tc (by first | assumption | exact Bool.eq_false_iff.mpr (by assumption)); constructor <;> omega) | (have tp_ := tp (by assumption); constructor <;> omega) | (simp only [Bool.and_eq_true, Bool.or_eq_true, Bool.not_eq_true', Bool.and_eq_false_iff, Bool.or_eq_false_iff, Bool.not_eq_false', decide_eq_true_eq, decide_eq_false_iff_not, Classical.not_not] at *; constructor <;> omega) | (simp only [Bool.and_eq_true, Bool.or_eq_true, Bool.not_eq_true', Bool.and_eq_false_iff, Bool.or_eq_false_iff, Bool.not_eq_false', decide_eq_true_eq, decide_eq_false_iff_not, Classical.not_not, lt, List.length_cons, List.length_nil, List.length_append, List.length_map, List.length_reverse, List.length_set, rangeI_length] at *; constructor <;> omega)))) (px_add (px_sub (px_var 4 rfl) (px_var 11 rfl)) px_int) (by first | omega | (have tc_ := tc (by first | assumption | exact Bool.eq_false_iff.mpr (by assumption)); omega) | (have tp_ := tp (by assumption); omega) | (simp only [Bool.and_eq_true, Bool.or_eq_true, Bool.not_eq_true', Bool.and_eq_false_iff, Bool.or_eq_false_iff, Bool.not_eq_false', decide_eq_true_eq, decide_eq_false_iff_not, Classical.not_not] at *; omega) | (simp only [Bool.and_eq_true, Bool.or_eq_true, Bool.not_eq_true', Bool.and_eq_false_iff, Bool.or_eq_false_iff, Bool.not_eq_false', decide_eq_true_eq, decide_eq_false_iff_not, Classical.not_not, lt, List.length_cons, List.length_nil, List.length_append, List.length_map, List.length_reverse, List.length_set, rangeI_length] at *; omega))) (fun v19_start h19 => ?_) sc__law_press.nd
        refine sx_ifj (fun (s22 : Int) => [.is a_cell, .is a_most, .is v1_head, .is v2_told, .is v3_size, .is v4_reach_v, .is v5_many_letters, .is v6_parts, .own s9.1, .is s9.2, .is x9_k, .is v18_many, .is s22]) (tx_w (wx_and (tx_eq (px_ixL (.is _) (px_var 7 rfl) (px_mul px_int (px_var 10 rfl) (by first | exact .inl ⟨by omega, by omega⟩ | exact .inr ⟨by omega, by omega⟩)) (by first | (constructor <;> omega) | (have tc_ := tc (by first | assumption | exact Bool.eq_false_iff.mpr (by assumption)); constructor <;> omega) | (have tp_ := tp (by assumption); constructor <;> omega) | (simp only [Bool.and_eq_true, Bool.or_eq_true, Bool.not_eq_true', Bool.and_eq_false_iff, Bool.or_eq_false_iff, Bool.not_eq_false', decide_eq_true_eq, decide_eq_false_iff_not, Classical.not_not] at *; constructor <;> omega) | (simp only [Bool.and_eq_true, Bool.or_eq_true, Bool.not_eq_true', Bool.and_eq_false_iff, Bool.or_eq_false_iff, Bool.not_eq_false', decide_eq_true_eq, decide_eq_false_iff_not, Classical.not_not, lt, List.length_cons, List.length_nil, List.length_append, List.length_map, List.length_reverse, List.length_set, rangeI_length] at *; constructor <;> omega))) px_int) (fun hw20 => (wx_and1 (tx_gt (px_var 9 rfl) px_int))))) (fun hc22 => ?_) (fun hc22 => ?_) (fun s22 h22 => ?_)
        · try simp only [Bool.and_eq_true, Bool.or_eq_true, Bool.not_eq_true', Bool.and_eq_false_iff, Bool.or_eq_false_iff, Bool.not_eq_false', decide_eq_true_eq, decide_eq_false_iff_not, Classical.not_not] at hc22
          refine sx_set 12 (px_mod (px_int1 T.int_ (px_ixL (.is _) (px_var 7 rfl) (px_add (px_mul px_int (px_var 10 rfl) (by first | exact .inl ⟨by omega, by omega⟩ | exact .inr ⟨by omega, by omega⟩)) px_int) (by first | (constructor <;> omega) | (have tc_ := tc (by first | assumption | exact Bool.eq_false_iff.mpr (by assumption)); constructor <;> omega) | (have tp_ := tp (by assumption); constructor <;> omega) | (simp only [Bool.and_eq_true, Bool.or_eq_true, Bool.not_eq_true', Bool.and_eq_false_iff, Bool.or_eq_false_iff, Bool.not_eq_false', decide_eq_true_eq, decide_eq_false_iff_not, Classical.not_not] at *; constructor <;> omega) | (simp only [Bool.and_eq_true, Bool.or_eq_true, Bool.not_eq_true', Bool.and_eq_false_iff, Bool.or_eq_false_iff, Bool.not_eq_false', decide_eq_true_eq, decide_eq_false_iff_not, Classical.not_not, lt, List.length_cons, List.length_nil, List.length_append, List.length_map, List.length_reverse, List.length_set, rangeI_length] at *; constructor <;> omega)))) (px_var 9 rfl) (by first | omega | (have tc_ := tc (by first | assumption | exact Bool.eq_false_iff.mpr (by assumption)); omega) | (have tp_ := tp (by assumption); omega) | (simp only [Bool.and_eq_true, Bool.or_eq_true, Bool.not_eq_true', Bool.and_eq_false_iff, Bool.or_eq_false_iff, Bool.not_eq_false', decide_eq_true_eq, decide_eq_false_iff_not, Classical.not_not] at *; omega) | (simp only [Bool.and_eq_true, Bool.or_eq_true, Bool.not_eq_true', Bool.and_eq_false_iff, Bool.or_eq_false_iff, Bool.not_eq_false', decide_eq_true_eq, decide_eq_false_iff_not, Classical.not_not, lt, List.length_cons, List.length_nil, List.length_append, List.length_map, List.length_reverse, List.length_set, rangeI_length] at *; omega))) (fun v23_start h23 => ?_) sc__law_press.nd
          exact sx_nil (sx_endN (.same (.same (.same (.same (.same (.same (.same (.same (.same (.same (.same (.same (.same .nil))))))))))))))
        · try simp only [Bool.and_eq_true, Bool.or_eq_true, Bool.not_eq_true', Bool.and_eq_false_iff, Bool.or_eq_false_iff, Bool.not_eq_false', decide_eq_true_eq, decide_eq_false_iff_not, Classical.not_not] at hc22
          exact sx_nil (sx_endN (.same (.same (.same (.same (.same (.same (.same (.same (.same (.same (.same (.same (.same .nil))))))))))))))
        refine sx_app 8 rfl (phr_of_t3 (px_t3 (ax_cons (px_str (by decide +kernel)) (ax_cons (px_var 12 rfl) (ax_cons (px_var 11 rfl) ax_nil))))) (by exact Nat.lt_of_le_of_lt (show _ ≤ 100000 by first | omega | (have tc_ := tc (by first | assumption | exact Bool.eq_false_iff.mpr (by assumption)); omega) | (have tp_ := tp (by assumption); omega) | (simp only [Bool.and_eq_true, Bool.or_eq_true, Bool.not_eq_true', Bool.and_eq_false_iff, Bool.or_eq_false_iff, Bool.not_eq_false', decide_eq_true_eq, decide_eq_false_iff_not, Classical.not_not] at *; omega) | (simp only [Bool.and_eq_true, Bool.or_eq_true, Bool.not_eq_true', Bool.and_eq_false_iff, Bool.or_eq_false_iff, Bool.not_eq_false', decide_eq_true_eq, decide_eq_false_iff_not, Classical.not_not, lt, List.length_cons, List.length_nil, List.length_append, List.length_map, List.length_reverse, List.length_set, rangeI_length] at *; omega)) (by decide)) (fun v24_phrases h24 => ?_)
        refine sx_set 9 (px_add (px_var 9 rfl) (px_var 11 rfl)) (fun v25_place h25 => ?_) sc__law_press.nd
        exact sx_nil (sx_endN (.same (.same (.same (.same (.same (.same (.same (.same (.same (.same (.same (.drop (.drop .nil))))))))))))))
      · try simp only [Bool.and_eq_true, Bool.or_eq_true, Bool.not_eq_true', Bool.and_eq_false_iff, Bool.or_eq_false_iff, Bool.not_eq_false', decide_eq_true_eq, decide_eq_false_iff_not, Classical.not_not] at hc17
        exact sx_nil (sx_endN (.same (.same (.same (.same (.same (.same (.same (.same (.same (.same (.same (.same (.same .nil))))))))))))))
      exact sx_nil (sx_endN (.same (.same (.same (.same (.same (.same (.same (.same (.same (.same (.same (.same (.same .nil))))))))))))))
    exact sx_nil (sx_endN (.same (.same (.same (.same (.same (.same (.same (.same (.same (.same (.drop (.same (.same .nil))))))))))))))
  · have hr9 := rangeI_get hx9
    have hI := pi_len hI9
    exact (by
      have hI := hI9
      dsimp only [lt]
      refine if_ind (P := fun z : List Phr × Int => PI v3_size (i9 + 1) (z.1, z.2)) (fun c => ?_) (fun c => ?_)
      · simp only [Bool.and_eq_true, Bool.or_eq_true, Bool.not_eq_true', Bool.and_eq_false_iff, Bool.or_eq_false_iff, Bool.not_eq_false', decide_eq_true_eq, decide_eq_false_iff_not, Classical.not_not] at c
        exact pi_app (p := .put _) hI (letter_good _) (by show s9.2 + 1 ≤ v3_size; omega) (fun z => by cases z) rfl
      · refine if_ind (P := fun z : List Phr × Int => PI v3_size (i9 + 1) (z.1, z.2)) (fun c => ?_) (fun c => pi_stay hI c)
        simp only [Bool.and_eq_true, Bool.or_eq_true, Bool.not_eq_true', Bool.and_eq_false_iff, Bool.or_eq_false_iff, Bool.not_eq_false', decide_eq_true_eq, decide_eq_false_iff_not, Classical.not_not] at c
        have fmm := many_bd (ix v6_parts (((4 : Int) * x9_k) + (2 : Int))) (r := v4_reach_v) (q := v3_size - s9.2) (by omega) (by omega)
        refine pi_app (p := .copy _ _) hI ⟨?_, fmm.1⟩ (by show s9.2 + (1 + _) ≤ v3_size; omega) (fun _ => ?_) rfl
        · refine if_ind (P := fun z : Int => 0 ≤ z) (fun c => (emod_bd _ ?_).1) (fun c => (emod_bd _ ?_).1)
          · simp only [Bool.and_eq_true, Bool.or_eq_true, Bool.not_eq_true', Bool.and_eq_false_iff, Bool.or_eq_false_iff, Bool.not_eq_false', decide_eq_true_eq, decide_eq_false_iff_not, Classical.not_not] at c; omega
          · omega
        · refine if_ind (P := fun z : Int => z + (1 + _) ≤ v3_size) (fun c => ?_) (fun c => ?_)
          · simp only [Bool.and_eq_true, Bool.or_eq_true, Bool.not_eq_true', Bool.and_eq_false_iff, Bool.or_eq_false_iff, Bool.not_eq_false', decide_eq_true_eq, decide_eq_false_iff_not, Classical.not_not] at c
            have := emod_bd (ix v6_parts (((4 : Int) * x9_k) + (3 : Int))) (show 0 < s9.2 by omega)
            omega
          · have := emod_bd (ix v6_parts (((4 : Int) * x9_k) + (3 : Int))) (show 0 < v3_size - (1 + ix v6_parts (((4 : Int) * x9_k) + (2 : Int)) % (if v3_size - s9.2 < v4_reach_v then v3_size - s9.2 else v4_reach_v)) + 1 by omega)
            omega)
  exact sx_retV (mr := (fun r => r)) 8 rfl (rets_ret) rfl

def PP__law_press (a_cell : Int) (a_most : Int) (res : (List Phr)) : Prop := GoodP res
theorem post__law_press (a_cell : Int) (a_most : Int) (hp : 1 ≤ a_most ∧ a_most ≤ 128) : PP__law_press a_cell a_most (m__law_press a_cell a_most) := by
  have hp1 := hp.1
  have hp2 := hp.2
  unfold m__law_press
  refine lt_ind (P := PP__law_press a_cell a_most) fun v1_head h1 => ?_
  have fhl : v1_head.length = 4 := by rw [h1]; rfl
  refine lt_ind (P := PP__law_press a_cell a_most) fun v2_told h2 => ?_
  have hL := (draws_all h2 (by rw [h1]; exact head_pre hp1 hp2)).1
  have hD := (draws_all h2 (by rw [h1]; exact head_pre hp1 hp2)).2
  rw [h1] at hL hD
  simp only [List.length_cons, List.length_nil] at hL
  have f0 := hD (0 : Int) 10 rfl (by decide)
  have f2 := hD (2 : Int) 3 rfl (by decide)
  have f3 := hD (3 : Int) 2 rfl (by decide)
  clear hD
  refine lt_ind (P := PP__law_press a_cell a_most) fun v3_size h3 => ?_
  have fs := size_post h3 hp1
  clear h3
  refine lt_ind (P := PP__law_press a_cell a_most) fun v4_reach_v h4 => ?_
  have fr : 1 ≤ v4_reach_v ∧ v4_reach_v ≤ 128 := by rw [h4]; exact ix_all (fun x => 1 ≤ x ∧ x ≤ 128) (by intro x hx; simp only [List.mem_cons, List.not_mem_nil, or_false] at hx; omega) (by simp only [List.length_cons, List.length_nil]; omega)
  clear h4
  refine lt_ind (P := PP__law_press a_cell a_most) fun v5_many_letters h5 => ?_
  have fm : 1 ≤ v5_many_letters ∧ v5_many_letters ≤ 26 := by rw [h5]; exact ix_all (fun x => 1 ≤ x ∧ x ≤ 26) (by decide) (by simp only [List.length_cons, List.length_nil]; omega)
  clear h5
  refine lt_ind (P := PP__law_press a_cell a_most) fun v6_parts h6 => ?_
  have fv := (draws_rest h6 (by rw [h1]; rfl) (by rw [h1]; exact head_pre hp1 hp2) (parts_b hp1 hp2) (by rw [h1]; simp only [List.length_cons, List.length_nil]; omega)).1
  simp only [List.length_cons, List.length_nil] at fv
  clear h6
  refine lt_ind (P := PP__law_press a_cell a_most) fun v7_phrases h7 => ?_
  refine lt_ind (P := PP__law_press a_cell a_most) fun v8_place h8 => ?_
  refine lt_ind (P := PP__law_press a_cell a_most) fun s10 h10 => ?_
  have hI10 := foldl_ix (fun i (s : List Phr × Int) => PI v3_size i s) ((fun (s9 : (List Phr) × Int) (x9_k : Int) => lt (if ((decide (s9.2 < v3_size)) && (decide ((ix v6_parts ((4 : Int) * x9_k)) < (2 : Int)))) = true then lt (s9.1 ++ [(Phr.put (m__law_letter ((ix v6_parts (((4 : Int) * x9_k) + (1 : Int))) % v5_many_letters)))]) fun (v14_phrases : (List Phr)) => 
      lt (s9.2 + (1 : Int)) fun (v15_place : Int) => 
      (v14_phrases, v15_place) else lt (if (decide (s9.2 < v3_size)) = true then lt ((1 : Int) + ((ix v6_parts (((4 : Int) * x9_k) + (2 : Int))) % (if (v3_size - s9.2) < v4_reach_v then (v3_size - s9.2) else v4_reach_v : Int))) fun (v18_many : Int) => 
        lt ((ix v6_parts (((4 : Int) * x9_k) + (3 : Int))) % ((v3_size - v18_many) + (1 : Int))) fun (v19_start : Int) => 
        lt (if ((decide ((ix v6_parts ((4 : Int) * x9_k)) = (4 : Int))) && (decide (s9.2 > (0 : Int)))) = true then lt ((ix v6_parts (((4 : Int) * x9_k) + (3 : Int))) % s9.2) fun (v23_start : Int) => 
          v23_start else v19_start : Int) fun (s22 : Int) => 
        lt (s9.1 ++ [(Phr.copy s22 v18_many)]) fun (v24_phrases : (List Phr)) => 
        lt (s9.2 + v18_many) fun (v25_place : Int) => 
        (v24_phrases, v25_place) else (s9.1, s9.2) : (List Phr) × Int) fun (s17 : (List Phr) × Int) => 
      (s17.1, s17.2) : (List Phr) × Int) fun (s13 : (List Phr) × Int) => 
    (s13.1, s13.2))) ((v7_phrases, v8_place) : (List Phr) × Int) (rangeI 0 (v3_size).toNat) (by rw [h7, h8]; exact ⟨by simp, rfl, by show (0 : Int) ≤ v3_size; omega, .inl (Int.le_refl _), by simp⟩) (fun i9 s9 x9_k hx9 hI9 => by
    have hr9 := rangeI_get hx9
    have hI := pi_len hI9
    (exact (by
      have hI := hI9
      dsimp only [lt]
      refine if_ind (P := fun z : List Phr × Int => PI v3_size (i9 + 1) (z.1, z.2)) (fun c => ?_) (fun c => ?_)
      · simp only [Bool.and_eq_true, Bool.or_eq_true, Bool.not_eq_true', Bool.and_eq_false_iff, Bool.or_eq_false_iff, Bool.not_eq_false', decide_eq_true_eq, decide_eq_false_iff_not, Classical.not_not] at c
        exact pi_app (p := .put _) hI (letter_good _) (by show s9.2 + 1 ≤ v3_size; omega) (fun z => by cases z) rfl
      · refine if_ind (P := fun z : List Phr × Int => PI v3_size (i9 + 1) (z.1, z.2)) (fun c => ?_) (fun c => pi_stay hI c)
        simp only [Bool.and_eq_true, Bool.or_eq_true, Bool.not_eq_true', Bool.and_eq_false_iff, Bool.or_eq_false_iff, Bool.not_eq_false', decide_eq_true_eq, decide_eq_false_iff_not, Classical.not_not] at c
        have fmm := many_bd (ix v6_parts (((4 : Int) * x9_k) + (2 : Int))) (r := v4_reach_v) (q := v3_size - s9.2) (by omega) (by omega)
        refine pi_app (p := .copy _ _) hI ⟨?_, fmm.1⟩ (by show s9.2 + (1 + _) ≤ v3_size; omega) (fun _ => ?_) rfl
        · refine if_ind (P := fun z : Int => 0 ≤ z) (fun c => (emod_bd _ ?_).1) (fun c => (emod_bd _ ?_).1)
          · simp only [Bool.and_eq_true, Bool.or_eq_true, Bool.not_eq_true', Bool.and_eq_false_iff, Bool.or_eq_false_iff, Bool.not_eq_false', decide_eq_true_eq, decide_eq_false_iff_not, Classical.not_not] at c; omega
          · omega
        · refine if_ind (P := fun z : Int => z + (1 + _) ≤ v3_size) (fun c => ?_) (fun c => ?_)
          · simp only [Bool.and_eq_true, Bool.or_eq_true, Bool.not_eq_true', Bool.and_eq_false_iff, Bool.or_eq_false_iff, Bool.not_eq_false', decide_eq_true_eq, decide_eq_false_iff_not, Classical.not_not] at c
            have := emod_bd (ix v6_parts (((4 : Int) * x9_k) + (3 : Int))) (show 0 < s9.2 by omega)
            omega
          · have := emod_bd (ix v6_parts (((4 : Int) * x9_k) + (3 : Int))) (show 0 < v3_size - (1 + ix v6_parts (((4 : Int) * x9_k) + (2 : Int)) % (if v3_size - s9.2 < v4_reach_v then v3_size - s9.2 else v4_reach_v)) + 1 by omega)
            omega)))
  rw [← h10] at hI10
  show GoodP (s10.1)
  exact pi_good hI10 (by rw [rangeI_length]) fs.1 (by omega)

def m__law_many (a_phrase : Phr) : Int :=
  (if a_phrase.isPut = true then (1 : Int) else 
  a_phrase.len)
abbrev s__law_many : Stmt := topS 38
abbrev N__law_many : List Str := ["phrase"]
theorem sc__law_many : FnScope N__law_many ["phrase"] (defScope s__law_many) := ⟨rfl, rfl, rfl, by decide +kernel, rfl, by decide +kernel, by decide +kernel⟩
abbrev Ok__law_many (P : Program) (w : World) (K : PySem.W.Frag) (mg : Str → Option Value) (base : Heap) : Prop :=
  DefOk P w K mg base 1 "_law_many" 1 (spD (ι := Phr) K (fun i => True) (fun i => [.is i]) (fun i => .is (m__law_many i)))
theorem ok__law_many {P : Program} {w : World} {K : PySem.W.Frag} {mg : Str → Option Value} {base : Heap} {f : Addr} {fd : FuncData} (F : Fun K "_law_many" "_law_many" s__law_many f fd) (hm : mg "_law_many" = some (.ref f)) (bd : Binds K fd ["phrase"] [])   : Ok__law_many P w K mg base := by
  refine defOk (kk := 0) (R := Int) F hm sc__law_many bd _ _ (fun r => .is r) _ (fun _ => rfl) (fun i hp cdv A outer s H E hr => ?_)
  obtain ⟨a_phrase, rfl⟩ : ∃ z, z = i := ⟨i, rfl⟩
  show SX _ _ [.is a_phrase] _ (m__law_many a_phrase)
  unfold m__law_many
  refine sx_if (tx_isPut (px_var 0 rfl)) (fun hc1 => ?_) (fun hc1 => ?_)
  · try simp only [Bool.and_eq_true, Bool.or_eq_true, Bool.not_eq_true', Bool.and_eq_false_iff, Bool.or_eq_false_iff, Bool.not_eq_false', decide_eq_true_eq, decide_eq_false_iff_not, Classical.not_not] at hc1
    exact sx_retI (mr := (fun r => r)) (rets_ret) rfl px_int
  · try simp only [Bool.and_eq_true, Bool.or_eq_true, Bool.not_eq_true', Bool.and_eq_false_iff, Bool.or_eq_false_iff, Bool.not_eq_false', decide_eq_true_eq, decide_eq_false_iff_not, Classical.not_not] at hc1
    refine sx_nil ?_
    exact sx_retI (mr := (fun r => r)) (rets_ret) rfl (px_phLen (px_var 0 rfl) px_int (by first | assumption | (simp only [Bool.and_eq_true, Bool.or_eq_true, Bool.not_eq_true', Bool.and_eq_false_iff, Bool.or_eq_false_iff, Bool.not_eq_false', decide_eq_true_eq, decide_eq_false_iff_not, Classical.not_not] at *; first | assumption | simp_all)))

theorem many_is (p : Phr) : m__law_many p = manyP p := by cases p <;> rfl
theorem foldl_snoc {α β : Type} (f : α → β) : ∀ (xs : List α) (s : List β), List.foldl (fun s x => s ++ [f x]) s xs = s ++ xs.map f
  | [], s => by simp
  | x :: xs, s => by
    rw [List.foldl_cons, foldl_snoc f xs, List.map_cons, List.append_assoc]
    rfl

def m__law_sources (a_phrases : (List Phr)) : (List (Option Int)) :=
  lt ([] : List (Option Int)) fun (v1_sources : (List (Option Int))) => 
  lt (List.foldl (fun (s2 : (List (Option Int))) (x2_phrase : Phr) => lt (if x2_phrase.isPut = true then lt (s2 ++ [(none : Option Int)]) fun (v6_sources : (List (Option Int))) => 
      v6_sources else lt (List.foldl (fun (s7 : (List (Option Int))) (x7_i : Int) => lt (s7 ++ [(some (x2_phrase.start + x7_i) : Option Int)]) fun (v9_sources : (List (Option Int))) => 
        v9_sources) (s2 : (List (Option Int))) (rangeI 0 (x2_phrase.len).toNat)) fun (s8 : (List (Option Int))) => 
      s8 : (List (Option Int))) fun (s5 : (List (Option Int))) => 
    s5) (v1_sources : (List (Option Int))) a_phrases) fun (s3 : (List (Option Int))) => 
  s3
abbrev s__law_sources : Stmt := topS 39
abbrev N__law_sources : List Str := ["phrases", "sources", "phrase", "i"]
theorem sc__law_sources : FnScope N__law_sources ["phrases"] (defScope s__law_sources) := ⟨rfl, rfl, rfl, by decide +kernel, rfl, by decide +kernel, by decide +kernel⟩
abbrev Ok__law_sources (P : Program) (w : World) (K : PySem.W.Frag) (mg : Str → Option Value) (base : Heap) : Prop :=
  DefOk P w K mg base 1 "_law_sources" 1 (spD (ι := (List Phr)) K (fun i => GoodP i) (fun i => [.is i]) (fun i => .own (m__law_sources i)))
theorem ok__law_sources {P : Program} {w : World} {K : PySem.W.Frag} {mg : Str → Option Value} {base : Heap} {f : Addr} {fd : FuncData} (F : Fun K "_law_sources" "_law_sources" s__law_sources f fd) (hm : mg "_law_sources" = some (.ref f)) (bd : Binds K fd ["phrases"] []) (T : Bt mg)  : Ok__law_sources P w K mg base := by
  refine defOk (kk := 0) (R := (List (Option Int))) F hm sc__law_sources bd _ _ (fun r => .own r) _ (fun _ => rfl) (fun i hp cdv A outer s H E hr => ?_)
  obtain ⟨a_phrases, rfl⟩ : ∃ z, z = i := ⟨i, rfl⟩
  have hp : GoodP a_phrases := hp
  show SX _ _ [.is a_phrases, .no, .no, .no] _ (m__law_sources a_phrases)
  unfold m__law_sources
  refine sx_setO 1 (px_list ([] : List (Option Int)) ax_nil) (fun v1_sources h1 => ?_) sc__law_sources.nd
  refine sx_forF 2 (fun (s2 : (List (Option Int))) => [.is a_phrases, .own s2, .no, .no]) _ (v1_sources : (List (Option Int))) (fun i (s : List (Option Int)) => (s.length : Int) = totP (a_phrases.take i)) (it_list (px_var 0 rfl)) (pg_name (i := 2) sc__law_sources.nd rfl (by first | exact Or.inl rfl | exact Or.inr rfl)) (.same (.same (.same (.same .nil)))) (by rw [h1]; rfl) (fun i2 s2 x2_phrase hx2 hI2 => ?_) (fun i2 s2 x2_phrase hx2 hI2 => ?_) (fun s3 h3 hI3 => ?_)
  · have hm2 := List.mem_of_getElem? hx2
    have tb := tot_bd hp hx2
    have tc := tc_of hp hx2
    have tp := tp_of (x := x2_phrase)
    have tI := hI2
    refine sx_ifj (fun (s5 : (List (Option Int))) => [.is a_phrases, .own s5, .is x2_phrase, .no]) (tx_isPut (px_var 2 rfl)) (fun hc5 => ?_) (fun hc5 => ?_) (fun s5 h5 => ?_)
    · try simp only [Bool.and_eq_true, Bool.or_eq_true, Bool.not_eq_true', Bool.and_eq_false_iff, Bool.or_eq_false_iff, Bool.not_eq_false', decide_eq_true_eq, decide_eq_false_iff_not, Classical.not_not] at hc5
      refine sx_app 1 rfl (px_noneO px_none) (by exact Nat.lt_of_le_of_lt (show _ ≤ 100000 by first | omega | (have tc_ := tc (by first | assumption | exact Bool.eq_false_iff.mpr (by assumption)); omega) | (have tp_ := tp (by assumption); omega) | (simp only [Bool.and_eq_true, Bool.or_eq_true, Bool.not_eq_true', Bool.and_eq_false_iff, Bool.or_eq_false_iff, Bool.not_eq_false', decide_eq_true_eq, decide_eq_false_iff_not, Classical.not_not] at *; omega) | (simp only [Bool.and_eq_true, Bool.or_eq_true, Bool.not_eq_true', Bool.and_eq_false_iff, Bool.or_eq_false_iff, Bool.not_eq_false', decide_eq_true_eq, decide_eq_false_iff_not, Classical.not_not, lt, List.length_cons, List.length_nil, List.length_append, List.length_map, List.length_reverse, List.length_set, rangeI_length] at *; omega)) (by decide)) (fun v6_sources h6 => ?_)
      exact sx_nil (sx_endN (.same (.same (.same (.same .nil)))))
    · try simp only [Bool.and_eq_true, Bool.or_eq_true, Bool.not_eq_true', Bool.and_eq_false_iff, Bool.or_eq_false_iff, Bool.not_eq_false', decide_eq_true_eq, decide_eq_false_iff_not, Classical.not_not] at hc5
      refine sx_forF 3 (fun (s7 : (List (Option Int))) => [.is a_phrases, .own s7, .is x2_phrase, .no]) _ (s2 : (List (Option Int))) (fun i (s : List (Option Int)) => s.length = s2.length + i) (it_range1 T.range_ (px_phLen (px_var 2 rfl) px_int (by first | assumption | (simp only [Bool.and_eq_true, Bool.or_eq_true, Bool.not_eq_true', Bool.and_eq_false_iff, Bool.or_eq_false_iff, Bool.not_eq_false', decide_eq_true_eq, decide_eq_false_iff_not, Classical.not_not] at *; first | assumption | simp_all))) (by first | (constructor <;> omega) | (have tc_ := tc (by first | assumption | exact Bool.eq_false_iff.mpr (by assumption)); constructor <;> omega) | (have tp_ := tp (by assumption); constructor <;> omega) | (simp only [Bool.and_eq_true, Bool.or_eq_true, Bool.not_eq_true', Bool.and_eq_false_iff, Bool.or_eq_false_iff, Bool.not_eq_false', decide_eq_true_eq, decide_eq_false_iff_not, Classical.not_not] at *; constructor <;> omega) | (simp only [Bool.and_eq_true, Bool.or_eq_true, Bool.not_eq_true', Bool.and_eq_false_iff, Bool.or_eq_false_iff, Bool.not_eq_false', decide_eq_true_eq, decide_eq_false_iff_not, Classical.not_not, lt, List.length_cons, List.length_nil, List.length_append, List.length_map, List.length_reverse, List.length_set, rangeI_length] at *; constructor <;> omega))) (pg_name (i := 3) sc__law_sources.nd rfl (by first | exact Or.inl rfl | exact Or.inr rfl)) (.same (.same (.same (.same .nil)))) (rfl) (fun i7 s7 x7_i hx7 hI7 => ?_) (fun i7 s7 x7_i hx7 hI7 => ?_) (fun s8 h8 hI8 => ?_)
      · have hr7 := rangeI_get hx7
        have tJ := hI7
        refine sx_app 1 rfl (px_some (px_add (px_phStart (px_var 2 rfl) px_int (by first | assumption | (simp only [Bool.and_eq_true, Bool.or_eq_true, Bool.not_eq_true', Bool.and_eq_false_iff, Bool.or_eq_false_iff, Bool.not_eq_false', decide_eq_true_eq, decide_eq_false_iff_not, Classical.not_not] at *; first | assumption | simp_all))) (px_var 3 rfl))) (by exact Nat.lt_of_le_of_lt (show _ ≤ 100000 by first | omega | (have tc_ := tc (by first | assumption | exact Bool.eq_false_iff.mpr (by assumption)); omega) | (have tp_ := tp (by assumption); omega) | (simp only [Bool.and_eq_true, Bool.or_eq_true, Bool.not_eq_true', Bool.and_eq_false_iff, Bool.or_eq_false_iff, Bool.not_eq_false', decide_eq_true_eq, decide_eq_false_iff_not, Classical.not_not] at *; omega) | (simp only [Bool.and_eq_true, Bool.or_eq_true, Bool.not_eq_true', Bool.and_eq_false_iff, Bool.or_eq_false_iff, Bool.not_eq_false', decide_eq_true_eq, decide_eq_false_iff_not, Classical.not_not, lt, List.length_cons, List.length_nil, List.length_append, List.length_map, List.length_reverse, List.length_set, rangeI_length] at *; omega)) (by decide)) (fun v9_sources h9 => ?_)
        exact sx_nil (sx_endN (.same (.same (.same (.drop .nil)))))
      · have hr7 := rangeI_get hx7
        have tJ := hI7
        (simp only [lt, List.length_append, List.length_cons, List.length_nil]; have := hI7; omega)
      exact sx_nil (sx_endN (.same (.same (.same (.same .nil)))))
    exact sx_nil (sx_endN (.same (.same (.drop (.same .nil)))))
  · have hm2 := List.mem_of_getElem? hx2
    have tb := tot_bd hp hx2
    have tc := tc_of hp hx2
    have tp := tp_of (x := x2_phrase)
    have tI := hI2
    (dsimp only [lt]; (repeat' split) <;> ((try rw [foldl_snoc]); simp only [lt, List.length_cons, List.length_nil, List.length_append, List.length_map, List.length_reverse, List.length_set, rangeI_length] at *; first | omega | (have tc_ := tc (by first | assumption | exact Bool.eq_false_iff.mpr (by assumption)); omega) | (have tp_ := tp (by assumption); omega)))
  exact sx_retV (mr := (fun r => r)) 1 rfl (rets_ret) rfl

def m__law_put_letters (a_phrases : (List Phr)) : (List (List Nat)) :=
  lt ([] : List (List Nat)) fun (v1_letters : (List (List Nat))) => 
  lt (List.foldl (fun (s2 : (List (List Nat))) (x2_phrase : Phr) => lt (if x2_phrase.isPut = true then lt (s2 ++ [x2_phrase.let]) fun (v6_letters : (List (List Nat))) => 
      v6_letters else lt (List.foldl (fun (s7 : (List (List Nat))) (x7_i : Int) => lt (s7 ++ [([] : List Nat)]) fun (v9_letters : (List (List Nat))) => 
        v9_letters) (s2 : (List (List Nat))) (rangeI 0 (x2_phrase.len).toNat)) fun (s8 : (List (List Nat))) => 
      s8 : (List (List Nat))) fun (s5 : (List (List Nat))) => 
    s5) (v1_letters : (List (List Nat))) a_phrases) fun (s3 : (List (List Nat))) => 
  s3
abbrev s__law_put_letters : Stmt := topS 40
abbrev N__law_put_letters : List Str := ["phrases", "letters", "phrase", "i"]
theorem sc__law_put_letters : FnScope N__law_put_letters ["phrases"] (defScope s__law_put_letters) := ⟨rfl, rfl, rfl, by decide +kernel, rfl, by decide +kernel, by decide +kernel⟩
abbrev Ok__law_put_letters (P : Program) (w : World) (K : PySem.W.Frag) (mg : Str → Option Value) (base : Heap) : Prop :=
  DefOk P w K mg base 1 "_law_put_letters" 1 (spD (ι := (List Phr)) K (fun i => GoodP i) (fun i => [.is i]) (fun i => .own (m__law_put_letters i)))
theorem ok__law_put_letters {P : Program} {w : World} {K : PySem.W.Frag} {mg : Str → Option Value} {base : Heap} {f : Addr} {fd : FuncData} (F : Fun K "_law_put_letters" "_law_put_letters" s__law_put_letters f fd) (hm : mg "_law_put_letters" = some (.ref f)) (bd : Binds K fd ["phrases"] []) (T : Bt mg)  : Ok__law_put_letters P w K mg base := by
  refine defOk (kk := 0) (R := (List (List Nat))) F hm sc__law_put_letters bd _ _ (fun r => .own r) _ (fun _ => rfl) (fun i hp cdv A outer s H E hr => ?_)
  obtain ⟨a_phrases, rfl⟩ : ∃ z, z = i := ⟨i, rfl⟩
  have hp : GoodP a_phrases := hp
  show SX _ _ [.is a_phrases, .no, .no, .no] _ (m__law_put_letters a_phrases)
  unfold m__law_put_letters
  refine sx_setO 1 (px_list ([] : List (List Nat)) ax_nil) (fun v1_letters h1 => ?_) sc__law_put_letters.nd
  refine sx_forF 2 (fun (s2 : (List (List Nat))) => [.is a_phrases, .own s2, .no, .no]) _ (v1_letters : (List (List Nat))) (fun i (s : List (List Nat)) => (s.length : Int) = totP (a_phrases.take i)) (it_list (px_var 0 rfl)) (pg_name (i := 2) sc__law_put_letters.nd rfl (by first | exact Or.inl rfl | exact Or.inr rfl)) (.same (.same (.same (.same .nil)))) (by rw [h1]; rfl) (fun i2 s2 x2_phrase hx2 hI2 => ?_) (fun i2 s2 x2_phrase hx2 hI2 => ?_) (fun s3 h3 hI3 => ?_)
  · have hm2 := List.mem_of_getElem? hx2
    have tb := tot_bd hp hx2
    have tc := tc_of hp hx2
    have tp := tp_of (x := x2_phrase)
    have tI := hI2
    refine sx_ifj (fun (s5 : (List (List Nat))) => [.is a_phrases, .own s5, .is x2_phrase, .no]) (tx_isPut (px_var 2 rfl)) (fun hc5 => ?_) (fun hc5 => ?_) (fun s5 h5 => ?_)
    · try simp only [Bool.and_eq_true, Bool.or_eq_true, Bool.not_eq_true', Bool.and_eq_false_iff, Bool.or_eq_false_iff, Bool.not_eq_false', decide_eq_true_eq, decide_eq_false_iff_not, Classical.not_not] at hc5
      refine sx_app 1 rfl (px_phLet (px_var 2 rfl) px_int (by first | assumption | (simp only [Bool.and_eq_true, Bool.or_eq_true, Bool.not_eq_true', Bool.and_eq_false_iff, Bool.or_eq_false_iff, Bool.not_eq_false', decide_eq_true_eq, decide_eq_false_iff_not, Classical.not_not] at *; first | assumption | simp_all))) (by exact Nat.lt_of_le_of_lt (show _ ≤ 100000 by first | omega | (have tc_ := tc (by first | assumption | exact Bool.eq_false_iff.mpr (by assumption)); omega) | (have tp_ := tp (by assumption); omega) | (simp only [Bool.and_eq_true, Bool.or_eq_true, Bool.not_eq_true', Bool.and_eq_false_iff, Bool.or_eq_false_iff, Bool.not_eq_false', decide_eq_true_eq, decide_eq_false_iff_not, Classical.not_not] at *; omega) | (simp only [Bool.and_eq_true, Bool.or_eq_true, Bool.not_eq_true', Bool.and_eq_false_iff, Bool.or_eq_false_iff, Bool.not_eq_false', decide_eq_true_eq, decide_eq_false_iff_not, Classical.not_not, lt, List.length_cons, List.length_nil, List.length_append, List.length_map, List.length_reverse, List.length_set, rangeI_length] at *; omega)) (by decide)) (fun v6_letters h6 => ?_)
      exact sx_nil (sx_endN (.same (.same (.same (.same .nil)))))
    · try simp only [Bool.and_eq_true, Bool.or_eq_true, Bool.not_eq_true', Bool.and_eq_false_iff, Bool.or_eq_false_iff, Bool.not_eq_false', decide_eq_true_eq, decide_eq_false_iff_not, Classical.not_not] at hc5
      refine sx_forF 3 (fun (s7 : (List (List Nat))) => [.is a_phrases, .own s7, .is x2_phrase, .no]) _ (s2 : (List (List Nat))) (fun i (s : List (List Nat)) => s.length = s2.length + i) (it_range1 T.range_ (px_phLen (px_var 2 rfl) px_int (by first | assumption | (simp only [Bool.and_eq_true, Bool.or_eq_true, Bool.not_eq_true', Bool.and_eq_false_iff, Bool.or_eq_false_iff, Bool.not_eq_false', decide_eq_true_eq, decide_eq_false_iff_not, Classical.not_not] at *; first | assumption | simp_all))) (by first | (constructor <;> omega) | (have tc_ := tc (by first | assumption | exact Bool.eq_false_iff.mpr (by assumption)); constructor <;> omega) | (have tp_ := tp (by assumption); constructor <;> omega) | (simp only [Bool.and_eq_true, Bool.or_eq_true, Bool.not_eq_true', Bool.and_eq_false_iff, Bool.or_eq_false_iff, Bool.not_eq_false', decide_eq_true_eq, decide_eq_false_iff_not, Classical.not_not] at *; constructor <;> omega) | (simp only [Bool.and_eq_true, Bool.or_eq_true, Bool.not_eq_true', Bool.and_eq_false_iff, Bool.or_eq_false_iff, Bool.not_eq_false', decide_eq_true_eq, decide_eq_false_iff_not, Classical.not_not, lt, List.length_cons, List.length_nil, List.length_append, List.length_map, List.length_reverse, List.length_set, rangeI_length] at *; constructor <;> omega))) (pg_name (i := 3) sc__law_put_letters.nd rfl (by first | exact Or.inl rfl | exact Or.inr rfl)) (.same (.same (.same (.same .nil)))) (rfl) (fun i7 s7 x7_i hx7 hI7 => ?_) (fun i7 s7 x7_i hx7 hI7 => ?_) (fun s8 h8 hI8 => ?_)
      · have hr7 := rangeI_get hx7
        have tJ := hI7
        refine sx_app 1 rfl (px_str (by decide +kernel)) (by exact Nat.lt_of_le_of_lt (show _ ≤ 100000 by first | omega | (have tc_ := tc (by first | assumption | exact Bool.eq_false_iff.mpr (by assumption)); omega) | (have tp_ := tp (by assumption); omega) | (simp only [Bool.and_eq_true, Bool.or_eq_true, Bool.not_eq_true', Bool.and_eq_false_iff, Bool.or_eq_false_iff, Bool.not_eq_false', decide_eq_true_eq, decide_eq_false_iff_not, Classical.not_not] at *; omega) | (simp only [Bool.and_eq_true, Bool.or_eq_true, Bool.not_eq_true', Bool.and_eq_false_iff, Bool.or_eq_false_iff, Bool.not_eq_false', decide_eq_true_eq, decide_eq_false_iff_not, Classical.not_not, lt, List.length_cons, List.length_nil, List.length_append, List.length_map, List.length_reverse, List.length_set, rangeI_length] at *; omega)) (by decide)) (fun v9_letters h9 => ?_)
        exact sx_nil (sx_endN (.same (.same (.same (.drop .nil)))))
      · have hr7 := rangeI_get hx7
        have tJ := hI7
        (simp only [lt, List.length_append, List.length_cons, List.length_nil]; have := hI7; omega)
      exact sx_nil (sx_endN (.same (.same (.same (.same .nil)))))
    exact sx_nil (sx_endN (.same (.same (.drop (.same .nil)))))
  · have hm2 := List.mem_of_getElem? hx2
    have tb := tot_bd hp hx2
    have tc := tc_of hp hx2
    have tp := tp_of (x := x2_phrase)
    have tI := hI2
    (dsimp only [lt]; (repeat' split) <;> ((try rw [foldl_snoc]); simp only [lt, List.length_cons, List.length_nil, List.length_append, List.length_map, List.length_reverse, List.length_set, rangeI_length] at *; first | omega | (have tc_ := tc (by first | assumption | exact Bool.eq_false_iff.mpr (by assumption)); omega) | (have tp_ := tp (by assumption); omega)))
  exact sx_retV (mr := (fun r => r)) 1 rfl (rets_ret) rfl


theorem ix_snoc {α : Type} [Inhabited α] (xs : List α) (x : α) : ix (xs ++ [x]) (-1) = x := by
  have h := lastIx (xs := xs ++ [x]) (by rw [List.length_append]; exact Nat.succ_pos _)
  rw [List.length_append, List.length_singleton, Nat.add_sub_cancel, List.getElem?_append_right (Nat.le_refl _), Nat.sub_self] at h
  injection h with h
  exact h.symm
/-- the woven phrases behind i places -/
def WI (src : List (Option Int)) (i : Nat) (out : List Phr) : Prop := out.length ≤ i ∧ ∀ j : Int, j + 1 = i → 0 ≤ j → (ix src j).isNone = false → 0 < out.length ∧ (ix out (-1)).isPut = false
theorem wi_put {src : List (Option Int)} {i : Nat} {x : Int} {out : List Phr} {c : List Nat} (h : WI src i out) (hx : x = i) (hn : (ix src x).isNone = true) : WI src (i + 1) (out ++ [.put c]) := by
  refine ⟨by rw [List.length_append]; exact Nat.succ_le_succ h.1, fun j h1 h2 h3 => ?_⟩
  have : j = x := by omega
  rw [this, hn] at h3
  cases h3
theorem wi_copy {src : List (Option Int)} {i : Nat} {out : List Phr} {s l : Int} (h : out.length ≤ i) : WI src (i + 1) (out ++ [.copy s l]) := by
  refine ⟨by rw [List.length_append]; exact Nat.succ_le_succ h, fun j h1 h2 h3 => ⟨by rw [List.length_append]; exact Nat.succ_pos _, ?_⟩⟩
  rw [ix_snoc]
  rfl
def m__law_woven (a_text : (List (List Nat))) (a_sources : (List (Option Int))) : (List Phr) :=
  lt ([] : List Phr) fun (v1_out : (List Phr)) => 
  lt (List.foldl (fun (s2 : (List Phr)) (x2_place : Int) => lt (if (ix a_sources x2_place).isNone = true then lt (s2 ++ [(Phr.put (ix a_text x2_place))]) fun (v6_out : (List Phr)) => 
      v6_out else lt (if ((decide (x2_place > (0 : Int))) && ((!(ix a_sources (x2_place - (1 : Int))).isNone) && (decide (((ix a_sources x2_place).getD 0) = (((ix a_sources (x2_place - (1 : Int))).getD 0) + (1 : Int)))))) = true then lt s2.dropLast fun (v11_out : (List Phr)) => lt (ix s2 (-1)) fun (v12_last : Phr) => 
        lt (v11_out ++ [(Phr.copy v12_last.start (v12_last.len + (1 : Int)))]) fun (v13_out : (List Phr)) => 
        v13_out else lt (s2 ++ [(Phr.copy ((ix a_sources x2_place).getD 0) (1 : Int))]) fun (v14_out : (List Phr)) => 
        v14_out : (List Phr)) fun (s10 : (List Phr)) => 
      s10 : (List Phr)) fun (s5 : (List Phr)) => 
    s5) (v1_out : (List Phr)) (rangeI 0 ((a_text.length : Int)).toNat)) fun (s3 : (List Phr)) => 
  s3
abbrev s__law_woven : Stmt := topS 41
abbrev N__law_woven : List Str := ["text", "sources", "out", "place", "last"]
theorem sc__law_woven : FnScope N__law_woven ["text", "sources"] (defScope s__law_woven) := ⟨rfl, rfl, rfl, by decide +kernel, rfl, by decide +kernel, by decide +kernel⟩
abbrev Ok__law_woven (P : Program) (w : World) (K : PySem.W.Frag) (mg : Str → Option Value) (base : Heap) : Prop :=
  DefOk P w K mg base 1 "_law_woven" 2 (spD (ι := (List (List Nat)) × (List (Option Int))) K (fun i => i.1.length = i.2.length ∧ i.1.length ≤ 128) (fun i => [.is i.1, .is i.2]) (fun i => .own (m__law_woven i.1 i.2)))
theorem ok__law_woven {P : Program} {w : World} {K : PySem.W.Frag} {mg : Str → Option Value} {base : Heap} {f : Addr} {fd : FuncData} (F : Fun K "_law_woven" "_law_woven" s__law_woven f fd) (hm : mg "_law_woven" = some (.ref f)) (bd : Binds K fd ["text", "sources"] []) (T : Bt mg)  : Ok__law_woven P w K mg base := by
  refine defOk (kk := 0) (R := (List Phr)) F hm sc__law_woven bd _ _ (fun r => .own r) _ (fun _ => rfl) (fun i hp cdv A outer s H E hr => ?_)
  obtain ⟨a_text, a_sources⟩ := i
  have hp : a_text.length = a_sources.length ∧ a_text.length ≤ 128 := hp
  obtain ⟨hq1, hq2⟩ := hp
  show SX _ _ [.is a_text, .is a_sources, .no, .no, .no] _ (m__law_woven a_text a_sources)
  unfold m__law_woven
  refine sx_setO 2 (px_list ([] : List Phr) ax_nil) (fun v1_out h1 => ?_) sc__law_woven.nd
  refine sx_forF 3 (fun (s2 : (List Phr)) => [.is a_text, .is a_sources, .own s2, .no, .no]) _ (v1_out : (List Phr)) (fun i (s : List Phr) => WI a_sources i s) (it_range1 T.range_ (px_len (.is _) T.len_ (px_var 0 rfl)) (by first | (constructor <;> omega) | (have tc_ := tc (by first | assumption | exact Bool.eq_false_iff.mpr (by assumption)); constructor <;> omega) | (have tp_ := tp (by assumption); constructor <;> omega) | (simp only [Bool.and_eq_true, Bool.or_eq_true, Bool.not_eq_true', Bool.and_eq_false_iff, Bool.or_eq_false_iff, Bool.not_eq_false', decide_eq_true_eq, decide_eq_false_iff_not, Classical.not_not] at *; constructor <;> omega) | (simp only [Bool.and_eq_true, Bool.or_eq_true, Bool.not_eq_true', Bool.and_eq_false_iff, Bool.or_eq_false_iff, Bool.not_eq_false', decide_eq_true_eq, decide_eq_false_iff_not, Classical.not_not, lt, List.length_cons, List.length_nil, List.length_append, List.length_map, List.length_reverse, List.length_set, rangeI_length] at *; constructor <;> omega))) (pg_name (i := 3) sc__law_woven.nd rfl (by first | exact Or.inl rfl | exact Or.inr rfl)) (.same (.same (.same (.same (.same .nil))))) (by rw [h1]; exact ⟨Nat.le_refl _, fun j h1 h2 => by omega⟩) (fun i2 s2 x2_place hx2 hI2 => ?_) (fun i2 s2 x2_place hx2 hI2 => ?_) (fun s3 h3 hI3 => ?_)
  · have hr2 := rangeI_get hx2
    have hw := hI2.1
    refine sx_ifj (fun (s5 : (List Phr)) => [.is a_text, .is a_sources, .own s5, .is x2_place, .no]) (tx_isNO (px_ixL (.is _) (px_var 1 rfl) (px_var 3 rfl) (by first | (constructor <;> omega) | (have tc_ := tc (by first | assumption | exact Bool.eq_false_iff.mpr (by assumption)); constructor <;> omega) | (have tp_ := tp (by assumption); constructor <;> omega) | (simp only [Bool.and_eq_true, Bool.or_eq_true, Bool.not_eq_true', Bool.and_eq_false_iff, Bool.or_eq_false_iff, Bool.not_eq_false', decide_eq_true_eq, decide_eq_false_iff_not, Classical.not_not] at *; constructor <;> omega) | (simp only [Bool.and_eq_true, Bool.or_eq_true, Bool.not_eq_true', Bool.and_eq_false_iff, Bool.or_eq_false_iff, Bool.not_eq_false', decide_eq_true_eq, decide_eq_false_iff_not, Classical.not_not, lt, List.length_cons, List.length_nil, List.length_append, List.length_map, List.length_reverse, List.length_set, rangeI_length] at *; constructor <;> omega)))) (fun hc5 => ?_) (fun hc5 => ?_) (fun s5 h5 => ?_)
    · try simp only [Bool.and_eq_true, Bool.or_eq_true, Bool.not_eq_true', Bool.and_eq_false_iff, Bool.or_eq_false_iff, Bool.not_eq_false', decide_eq_true_eq, decide_eq_false_iff_not, Classical.not_not] at hc5
      refine sx_app 2 rfl (phr_of_pair (px_pair (ax_cons (px_str (by decide +kernel)) (ax_cons (px_ixL (.is _) (px_var 0 rfl) (px_var 3 rfl) (by first | (constructor <;> omega) | (have tc_ := tc (by first | assumption | exact Bool.eq_false_iff.mpr (by assumption)); constructor <;> omega) | (have tp_ := tp (by assumption); constructor <;> omega) | (simp only [Bool.and_eq_true, Bool.or_eq_true, Bool.not_eq_true', Bool.and_eq_false_iff, Bool.or_eq_false_iff, Bool.not_eq_false', decide_eq_true_eq, decide_eq_false_iff_not, Classical.not_not] at *; constructor <;> omega) | (simp only [Bool.and_eq_true, Bool.or_eq_true, Bool.not_eq_true', Bool.and_eq_false_iff, Bool.or_eq_false_iff, Bool.not_eq_false', decide_eq_true_eq, decide_eq_false_iff_not, Classical.not_not, lt, List.length_cons, List.length_nil, List.length_append, List.length_map, List.length_reverse, List.length_set, rangeI_length] at *; constructor <;> omega))) ax_nil)))) (by exact Nat.lt_of_le_of_lt (show _ ≤ 100000 by first | omega | (have tc_ := tc (by first | assumption | exact Bool.eq_false_iff.mpr (by assumption)); omega) | (have tp_ := tp (by assumption); omega) | (simp only [Bool.and_eq_true, Bool.or_eq_true, Bool.not_eq_true', Bool.and_eq_false_iff, Bool.or_eq_false_iff, Bool.not_eq_false', decide_eq_true_eq, decide_eq_false_iff_not, Classical.not_not] at *; omega) | (simp only [Bool.and_eq_true, Bool.or_eq_true, Bool.not_eq_true', Bool.and_eq_false_iff, Bool.or_eq_false_iff, Bool.not_eq_false', decide_eq_true_eq, decide_eq_false_iff_not, Classical.not_not, lt, List.length_cons, List.length_nil, List.length_append, List.length_map, List.length_reverse, List.length_set, rangeI_length] at *; omega)) (by decide)) (fun v6_out h6 => ?_)
      exact sx_nil (sx_endN (.same (.same (.same (.same (.same .nil))))))
    · try simp only [Bool.and_eq_true, Bool.or_eq_true, Bool.not_eq_true', Bool.and_eq_false_iff, Bool.or_eq_false_iff, Bool.not_eq_false', decide_eq_true_eq, decide_eq_false_iff_not, Classical.not_not] at hc5
      refine sx_ifj (fun (s10 : (List Phr)) => [.is a_text, .is a_sources, .own s10, .is x2_place, .no]) (tx_w (wx_and (tx_gt (px_var 3 rfl) px_int) (fun hw8 => (wx_and (tx_notNO (px_ixL (.is _) (px_var 1 rfl) (px_sub (px_var 3 rfl) px_int) (by first | (constructor <;> omega) | (have tc_ := tc (by first | assumption | exact Bool.eq_false_iff.mpr (by assumption)); constructor <;> omega) | (have tp_ := tp (by assumption); constructor <;> omega) | (simp only [Bool.and_eq_true, Bool.or_eq_true, Bool.not_eq_true', Bool.and_eq_false_iff, Bool.or_eq_false_iff, Bool.not_eq_false', decide_eq_true_eq, decide_eq_false_iff_not, Classical.not_not] at *; constructor <;> omega) | (simp only [Bool.and_eq_true, Bool.or_eq_true, Bool.not_eq_true', Bool.and_eq_false_iff, Bool.or_eq_false_iff, Bool.not_eq_false', decide_eq_true_eq, decide_eq_false_iff_not, Classical.not_not, lt, List.length_cons, List.length_nil, List.length_append, List.length_map, List.length_reverse, List.length_set, rangeI_length] at *; constructor <;> omega)))) (fun hw7 => (wx_and1 (tx_eq (px_un (px_ixL (.is _) (px_var 1 rfl) (px_var 3 rfl) (by first | (constructor <;> omega) | (have tc_ := tc (by first | assumption | exact Bool.eq_false_iff.mpr (by assumption)); constructor <;> omega) | (have tp_ := tp (by assumption); constructor <;> omega) | (simp only [Bool.and_eq_true, Bool.or_eq_true, Bool.not_eq_true', Bool.and_eq_false_iff, Bool.or_eq_false_iff, Bool.not_eq_false', decide_eq_true_eq, decide_eq_false_iff_not, Classical.not_not] at *; constructor <;> omega) | (simp only [Bool.and_eq_true, Bool.or_eq_true, Bool.not_eq_true', Bool.and_eq_false_iff, Bool.or_eq_false_iff, Bool.not_eq_false', decide_eq_true_eq, decide_eq_false_iff_not, Classical.not_not, lt, List.length_cons, List.length_nil, List.length_append, List.length_map, List.length_reverse, List.length_set, rangeI_length] at *; constructor <;> omega))) (by first | assumption | (simp only [Bool.and_eq_true, Bool.or_eq_true, Bool.not_eq_true', Bool.and_eq_false_iff, Bool.or_eq_false_iff, Bool.not_eq_false', decide_eq_true_eq, decide_eq_false_iff_not, Classical.not_not] at *; first | assumption | simp_all))) (px_add (px_un (px_ixL (.is _) (px_var 1 rfl) (px_sub (px_var 3 rfl) px_int) (by first | (constructor <;> omega) | (have tc_ := tc (by first | assumption | exact Bool.eq_false_iff.mpr (by assumption)); constructor <;> omega) | (have tp_ := tp (by assumption); constructor <;> omega) | (simp only [Bool.and_eq_true, Bool.or_eq_true, Bool.not_eq_true', Bool.and_eq_false_iff, Bool.or_eq_false_iff, Bool.not_eq_false', decide_eq_true_eq, decide_eq_false_iff_not, Classical.not_not] at *; constructor <;> omega) | (simp only [Bool.and_eq_true, Bool.or_eq_true, Bool.not_eq_true', Bool.and_eq_false_iff, Bool.or_eq_false_iff, Bool.not_eq_false', decide_eq_true_eq, decide_eq_false_iff_not, Classical.not_not, lt, List.length_cons, List.length_nil, List.length_append, List.length_map, List.length_reverse, List.length_set, rangeI_length] at *; constructor <;> omega))) (by first | assumption | (simp only [Bool.and_eq_true, Bool.or_eq_true, Bool.not_eq_true', Bool.and_eq_false_iff, Bool.or_eq_false_iff, Bool.not_eq_false', decide_eq_true_eq, decide_eq_false_iff_not, Classical.not_not] at *; first | assumption | simp_all))) px_int)))))))) (fun hc10 => ?_) (fun hc10 => ?_) (fun s10 h10 => ?_)
      · try simp only [Bool.and_eq_true, Bool.or_eq_true, Bool.not_eq_true', Bool.and_eq_false_iff, Bool.or_eq_false_iff, Bool.not_eq_false', decide_eq_true_eq, decide_eq_false_iff_not, Classical.not_not] at hc10
        refine sx_pop 2 4 rfl (by exact (hI2.2 _ (by omega) (by omega) hc10.2.1).1) (fun v11_out v12_last h11 h12 => ?_) sc__law_woven.nd
        have hlp : v12_last.isPut = false := by rw [h12]; exact (hI2.2 _ (by omega) (by omega) hc10.2.1).2
        have hdl : v11_out.length ≤ 128 := by rw [h11, List.length_dropLast]; omega
        refine sx_app 2 rfl (phr_of_t3 (px_t3 (ax_cons (px_str (by decide +kernel)) (ax_cons (px_phStart (px_var 4 rfl) px_int (by first | assumption | (simp only [Bool.and_eq_true, Bool.or_eq_true, Bool.not_eq_true', Bool.and_eq_false_iff, Bool.or_eq_false_iff, Bool.not_eq_false', decide_eq_true_eq, decide_eq_false_iff_not, Classical.not_not] at *; first | assumption | simp_all))) (ax_cons (px_add (px_phLen (px_var 4 rfl) px_int (by first | assumption | (simp only [Bool.and_eq_true, Bool.or_eq_true, Bool.not_eq_true', Bool.and_eq_false_iff, Bool.or_eq_false_iff, Bool.not_eq_false', decide_eq_true_eq, decide_eq_false_iff_not, Classical.not_not] at *; first | assumption | simp_all))) px_int) ax_nil))))) (by exact Nat.lt_of_le_of_lt (show _ ≤ 100000 by first | omega | (have tc_ := tc (by first | assumption | exact Bool.eq_false_iff.mpr (by assumption)); omega) | (have tp_ := tp (by assumption); omega) | (simp only [Bool.and_eq_true, Bool.or_eq_true, Bool.not_eq_true', Bool.and_eq_false_iff, Bool.or_eq_false_iff, Bool.not_eq_false', decide_eq_true_eq, decide_eq_false_iff_not, Classical.not_not] at *; omega) | (simp only [Bool.and_eq_true, Bool.or_eq_true, Bool.not_eq_true', Bool.and_eq_false_iff, Bool.or_eq_false_iff, Bool.not_eq_false', decide_eq_true_eq, decide_eq_false_iff_not, Classical.not_not, lt, List.length_cons, List.length_nil, List.length_append, List.length_map, List.length_reverse, List.length_set, rangeI_length] at *; omega)) (by decide)) (fun v13_out h13 => ?_)
        exact sx_nil (sx_endN (.same (.same (.same (.same (.drop .nil))))))
      · try simp only [Bool.and_eq_true, Bool.or_eq_true, Bool.not_eq_true', Bool.and_eq_false_iff, Bool.or_eq_false_iff, Bool.not_eq_false', decide_eq_true_eq, decide_eq_false_iff_not, Classical.not_not] at hc10
        refine sx_app 2 rfl (phr_of_t3 (px_t3 (ax_cons (px_str (by decide +kernel)) (ax_cons (px_un (px_ixL (.is _) (px_var 1 rfl) (px_var 3 rfl) (by first | (constructor <;> omega) | (have tc_ := tc (by first | assumption | exact Bool.eq_false_iff.mpr (by assumption)); constructor <;> omega) | (have tp_ := tp (by assumption); constructor <;> omega) | (simp only [Bool.and_eq_true, Bool.or_eq_true, Bool.not_eq_true', Bool.and_eq_false_iff, Bool.or_eq_false_iff, Bool.not_eq_false', decide_eq_true_eq, decide_eq_false_iff_not, Classical.not_not] at *; constructor <;> omega) | (simp only [Bool.and_eq_true, Bool.or_eq_true, Bool.not_eq_true', Bool.and_eq_false_iff, Bool.or_eq_false_iff, Bool.not_eq_false', decide_eq_true_eq, decide_eq_false_iff_not, Classical.not_not, lt, List.length_cons, List.length_nil, List.length_append, List.length_map, List.length_reverse, List.length_set, rangeI_length] at *; constructor <;> omega))) (by first | assumption | (simp only [Bool.and_eq_true, Bool.or_eq_true, Bool.not_eq_true', Bool.and_eq_false_iff, Bool.or_eq_false_iff, Bool.not_eq_false', decide_eq_true_eq, decide_eq_false_iff_not, Classical.not_not] at *; first | assumption | simp_all))) (ax_cons px_int ax_nil))))) (by exact Nat.lt_of_le_of_lt (show _ ≤ 100000 by first | omega | (have tc_ := tc (by first | assumption | exact Bool.eq_false_iff.mpr (by assumption)); omega) | (have tp_ := tp (by assumption); omega) | (simp only [Bool.and_eq_true, Bool.or_eq_true, Bool.not_eq_true', Bool.and_eq_false_iff, Bool.or_eq_false_iff, Bool.not_eq_false', decide_eq_true_eq, decide_eq_false_iff_not, Classical.not_not] at *; omega) | (simp only [Bool.and_eq_true, Bool.or_eq_true, Bool.not_eq_true', Bool.and_eq_false_iff, Bool.or_eq_false_iff, Bool.not_eq_false', decide_eq_true_eq, decide_eq_false_iff_not, Classical.not_not, lt, List.length_cons, List.length_nil, List.length_append, List.length_map, List.length_reverse, List.length_set, rangeI_length] at *; omega)) (by decide)) (fun v14_out h14 => ?_)
        exact sx_nil (sx_endN (.same (.same (.same (.same (.same .nil))))))
      exact sx_nil (sx_endN (.same (.same (.same (.same (.same .nil))))))
    exact sx_nil (sx_endN (.same (.same (.same (.drop (.same .nil))))))
  · have hr2 := rangeI_get hx2
    have hw := hI2.1
    exact (by
      dsimp only [lt]
      have hw := hI2.1
      refine if_ind (P := fun z : List Phr => WI a_sources (i2 + 1) z) (fun c => wi_put hI2 (by omega) c) (fun c => ?_)
      refine if_ind (P := fun z : List Phr => WI a_sources (i2 + 1) z) (fun c => ?_) (fun c => wi_copy hw)
      exact wi_copy (by rw [List.length_dropLast]; omega))
  exact sx_retV (mr := (fun r => r)) 2 rfl (rets_ret) rfl
/-- the sources of a phrase's positions, and the letters of its puts -/
def srcOf : Phr → List (Option Int)
  | .put _ => [none]
  | .copy s l => (rangeI 0 l.toNat).map fun i => some (s + i)
def letOf : Phr → List (List Nat)
  | .put c => [c]
  | .copy _ l => List.replicate l.toNat []
def srcP (ps : List Phr) : List (Option Int) := (ps.map srcOf).flatten
def letP (ps : List Phr) : List (List Nat) := (ps.map letOf).flatten
theorem srcP_app (ps qs : List Phr) : srcP (ps ++ qs) = srcP ps ++ srcP qs := by
  unfold srcP
  rw [List.map_append, List.flatten_append]
theorem letP_app (ps qs : List Phr) : letP (ps ++ qs) = letP ps ++ letP qs := by
  unfold letP
  rw [List.map_append, List.flatten_append]
theorem srcP_one (p : Phr) : srcP [p] = srcOf p := by
  unfold srcP
  simp
theorem letP_one (p : Phr) : letP [p] = letOf p := by
  unfold letP
  simp
theorem rangeI_succ (a : Int) (n : Nat) : rangeI a (n + 1) = rangeI a n ++ [a + n] := by
  refine List.ext_getElem? fun i => ?_
  by_cases h : i < n
  · rw [List.getElem?_append_left (by rw [rangeI_length]; exact h)]
    have e1 := List.getElem?_eq_getElem (l := rangeI a (n + 1)) (i := i) (by rw [rangeI_length]; omega)
    have e2 := List.getElem?_eq_getElem (l := rangeI a n) (i := i) (by rw [rangeI_length]; omega)
    rw [e1, e2, (rangeI_get e1).2, (rangeI_get e2).2]
  · by_cases h2 : i = n
    · subst h2
      have e1 := List.getElem?_eq_getElem (l := rangeI a (i + 1)) (i := i) (by rw [rangeI_length]; omega)
      rw [List.getElem?_append_right (by rw [rangeI_length]; exact Nat.le_refl _), rangeI_length, Nat.sub_self, e1, (rangeI_get e1).2]
      rfl
    · rw [List.getElem?_eq_none (by rw [rangeI_length]; omega), List.getElem?_eq_none (by rw [List.length_append, rangeI_length]; simp; omega)]
theorem srcOf_succ (s : Int) {l : Int} (h : 0 ≤ l) : srcOf (.copy s (l + 1)) = srcOf (.copy s l) ++ [some (s + l)] := by
  show (rangeI 0 (l + 1).toNat).map _ = (rangeI 0 l.toNat).map _ ++ _
  have e : (l + 1).toNat = l.toNat + 1 := by omega
  rw [e, rangeI_succ, List.map_append]
  show _ ++ [some (s + (0 + (l.toNat : Int)))] = _
  have e2 : (0 : Int) + (l.toNat : Int) = l := by omega
  rw [e2]
theorem srcOf_1 (v : Int) : srcOf (.copy v 1) = [some v] := by
  have h := srcOf_succ v (Int.le_refl 0)
  rw [show (0 : Int) + 1 = 1 from rfl] at h
  rw [h]
  show [some (v + 0)] = _
  rw [Int.add_zero]
theorem letOf_succ (s s2 : Int) {l : Int} (h : 0 ≤ l) : letOf (.copy s (l + 1)) = letOf (.copy s2 l) ++ [[]] := by
  show List.replicate (l + 1).toNat _ = List.replicate l.toNat _ ++ _
  have e : (l + 1).toNat = l.toNat + 1 := by omega
  rw [e, List.replicate_succ']
theorem srcOf_len {p : Phr} (h : okP p) : ((srcOf p).length : Int) = manyP p := by
  cases p with
  | put c => rfl
  | copy s l =>
    show (((rangeI 0 l.toNat).map _).length : Int) = l
    rw [List.length_map, rangeI_length]
    have := h.2
    omega
theorem letOf_len {p : Phr} (h : okP p) : ((letOf p).length : Int) = manyP p := by
  cases p with
  | put c => rfl
  | copy s l =>
    show ((List.replicate l.toNat _).length : Int) = l
    rw [List.length_replicate]
    have := h.2
    omega
theorem srcP_len : ∀ {ps : List Phr}, (∀ p ∈ ps, okP p) → ((srcP ps).length : Int) = totP ps
  | [], _ => rfl
  | p :: ps, h => by
    have h1 := srcOf_len (h p List.mem_cons_self)
    have h2 := srcP_len (ps := ps) fun q hq => h q (List.mem_cons_of_mem _ hq)
    rw [show p :: ps = [p] ++ ps from rfl, srcP_app, srcP_one, List.length_append]
    show _ = manyP p + totP ps
    omega
theorem letP_len : ∀ {ps : List Phr}, (∀ p ∈ ps, okP p) → ((letP ps).length : Int) = totP ps
  | [], _ => rfl
  | p :: ps, h => by
    have h1 := letOf_len (h p List.mem_cons_self)
    have h2 := letP_len (ps := ps) fun q hq => h q (List.mem_cons_of_mem _ hq)
    rw [show p :: ps = [p] ++ ps from rfl, letP_app, letP_one, List.length_append]
    show _ = manyP p + totP ps
    omega
/-- the cut press: behind k positions of the phrase x, which is the n-th -/
def CI (ps : List Phr) (n : Nat) (x : Phr) (k : Nat) (out : List Phr) : Prop :=
  (∀ p ∈ out, okP p) ∧ totP out = totP (ps.take n) + k ∧ srcP out = srcP (ps.take n) ++ (srcOf x).take k ∧ letP out = letP (ps.take n) ++ (letOf x).take k ∧ (∀ p ∈ out, p.isPut = false → p.start + p.len ≤ totP ps) ∧ (x.isPut = false → 0 < k → ∃ o s l, out = o ++ [.copy s l] ∧ s + l = x.start + k)
def CO (ps : List Phr) (n : Nat) (st : List Phr × Int) : Prop := st.2 = totP (ps.take n) ∧ CI ps n (.put []) 0 st.1
theorem ci_0 {ps : List Phr} {n : Nat} {x : Phr} {st : List Phr × Int} (h : CO ps n st) : CI ps n x 0 st.1 := by
  obtain ⟨_, h1, h2, h3, h4, h5, h6⟩ := h
  exact ⟨h1, h2, by rw [h3]; rfl, by rw [h4]; rfl, h5, fun _ z => absurd z (Nat.lt_irrefl _)⟩
theorem ci_len {ps : List Phr} {n k : Nat} {x : Phr} {out : List Phr} (h : CI ps n x k out) : (out.length : Int) ≤ totP (ps.take n) + k := by
  have := len_le_tot h.1
  have := h.2.1
  omega
theorem ci_last {ps : List Phr} {n k : Nat} {x : Phr} {out : List Phr} (h : CI ps n x k out) (hx : x.isPut = false) (hk : 0 < k) : 0 < out.length ∧ (ix out (-1)).isPut = false := by
  obtain ⟨o, s, l, e, _⟩ := h.2.2.2.2.2 hx hk
  subst e
  rw [ix_snoc, List.length_append]
  exact ⟨Nat.succ_pos _, rfl⟩
theorem take_snoc {α : Type} {xs : List α} {k : Nat} {x : α} (h : xs[k]? = some x) : xs.take (k + 1) = xs.take k ++ [x] := by
  rw [List.take_succ, h]
  rfl
theorem srcOf_get {s l : Int} {k : Nat} (h : (k : Int) < l) : (srcOf (.copy s l))[k]? = some (some (s + k)) := by
  show ((rangeI 0 l.toNat).map fun i => some (s + i))[k]? = _
  have e := List.getElem?_eq_getElem (l := rangeI 0 l.toNat) (i := k) (by rw [rangeI_length]; omega)
  rw [List.getElem?_map, e, (rangeI_get e).2]
  simp
theorem letOf_get {s l : Int} {k : Nat} (h : (k : Int) < l) : (letOf (.copy s l))[k]? = some [] := by
  show (List.replicate l.toNat _)[k]? = _
  rw [List.getElem?_replicate, if_pos (by omega)]
theorem ci_put {ps : List Phr} {n k : Nat} {x : Phr} {out : List Phr} (h : CI ps n x k out) (hx : x.isPut = true) (ho : okP x) (hk : (k : Int) < manyP x) : CI ps n x (k + 1) (out ++ [x]) := by
  obtain ⟨h1, h2, h3, h4, h5, h6⟩ := h
  cases x with
  | copy s l => cases hx
  | put c =>
    have hk : (k : Int) < 1 := hk
    have hk0 : k = 0 := by omega
    subst hk0
    refine ⟨fun p hp => ?_, ?_, ?_, ?_, fun p hp => ?_, fun z => by cases z⟩
    · rcases List.mem_append.mp hp with z | z
      · exact h1 p z
      · rw [List.mem_singleton.mp z]; exact ho
    · rw [tot_app, h2]; show _ + 0 + (1 + 0) = _ + (0 + 1 : Int); omega
    · rw [srcP_app, h3, srcP_one]; simp [srcOf]
    · rw [letP_app, h4, letP_one]; simp [letOf]
    · rcases List.mem_append.mp hp with z | z
      · exact h5 p z
      · rw [List.mem_singleton.mp z]; intro q; cases q
theorem ci_new {ps : List Phr} {n k : Nat} {x : Phr} {out : List Phr} {v : Int} (h : CI ps n x k out) (hx : x.isPut = false) (ho : okP x) (hk : (k : Int) < manyP x) (hb : x.start + x.len ≤ totP ps) (hv : v = x.start + k) : CI ps n x (k + 1) (out ++ [.copy v 1]) := by
  subst hv
  obtain ⟨h1, h2, h3, h4, h5, h6⟩ := h
  cases x with
  | put c => cases hx
  | copy s l =>
    have hk : (k : Int) < l := hk
    have hb : s + l ≤ totP ps := hb
    have h0 : 0 ≤ s := ho.1
    refine ⟨fun p hp => ?_, ?_, ?_, ?_, fun p hp => ?_, fun _ _ => ⟨out, _, _, rfl, ?_⟩⟩
    · rcases List.mem_append.mp hp with z | z
      · exact h1 p z
      · rw [List.mem_singleton.mp z]
        refine ⟨?_, Int.le_refl _⟩
        show 0 ≤ s + (k : Int)
        omega
    · rw [tot_app, h2]; show _ + (k : Int) + (1 + 0) = _ + ((k + 1 : Nat) : Int); omega
    · rw [srcP_app, h3, srcP_one, take_snoc (srcOf_get hk), ← List.append_assoc]
      rw [srcOf_1]
      rfl
    · rw [letP_app, h4, letP_one, take_snoc (letOf_get hk), ← List.append_assoc]
      rfl
    · rcases List.mem_append.mp hp with z | z
      · exact h5 p z
      · rw [List.mem_singleton.mp z]
        intro _
        show s + (k : Int) + 1 ≤ _
        omega
    · show s + (k : Int) + 1 = s + ((k + 1 : Nat) : Int)
      omega
theorem ci_more {ps : List Phr} {n k : Nat} {x : Phr} {out : List Phr} (h : CI ps n x k out) (hx : x.isPut = false) (ho : okP x) (hk : (k : Int) < manyP x) (hb : x.start + x.len ≤ totP ps) (h0 : 0 < k) : CI ps n x (k + 1) (out.dropLast ++ [.copy (ix out (-1)).start ((ix out (-1)).len + 1)]) := by
  obtain ⟨h1, h2, h3, h4, h5, h6⟩ := h
  cases x with
  | put c => cases hx
  | copy s l =>
    obtain ⟨o, t, m, e, hm⟩ := h6 rfl h0
    subst e
    have hm : t + m = s + (k : Int) := hm
    have hk : (k : Int) < l := hk
    have hb : s + l ≤ totP ps := hb
    have ok := h1 (.copy t m) (List.mem_append_right _ List.mem_cons_self)
    have ok1 : 0 ≤ t := ok.1
    have ok2 : 1 ≤ m := ok.2
    rw [ix_snoc, List.dropLast_concat]
    show CI ps n (.copy s l) (k + 1) (o ++ [.copy t (m + 1)])
    refine ⟨fun p hp => ?_, ?_, ?_, ?_, fun p hp => ?_, fun _ _ => ⟨o, _, _, rfl, ?_⟩⟩
    · rcases List.mem_append.mp hp with z | z
      · exact h1 p (List.mem_append_left _ z)
      · rw [List.mem_singleton.mp z]
        refine ⟨ok1, ?_⟩
        show 1 ≤ m + 1
        omega
    · rw [tot_app] at h2 ⊢
      have h2 : totP o + (m + 0) = totP (ps.take n) + (k : Int) := h2
      show totP o + (m + 1 + 0) = _ + ((k + 1 : Nat) : Int)
      omega
    · rw [srcP_app, srcP_one] at h3 ⊢
      rw [take_snoc (srcOf_get hk), ← List.append_assoc, ← h3, srcOf_succ t (by omega), hm, List.append_assoc]
    · rw [letP_app, letP_one] at h4 ⊢
      rw [take_snoc (letOf_get hk), ← List.append_assoc, ← h4, letOf_succ t t (by omega), List.append_assoc]
    · rcases List.mem_append.mp hp with z | z
      · exact h5 p (List.mem_append_left _ z)
      · rw [List.mem_singleton.mp z]
        intro _
        show t + (m + 1) ≤ _
        omega
    · show t + (m + 1) = s + ((k + 1 : Nat) : Int)
      omega
theorem co_next {ps : List Phr} {n k : Nat} {x : Phr} {out : List Phr} {pl : Int} (h : CI ps n x k out) (ho : okP x) (hx : ps[n]? = some x) (hk : (k : Int) = manyP x) (hp : pl = totP (ps.take n) + manyP x) : CO ps (n + 1) (out, pl) := by
  obtain ⟨h1, h2, h3, h4, h5, h6⟩ := h
  have e1 := tot_take hx
  have a1 := srcOf_len ho
  have a2 := letOf_len ho
  refine ⟨by rw [e1]; exact hp, h1, ?_, ?_, ?_, h5, fun z => by cases z⟩
  · show totP out = _ + ((0 : Nat) : Int)
    omega
  · show srcP out = _ ++ []
    rw [h3, take_snoc hx, srcP_app, srcP_one, List.append_nil, List.take_of_length_le (l := srcOf x) (i := k) (by omega)]
  · show letP out = _ ++ []
    rw [h4, take_snoc hx, letP_app, letP_one, List.append_nil, List.take_of_length_le (l := letOf x) (i := k) (by omega)]
/-- as a cut press is -/
def SameP (ps qs : List Phr) : Prop := GoodP qs ∧ totP qs = totP ps ∧ srcP qs = srcP ps ∧ letP qs = letP ps
theorem co_end {ps : List Phr} {n : Nat} {st : List Phr × Int} (h : CO ps n st) (hg : GoodP ps) (hn : n = ps.length) : SameP ps st.1 := by
  obtain ⟨_, h1, h2, h3, h4, h5, h6⟩ := h
  subst hn
  rw [List.take_length] at h2 h3 h4
  have e : totP st.1 = totP ps := by omega
  refine ⟨⟨fun z => ?_, h1, by rw [e]; exact hg.2.2.1, fun p hp q => by rw [e]; exact h5 p hp q⟩, e, by rw [h3]; exact List.append_nil _, by rw [h4]; exact List.append_nil _⟩
  rw [z] at e
  have e : (0 : Int) = totP ps := e
  have := len_le_tot hg.2.1
  have : 0 < ps.length := List.length_pos_iff.mpr hg.1
  omega

def m__law_cut (a_phrases : (List Phr)) (a_marks : (List Int)) : (List Phr) :=
  lt ([] : List Phr) fun (v1_out : (List Phr)) => 
  lt (0 : Int) fun (v2_place : Int) => 
  lt (List.foldl (fun (s3 : (List Phr) × Int) (x3_phrase : Phr) => lt (List.foldl (fun (s5 : (List Phr)) (x5_i : Int) => lt (if x3_phrase.isPut = true then lt (s5 ++ [x3_phrase]) fun (v9_out : (List Phr)) => 
        v9_out else lt (if ((decide (x5_i = (0 : Int))) || (decide ((ix a_marks (s3.2 + x5_i)) = (0 : Int)))) = true then lt (s5 ++ [(Phr.copy (x3_phrase.start + x5_i) (1 : Int))]) fun (v13_out : (List Phr)) => 
          v13_out else lt s5.dropLast fun (v14_out : (List Phr)) => lt (ix s5 (-1)) fun (v15_last : Phr) => 
          lt (v14_out ++ [(Phr.copy v15_last.start (v15_last.len + (1 : Int)))]) fun (v16_out : (List Phr)) => 
          v16_out : (List Phr)) fun (s12 : (List Phr)) => 
        s12 : (List Phr)) fun (s8 : (List Phr)) => 
      s8) (s3.1 : (List Phr)) (rangeI 0 ((m__law_many x3_phrase)).toNat)) fun (s6 : (List Phr)) => 
    lt (s3.2 + (m__law_many x3_phrase)) fun (v17_place : Int) => 
    (s6, v17_place)) ((v1_out, v2_place) : (List Phr) × Int) a_phrases) fun (s4 : (List Phr) × Int) => 
  s4.1
abbrev s__law_cut : Stmt := topS 44
abbrev N__law_cut : List Str := ["phrases", "marks", "out", "place", "phrase", "i", "last"]
theorem sc__law_cut : FnScope N__law_cut ["phrases", "marks"] (defScope s__law_cut) := ⟨rfl, rfl, rfl, by decide +kernel, rfl, by decide +kernel, by decide +kernel⟩
abbrev Ok__law_cut (P : Program) (w : World) (K : PySem.W.Frag) (mg : Str → Option Value) (base : Heap) : Prop :=
  DefOk P w K mg base 2 "_law_cut" 2 (spD (ι := (List Phr) × (List Int)) K (fun i => GoodP i.1 ∧ totP i.1 ≤ i.2.length) (fun i => [.is i.1, .is i.2]) (fun i => .own (m__law_cut i.1 i.2)))
theorem ok__law_cut {P : Program} {w : World} {K : PySem.W.Frag} {mg : Str → Option Value} {base : Heap} {f : Addr} {fd : FuncData} (F : Fun K "_law_cut" "_law_cut" s__law_cut f fd) (hm : mg "_law_cut" = some (.ref f)) (bd : Binds K fd ["phrases", "marks"] []) (T : Bt mg) (D__law_many : Ok__law_many P w K mg base) : Ok__law_cut P w K mg base := by
  refine defOk (kk := 1) (R := (List Phr)) F hm sc__law_cut bd _ _ (fun r => .own r) _ (fun _ => rfl) (fun i hp cdv A outer s H E hr => ?_)
  obtain ⟨a_phrases, a_marks⟩ := i
  have hp : GoodP a_phrases ∧ totP a_phrases ≤ a_marks.length := hp
  obtain ⟨hp, hpm⟩ := hp
  show SX _ _ [.is a_phrases, .is a_marks, .no, .no, .no, .no, .no] _ (m__law_cut a_phrases a_marks)
  unfold m__law_cut
  refine sx_setO 2 (px_list ([] : List Phr) ax_nil) (fun v1_out h1 => ?_) sc__law_cut.nd
  refine sx_set 3 px_int (fun v2_place h2 => ?_) sc__law_cut.nd
  refine sx_forF 4 (fun (s3 : (List Phr) × Int) => [.is a_phrases, .is a_marks, .own s3.1, .is s3.2, .no, .no, .no]) _ ((v1_out, v2_place) : (List Phr) × Int) (fun i (s : List Phr × Int) => CO a_phrases i s) (it_list (px_var 0 rfl)) (pg_name (i := 4) sc__law_cut.nd rfl (by first | exact Or.inl rfl | exact Or.inr rfl)) (.same (.same (.same (.same (.same (.same (.same .nil))))))) (by rw [h1, h2]; exact ⟨rfl, by simp, rfl, rfl, rfl, by simp, fun z => by cases z⟩) (fun i3 s3 x3_phrase hx3 hI3 => ?_) (fun i3 s3 x3_phrase hx3 hI3 => ?_) (fun s4 h4 hI4 => ?_)
  · have hm3 := List.mem_of_getElem? hx3
    have tb := tot_bd hp hx3
    have tc := tc_of hp hx3
    have tp := tp_of (x := x3_phrase)
    have tm := many_is x3_phrase
    have ho : okP x3_phrase := hp.2.1 _ (List.mem_of_getElem? hx3)
    have tt := tot_take_le hp.2.1 (i3 + 1)
    have tI := hI3.1
    refine sx_forF 5 (fun (s5 : (List Phr)) => [.is a_phrases, .is a_marks, .own s5, .is s3.2, .is x3_phrase, .no, .no]) _ (s3.1 : (List Phr)) (fun i (s : List Phr) => CI a_phrases i3 x3_phrase i s) (it_range1 T.range_ (px_callS D__law_many x3_phrase (by trivial) (hr.mono (by decide)) (ax_cons (px_var 4 rfl) ax_nil) (.is .nil)) (by first | (constructor <;> omega) | (have tc_ := tc (by first | assumption | exact Bool.eq_false_iff.mpr (by assumption)); constructor <;> omega) | (have tp_ := tp (by assumption); constructor <;> omega) | (simp only [Bool.and_eq_true, Bool.or_eq_true, Bool.not_eq_true', Bool.and_eq_false_iff, Bool.or_eq_false_iff, Bool.not_eq_false', decide_eq_true_eq, decide_eq_false_iff_not, Classical.not_not] at *; constructor <;> omega) | (simp only [Bool.and_eq_true, Bool.or_eq_true, Bool.not_eq_true', Bool.and_eq_false_iff, Bool.or_eq_false_iff, Bool.not_eq_false', decide_eq_true_eq, decide_eq_false_iff_not, Classical.not_not, lt, List.length_cons, List.length_nil, List.length_append, List.length_map, List.length_reverse, List.length_set, rangeI_length] at *; constructor <;> omega))) (pg_name (i := 5) sc__law_cut.nd rfl (by first | exact Or.inl rfl | exact Or.inr rfl)) (.same (.same (.same (.same (.same (.same (.same .nil))))))) (ci_0 hI3) (fun i5 s5 x5_i hx5 hI5 => ?_) (fun i5 s5 x5_i hx5 hI5 => ?_) (fun s6 h6 hI6 => ?_)
    · have hr5 := rangeI_get hx5
      have tJ := ci_len hI5
      have hk : (i5 : Int) < manyP x3_phrase := by have := rangeI_get hx5; omega
      refine sx_ifj (fun (s8 : (List Phr)) => [.is a_phrases, .is a_marks, .own s8, .is s3.2, .is x3_phrase, .is x5_i, .no]) (tx_isPut (px_var 4 rfl)) (fun hc8 => ?_) (fun hc8 => ?_) (fun s8 h8 => ?_)
      · try simp only [Bool.and_eq_true, Bool.or_eq_true, Bool.not_eq_true', Bool.and_eq_false_iff, Bool.or_eq_false_iff, Bool.not_eq_false', decide_eq_true_eq, decide_eq_false_iff_not, Classical.not_not] at hc8
        refine sx_app 2 rfl (px_var 4 rfl) (by exact Nat.lt_of_le_of_lt (show _ ≤ 100000 by first | omega | (have tc_ := tc (by first | assumption | exact Bool.eq_false_iff.mpr (by assumption)); omega) | (have tp_ := tp (by assumption); omega) | (simp only [Bool.and_eq_true, Bool.or_eq_true, Bool.not_eq_true', Bool.and_eq_false_iff, Bool.or_eq_false_iff, Bool.not_eq_false', decide_eq_true_eq, decide_eq_false_iff_not, Classical.not_not] at *; omega) | (simp only [Bool.and_eq_true, Bool.or_eq_true, Bool.not_eq_true', Bool.and_eq_false_iff, Bool.or_eq_false_iff, Bool.not_eq_false', decide_eq_true_eq, decide_eq_false_iff_not, Classical.not_not, lt, List.length_cons, List.length_nil, List.length_append, List.length_map, List.length_reverse, List.length_set, rangeI_length] at *; omega)) (by decide)) (fun v9_out h9 => ?_)
        exact sx_nil (sx_endN (.same (.same (.same (.same (.same (.same (.same .nil))))))))
      · try simp only [Bool.and_eq_true, Bool.or_eq_true, Bool.not_eq_true', Bool.and_eq_false_iff, Bool.or_eq_false_iff, Bool.not_eq_false', decide_eq_true_eq, decide_eq_false_iff_not, Classical.not_not] at hc8
        refine sx_ifj (fun (s12 : (List Phr)) => [.is a_phrases, .is a_marks, .own s12, .is s3.2, .is x3_phrase, .is x5_i, .no]) (tx_w (wx_or (tx_eq (px_var 5 rfl) px_int) (fun hw10 => (wx_or1 (tx_eq (px_ixL (.is _) (px_var 1 rfl) (px_add (px_var 3 rfl) (px_var 5 rfl)) (by first | (constructor <;> omega) | (have tc_ := tc (by first | assumption | exact Bool.eq_false_iff.mpr (by assumption)); constructor <;> omega) | (have tp_ := tp (by assumption); constructor <;> omega) | (simp only [Bool.and_eq_true, Bool.or_eq_true, Bool.not_eq_true', Bool.and_eq_false_iff, Bool.or_eq_false_iff, Bool.not_eq_false', decide_eq_true_eq, decide_eq_false_iff_not, Classical.not_not] at *; constructor <;> omega) | (simp only [Bool.and_eq_true, Bool.or_eq_true, Bool.not_eq_true', Bool.and_eq_false_iff, Bool.or_eq_false_iff, Bool.not_eq_false', decide_eq_true_eq, decide_eq_false_iff_not, Classical.not_not, lt, List.length_cons, List.length_nil, List.length_append, List.length_map, List.length_reverse, List.length_set, rangeI_length] at *; constructor <;> omega))) px_int))))) (fun hc12 => ?_) (fun hc12 => ?_) (fun s12 h12 => ?_)
        · try simp only [Bool.and_eq_true, Bool.or_eq_true, Bool.not_eq_true', Bool.and_eq_false_iff, Bool.or_eq_false_iff, Bool.not_eq_false', decide_eq_true_eq, decide_eq_false_iff_not, Classical.not_not] at hc12
          refine sx_app 2 rfl (phr_of_t3 (px_t3 (ax_cons (px_str (by decide +kernel)) (ax_cons (px_add (px_phStart (px_var 4 rfl) px_int (by first | assumption | (simp only [Bool.and_eq_true, Bool.or_eq_true, Bool.not_eq_true', Bool.and_eq_false_iff, Bool.or_eq_false_iff, Bool.not_eq_false', decide_eq_true_eq, decide_eq_false_iff_not, Classical.not_not] at *; first | assumption | simp_all))) (px_var 5 rfl)) (ax_cons px_int ax_nil))))) (by exact Nat.lt_of_le_of_lt (show _ ≤ 100000 by first | omega | (have tc_ := tc (by first | assumption | exact Bool.eq_false_iff.mpr (by assumption)); omega) | (have tp_ := tp (by assumption); omega) | (simp only [Bool.and_eq_true, Bool.or_eq_true, Bool.not_eq_true', Bool.and_eq_false_iff, Bool.or_eq_false_iff, Bool.not_eq_false', decide_eq_true_eq, decide_eq_false_iff_not, Classical.not_not] at *; omega) | (simp only [Bool.and_eq_true, Bool.or_eq_true, Bool.not_eq_true', Bool.and_eq_false_iff, Bool.or_eq_false_iff, Bool.not_eq_false', decide_eq_true_eq, decide_eq_false_iff_not, Classical.not_not, lt, List.length_cons, List.length_nil, List.length_append, List.length_map, List.length_reverse, List.length_set, rangeI_length] at *; omega)) (by decide)) (fun v13_out h13 => ?_)
          exact sx_nil (sx_endN (.same (.same (.same (.same (.same (.same (.same .nil))))))))
        · try simp only [Bool.and_eq_true, Bool.or_eq_true, Bool.not_eq_true', Bool.and_eq_false_iff, Bool.or_eq_false_iff, Bool.not_eq_false', decide_eq_true_eq, decide_eq_false_iff_not, Classical.not_not] at hc12
          refine sx_pop 2 6 rfl (by exact (ci_last hI5 hc8 (by omega)).1) (fun v14_out v15_last h14 h15 => ?_) sc__law_cut.nd
          have hlp : v15_last.isPut = false := by rw [h15]; exact (ci_last hI5 hc8 (by omega)).2
          have hdl : v14_out.length ≤ 128 := by rw [h14, List.length_dropLast]; omega
          refine sx_app 2 rfl (phr_of_t3 (px_t3 (ax_cons (px_str (by decide +kernel)) (ax_cons (px_phStart (px_var 6 rfl) px_int (by first | assumption | (simp only [Bool.and_eq_true, Bool.or_eq_true, Bool.not_eq_true', Bool.and_eq_false_iff, Bool.or_eq_false_iff, Bool.not_eq_false', decide_eq_true_eq, decide_eq_false_iff_not, Classical.not_not] at *; first | assumption | simp_all))) (ax_cons (px_add (px_phLen (px_var 6 rfl) px_int (by first | assumption | (simp only [Bool.and_eq_true, Bool.or_eq_true, Bool.not_eq_true', Bool.and_eq_false_iff, Bool.or_eq_false_iff, Bool.not_eq_false', decide_eq_true_eq, decide_eq_false_iff_not, Classical.not_not] at *; first | assumption | simp_all))) px_int) ax_nil))))) (by exact Nat.lt_of_le_of_lt (show _ ≤ 100000 by first | omega | (have tc_ := tc (by first | assumption | exact Bool.eq_false_iff.mpr (by assumption)); omega) | (have tp_ := tp (by assumption); omega) | (simp only [Bool.and_eq_true, Bool.or_eq_true, Bool.not_eq_true', Bool.and_eq_false_iff, Bool.or_eq_false_iff, Bool.not_eq_false', decide_eq_true_eq, decide_eq_false_iff_not, Classical.not_not] at *; omega) | (simp only [Bool.and_eq_true, Bool.or_eq_true, Bool.not_eq_true', Bool.and_eq_false_iff, Bool.or_eq_false_iff, Bool.not_eq_false', decide_eq_true_eq, decide_eq_false_iff_not, Classical.not_not, lt, List.length_cons, List.length_nil, List.length_append, List.length_map, List.length_reverse, List.length_set, rangeI_length] at *; omega)) (by decide)) (fun v16_out h16 => ?_)
          exact sx_nil (sx_endN (.same (.same (.same (.same (.same (.same (.drop .nil))))))))
        exact sx_nil (sx_endN (.same (.same (.same (.same (.same (.same (.same .nil))))))))
      exact sx_nil (sx_endN (.same (.same (.same (.same (.same (.drop (.same .nil))))))))
    · have hr5 := rangeI_get hx5
      have tJ := ci_len hI5
      have hk : (i5 : Int) < manyP x3_phrase := by have := rangeI_get hx5; omega
      exact (by
      have hk : (i5 : Int) < manyP x3_phrase := by have := rangeI_get hx5; omega
      have hk5 : x5_i = (i5 : Int) := by have := rangeI_get hx5; omega
      try dsimp only [lt]
      refine if_ind (P := fun z => CI a_phrases i3 x3_phrase (i5 + 1) z) (fun c => ci_put hI5 c ho hk) (fun c => ?_)
      refine if_ind (P := fun z => CI a_phrases i3 x3_phrase (i5 + 1) z) (fun c2 => ci_new hI5 c ho hk (tc c).2.2.2 (by omega)) (fun c2 => ci_more hI5 c ho hk (tc c).2.2.2 (by simp only [Bool.and_eq_true, Bool.or_eq_true, Bool.not_eq_true', Bool.and_eq_false_iff, Bool.or_eq_false_iff, Bool.not_eq_false', decide_eq_true_eq, decide_eq_false_iff_not, Classical.not_not] at c2; omega)))
    refine sx_set 3 (px_add (px_var 3 rfl) (px_callS D__law_many x3_phrase (by trivial) (hr.mono (by decide)) (ax_cons (px_var 4 rfl) ax_nil) (.is .nil))) (fun v17_place h17 => ?_) sc__law_cut.nd
    exact sx_nil (sx_endN (.same (.same (.same (.same (.drop (.same (.same .nil))))))))
  · have hm3 := List.mem_of_getElem? hx3
    have tb := tot_bd hp hx3
    have tc := tc_of hp hx3
    have tp := tp_of (x := x3_phrase)
    have tm := many_is x3_phrase
    have ho : okP x3_phrase := hp.2.1 _ (List.mem_of_getElem? hx3)
    have tt := tot_take_le hp.2.1 (i3 + 1)
    have tI := hI3.1
    exact (by
      dsimp only [lt]
      refine co_next (k := (rangeI 0 (m__law_many x3_phrase).toNat).length) (foldl_ix (fun k out => CI a_phrases i3 x3_phrase k out) _ _ _ (ci_0 hI3) (fun i5 s5 x5_i hx5 hI5 => ?_)) ho hx3 (by rw [rangeI_length]; omega) (by omega)
      have hk : (i5 : Int) < manyP x3_phrase := by have := rangeI_get hx5; omega
      have hk5 : x5_i = (i5 : Int) := by have := rangeI_get hx5; omega
      try dsimp only [lt]
      refine if_ind (P := fun z => CI a_phrases i3 x3_phrase (i5 + 1) z) (fun c => ci_put hI5 c ho hk) (fun c => ?_)
      refine if_ind (P := fun z => CI a_phrases i3 x3_phrase (i5 + 1) z) (fun c2 => ci_new hI5 c ho hk (tc c).2.2.2 (by omega)) (fun c2 => ci_more hI5 c ho hk (tc c).2.2.2 (by simp only [Bool.and_eq_true, Bool.or_eq_true, Bool.not_eq_true', Bool.and_eq_false_iff, Bool.or_eq_false_iff, Bool.not_eq_false', decide_eq_true_eq, decide_eq_false_iff_not, Classical.not_not] at c2; omega)))
  exact sx_retV (mr := (fun r => r)) 2 rfl (rets_ret) rfl

def PP__law_cut (a_phrases : (List Phr)) (a_marks : (List Int)) (res : (List Phr)) : Prop := SameP a_phrases res
theorem post__law_cut (a_phrases : (List Phr)) (a_marks : (List Int)) (hp : GoodP a_phrases ∧ totP a_phrases ≤ a_marks.length) : PP__law_cut a_phrases a_marks (m__law_cut a_phrases a_marks) := by
  obtain ⟨hp, hpm⟩ := hp
  unfold m__law_cut
  refine lt_ind (P := PP__law_cut a_phrases a_marks) fun v1_out h1 => ?_
  refine lt_ind (P := PP__law_cut a_phrases a_marks) fun v2_place h2 => ?_
  refine lt_ind (P := PP__law_cut a_phrases a_marks) fun s4 h4 => ?_
  have hI4 := foldl_ix (fun i (s : List Phr × Int) => CO a_phrases i s) ((fun (s3 : (List Phr) × Int) (x3_phrase : Phr) => lt (List.foldl (fun (s5 : (List Phr)) (x5_i : Int) => lt (if x3_phrase.isPut = true then lt (s5 ++ [x3_phrase]) fun (v9_out : (List Phr)) => 
        v9_out else lt (if ((decide (x5_i = (0 : Int))) || (decide ((ix a_marks (s3.2 + x5_i)) = (0 : Int)))) = true then lt (s5 ++ [(Phr.copy (x3_phrase.start + x5_i) (1 : Int))]) fun (v13_out : (List Phr)) => 
          v13_out else lt s5.dropLast fun (v14_out : (List Phr)) => lt (ix s5 (-1)) fun (v15_last : Phr) => 
          lt (v14_out ++ [(Phr.copy v15_last.start (v15_last.len + (1 : Int)))]) fun (v16_out : (List Phr)) => 
          v16_out : (List Phr)) fun (s12 : (List Phr)) => 
        s12 : (List Phr)) fun (s8 : (List Phr)) => 
      s8) (s3.1 : (List Phr)) (rangeI 0 ((m__law_many x3_phrase)).toNat)) fun (s6 : (List Phr)) => 
    lt (s3.2 + (m__law_many x3_phrase)) fun (v17_place : Int) => 
    (s6, v17_place))) ((v1_out, v2_place) : (List Phr) × Int) a_phrases (by rw [h1, h2]; exact ⟨rfl, by simp, rfl, rfl, rfl, by simp, fun z => by cases z⟩) (fun i3 s3 x3_phrase hx3 hI3 => by
    have hm3 := List.mem_of_getElem? hx3
    have tb := tot_bd hp hx3
    have tc := tc_of hp hx3
    have tp := tp_of (x := x3_phrase)
    have tm := many_is x3_phrase
    have ho : okP x3_phrase := hp.2.1 _ (List.mem_of_getElem? hx3)
    have tt := tot_take_le hp.2.1 (i3 + 1)
    have tI := hI3.1
    (exact (by
      dsimp only [lt]
      refine co_next (k := (rangeI 0 (m__law_many x3_phrase).toNat).length) (foldl_ix (fun k out => CI a_phrases i3 x3_phrase k out) _ _ _ (ci_0 hI3) (fun i5 s5 x5_i hx5 hI5 => ?_)) ho hx3 (by rw [rangeI_length]; omega) (by omega)
      have hk : (i5 : Int) < manyP x3_phrase := by have := rangeI_get hx5; omega
      have hk5 : x5_i = (i5 : Int) := by have := rangeI_get hx5; omega
      try dsimp only [lt]
      refine if_ind (P := fun z => CI a_phrases i3 x3_phrase (i5 + 1) z) (fun c => ci_put hI5 c ho hk) (fun c => ?_)
      refine if_ind (P := fun z => CI a_phrases i3 x3_phrase (i5 + 1) z) (fun c2 => ci_new hI5 c ho hk (tc c).2.2.2 (by omega)) (fun c2 => ci_more hI5 c ho hk (tc c).2.2.2 (by simp only [Bool.and_eq_true, Bool.or_eq_true, Bool.not_eq_true', Bool.and_eq_false_iff, Bool.or_eq_false_iff, Bool.not_eq_false', decide_eq_true_eq, decide_eq_false_iff_not, Classical.not_not] at c2; omega)))))
  rw [← h4] at hI4
  show SameP a_phrases (s4.1)
  exact co_end hI4 hp rfl
theorem ne_len {α : Type} {xs : List α} (h : (!xs.isEmpty) = true) : 0 < xs.length := by
  cases xs with
  | nil => cases h
  | cons x xs => exact Nat.succ_pos _
theorem ne_len' {α : Type} {xs : List α} (h : xs.isEmpty = false) : 0 < xs.length := by
  cases xs with
  | nil => cases h
  | cons x xs => exact Nat.succ_pos _
theorem snoc_of {α : Type} [Inhabited α] {xs : List α} (h : 0 < xs.length) : xs = xs.dropLast ++ [ix xs (-1)] := by
  have hne : xs ≠ [] := List.length_pos_iff.mp h
  have e := (List.dropLast_concat_getLast hne).symm
  have e2 := ix_snoc xs.dropLast (xs.getLast hne)
  rw [← e] at e2
  rw [e2]
  exact e
theorem set_last {α : Type} (xs : List α) (x y : α) : (xs ++ [x]).set ((xs ++ [x]).length - 1) y = xs ++ [y] := by
  rw [List.length_append, List.length_singleton, Nat.add_sub_cancel, List.set_append_right _ _ (Nat.le_refl _), Nat.sub_self]
  rfl
/-- a phrase that follows in the tidied press -/
def tstep (out : List Phr) (p : Phr) : List Phr :=
  if ((!out.isEmpty) && (m__goes_on (ix out (-(1 : Int))) p)) = true then out.set (out.length - 1) (Phr.copy (ix out (-(1 : Int))).start ((ix out (-(1 : Int))).len + p.len)) else out ++ [p]
theorem goes_cases (out : List Phr) (p : Phr) : (∃ o s l m, out = o ++ [.copy s l] ∧ p = .copy (s + l) m ∧ tstep out p = o ++ [.copy s (l + m)]) ∨ ((∀ o s l m, out = o ++ [.copy s l] → p ≠ .copy (s + l) m) ∧ tstep out p = out ++ [p]) := by
  by_cases h : ((!out.isEmpty) && (m__goes_on (ix out (-(1 : Int))) p)) = true
  · have h' := h
    rw [Bool.and_eq_true] at h'
    have hl := ne_len h'.1
    have e := snoc_of hl
    have hg := h'.2
    unfold m__goes_on at hg
    rw [Bool.and_eq_true, Bool.and_eq_true] at hg
    obtain ⟨g1, g2, g3⟩ := hg
    cases hq : ix out (-(1 : Int)) with
    | put c => rw [hq] at g1; cases g1
    | copy s l =>
      cases p with
      | put c => cases g2
      | copy t m =>
        rw [hq] at g3
        have g3 : s + l = t := of_decide_eq_true g3
        subst g3
        rw [hq] at e
        refine .inl ⟨out.dropLast, s, l, m, e, rfl, ?_⟩
        unfold tstep
        rw [if_pos h, hq]
        have e3 := set_last out.dropLast (Phr.copy s l) (Phr.copy s (l + m))
        rw [← e] at e3
        exact e3
  · refine .inr ⟨fun o s l m e1 e2 => h ?_, ?_⟩
    · subst e1
      subst e2
      rw [Bool.and_eq_true]
      refine ⟨by simp, ?_⟩
      rw [show (-(1 : Int)) = -1 from rfl, ix_snoc]
      show (true && (true && decide (s + l = s + l))) = true
      simp
    · unfold tstep
      rw [if_neg h]
theorem srcOf_add (s : Int) {l : Int} (h : 0 ≤ l) : ∀ m : Nat, srcOf (.copy s (l + m)) = srcOf (.copy s l) ++ srcOf (.copy (s + l) m)
  | 0 => by
    show srcOf (.copy s (l + 0)) = _ ++ []
    rw [Int.add_zero, List.append_nil]
  | m + 1 => by
    have e1 : l + ((m + 1 : Nat) : Int) = l + (m : Int) + 1 := by omega
    have e2 : ((m + 1 : Nat) : Int) = (m : Int) + 1 := by omega
    rw [e1, e2, srcOf_succ s (by omega), srcOf_succ (s + l) (by omega), srcOf_add s h m, List.append_assoc, Int.add_assoc]
theorem letOf_add (s t : Int) {l : Int} (h : 0 ≤ l) : ∀ m : Nat, letOf (.copy s (l + m)) = letOf (.copy s l) ++ letOf (.copy t m)
  | 0 => by
    show letOf (.copy s (l + 0)) = _ ++ []
    rw [Int.add_zero, List.append_nil]
  | m + 1 => by
    have e1 : l + ((m + 1 : Nat) : Int) = l + (m : Int) + 1 := by omega
    have e2 : ((m + 1 : Nat) : Int) = (m : Int) + 1 := by omega
    rw [e1, e2, letOf_succ s s (by omega), letOf_succ t t (by omega), letOf_add s t h m, List.append_assoc]
/-- the tidied press behind n phrases -/
def TI (ps : List Phr) (n : Nat) (out : List Phr) : Prop :=
  (∀ p ∈ out, okP p) ∧ totP out = totP (ps.take n) ∧ srcP out = srcP (ps.take n) ∧ letP out = letP (ps.take n) ∧ (∀ p ∈ out, p.isPut = false → p.start + p.len ≤ totP ps) ∧ out.length ≤ n
theorem ti_step {ps : List Phr} {n : Nat} {p : Phr} {out : List Phr} (h : TI ps n out) (hx : ps[n]? = some p) (hg : GoodP ps) : TI ps (n + 1) (tstep out p) := by
  obtain ⟨h1, h2, h3, h4, h5, h6⟩ := h
  have ho := hg.2.1 _ (List.mem_of_getElem? hx)
  have hb := hg.2.2.2 _ (List.mem_of_getElem? hx)
  have e1 := tot_take hx
  rcases goes_cases out p with ⟨o, s, l, m, rfl, rfl, e⟩ | ⟨_, e⟩
  · have ok := h1 (.copy s l) (List.mem_append_right _ List.mem_cons_self)
    have k1 : 0 ≤ s := ok.1
    have k2 : 1 ≤ l := ok.2
    have k3 : 1 ≤ m := ho.2
    have k4 : s + l + m ≤ totP ps := hb rfl
    obtain ⟨m', rfl⟩ : ∃ m' : Nat, m = m' := ⟨m.toNat, by omega⟩
    rw [e]
    rw [tot_app] at h2
    have h2 : totP o + (l + 0) = totP (ps.take n) := h2
    have e1 : totP (ps.take (n + 1)) = totP (ps.take n) + (m' : Int) := e1
    refine ⟨fun p hp => ?_, ?_, ?_, ?_, fun p hp => ?_, ?_⟩
    · rcases List.mem_append.mp hp with z | z
      · exact h1 p (List.mem_append_left _ z)
      · rw [List.mem_singleton.mp z]
        refine ⟨k1, ?_⟩
        show 1 ≤ l + (m' : Int)
        omega
    · rw [tot_app]
      show totP o + (l + (m' : Int) + 0) = _
      omega
    · rw [take_snoc hx, srcP_app, srcP_app, srcP_one, srcP_one, ← h3, srcP_app, srcP_one, srcOf_add s (by omega), List.append_assoc]
    · rw [take_snoc hx, letP_app, letP_app, letP_one, letP_one, ← h4, letP_app, letP_one, letOf_add s (s + l) (by omega), List.append_assoc]
    · rcases List.mem_append.mp hp with z | z
      · exact h5 p (List.mem_append_left _ z)
      · rw [List.mem_singleton.mp z]
        intro _
        show s + (l + (m' : Int)) ≤ _
        omega
    · rw [List.length_append] at h6 ⊢
      exact Nat.le_succ_of_le h6
  · rw [e]
    refine ⟨fun q hq => ?_, ?_, ?_, ?_, fun q hq => ?_, ?_⟩
    · rcases List.mem_append.mp hq with z | z
      · exact h1 q z
      · rw [List.mem_singleton.mp z]; exact ho
    · rw [tot_app, h2, e1]
      show _ + (manyP p + 0) = _
      omega
    · rw [take_snoc hx, srcP_app, srcP_app, h3]
    · rw [take_snoc hx, letP_app, letP_app, h4]
    · rcases List.mem_append.mp hq with z | z
      · exact h5 q z
      · rw [List.mem_singleton.mp z]; exact hb
    · rw [List.length_append]
      exact Nat.succ_le_succ h6
theorem ti_end {ps : List Phr} {n : Nat} {out : List Phr} (h : TI ps n out) (hg : GoodP ps) (hn : n = ps.length) : SameP ps out ∧ out.length ≤ ps.length := by
  obtain ⟨h1, h2, h3, h4, h5, h6⟩ := h
  subst hn
  rw [List.take_length] at h2 h3 h4
  refine ⟨⟨⟨fun z => ?_, h1, by rw [h2]; exact hg.2.2.1, fun p hp q => by rw [h2]; exact h5 p hp q⟩, h2, h3, h4⟩, h6⟩
  rw [z] at h2
  have e : (0 : Int) = totP ps := h2
  have := len_le_tot hg.2.1
  have : 0 < ps.length := List.length_pos_iff.mpr hg.1
  omega
def tidyP (ps : List Phr) : List Phr := ps.foldl tstep []
theorem tidy_same {ps : List Phr} (hg : GoodP ps) : SameP ps (tidyP ps) ∧ (tidyP ps).length ≤ ps.length :=
  ti_end (foldl_ix (fun i s => TI ps i s) tstep [] ps ⟨by simp, rfl, rfl, rfl, by simp, Nat.le_refl _⟩ (fun i s x hx hI => ti_step hI hx hg)) hg rfl

def m_Copies_tidied (a_self : CopD) : CopD :=
  lt ([] : List Phr) fun (v1_listed : (List Phr)) => 
  lt (List.foldl (fun (s2 : (List Phr)) (x2_phrase : Phr) => lt (if ((!s2.isEmpty) && (m__goes_on (ix s2 (-(1 : Int))) x2_phrase)) = true then lt (s2.set (s2.length - 1) (Phr.copy (ix s2 (-(1 : Int))).start ((ix s2 (-(1 : Int))).len + x2_phrase.len))) fun (v7_listed : (List Phr)) => 
      v7_listed else lt (s2 ++ [x2_phrase]) fun (v8_listed : (List Phr)) => 
      v8_listed : (List Phr)) fun (s6 : (List Phr)) => 
    s6) (v1_listed : (List Phr)) (Tup.mk a_self.ph).l) fun (s3 : (List Phr)) => 
  (mkCop s3)
abbrev s_Copies_tidied : Stmt := inClass (topS 22) 16
abbrev N_Copies_tidied : List Str := ["self", "listed", "phrase"]
theorem sc_Copies_tidied : FnScope N_Copies_tidied ["self"] (defScope s_Copies_tidied) := ⟨rfl, rfl, rfl, by decide +kernel, rfl, by decide +kernel, by decide +kernel⟩
abbrev Ok_Copies_tidied (P : Program) (w : World) (K : PySem.W.Frag) (mg : Str → Option Value) (base : Heap) : Prop :=
  MethOk P w K mg base 6 "Copies" "tidied" 1 (spD (ι := CopD) K (fun i => GoodP i.ph) (fun i => [.is i]) (fun i => .is (m_Copies_tidied i)))
theorem ok_Copies_tidied {P : Program} {w : World} {K : PySem.W.Frag} {mg : Str → Option Value} {base : Heap} {f C : Addr} {fd : FuncData} (F : Fun K "tidied" "Copies.tidied" s_Copies_tidied f fd) (hC : ClsAt K "Copies" C) (cc : Cls K C) (hme : Meth K C "tidied" f) (bd : Binds K fd ["self"] [])  (D__goes_on : Ok__goes_on P w K mg base) (D_Copies___init__ : Ok_Copies___init__ P w K mg base) {CC : Addr} (KC : CK K mg CC) : Ok_Copies_tidied P w K mg base := by
  refine ⟨C, f, fd, ["self"], hC, cc, hme, ?_, bd, rfl⟩
  refine defFn (kk := 5) (R := CopD) F sc_Copies_tidied _ _ (fun r => .is r) _ (fun _ => rfl) (fun i hp cdv A outer s H E hr => ?_)
  obtain ⟨a_self, rfl⟩ : ∃ z, z = i := ⟨i, rfl⟩
  have hp : GoodP a_self.ph := hp
  show SX _ _ [.is a_self, .no, .no] _ (m_Copies_tidied a_self)
  unfold m_Copies_tidied
  refine sx_setO 1 (px_list ([] : List Phr) ax_nil) (fun v1_listed h1 => ?_) sc_Copies_tidied.nd
  refine sx_forF 2 (fun (s2 : (List Phr)) => [.is a_self, .own s2, .no]) _ (v1_listed : (List Phr)) (fun i (s : List Phr) => TI a_self.ph i s) (it_tup (px_phrases KC.at' KC.cl KC.n1 (px_var 0 rfl))) (pg_name (i := 2) sc_Copies_tidied.nd rfl (by first | exact Or.inl rfl | exact Or.inr rfl)) (.same (.same (.same .nil))) (by rw [h1]; exact ⟨by simp, rfl, rfl, rfl, by simp, Nat.le_refl _⟩) (fun i2 s2 x2_phrase hx2 hI2 => ?_) (fun i2 s2 x2_phrase hx2 hI2 => ?_) (fun s3 h3 hI3 => ?_)
  · have hm2 := List.mem_of_getElem? hx2
    have tI := hI2.2.2.2.2.2
    have hgl := good_len hp
    have hlt : i2 < a_self.ph.length := (List.getElem?_eq_some_iff.mp hx2).1
    refine sx_ifj (fun (s6 : (List Phr)) => [.is a_self, .own s6, .is x2_phrase]) (tx_w (wx_and (tx_list (.bor _) (px_varO 1 (.own _) rfl)) (fun hw4 => (wx_and1 (tx_val (px_callS D__goes_on ((ix s2 (-(1 : Int))), x2_phrase) (by trivial) (hr.mono (by decide)) (ax_cons (px_ixL (.bor _) (px_varO 1 (.own _) rfl) (px_neg px_int) (by have := ne_len hw4; constructor <;> omega)) (ax_cons (px_var 2 rfl) ax_nil)) (.is (.is .nil)))))))) (fun hc6 => ?_) (fun hc6 => ?_) (fun s6 h6 => ?_)
    · try simp only [Bool.and_eq_true, Bool.or_eq_true, Bool.not_eq_true', Bool.and_eq_false_iff, Bool.or_eq_false_iff, Bool.not_eq_false', decide_eq_true_eq, decide_eq_false_iff_not, Classical.not_not] at hc6
      refine sx_put 1 rfl (phr_of_t3 (px_t3 (ax_cons (px_str (by decide +kernel)) (ax_cons (px_phStart (px_ixL (.bor _) (px_varO 1 (.own _) rfl) (px_neg px_int) (by have := ne_len' hc6.1; constructor <;> omega)) px_int (by have gg := hc6.2; unfold m__goes_on at gg; simp only [Bool.and_eq_true, Bool.or_eq_true, Bool.not_eq_true', Bool.and_eq_false_iff, Bool.or_eq_false_iff, Bool.not_eq_false', decide_eq_true_eq, decide_eq_false_iff_not, Classical.not_not] at gg; exact gg.1)) (ax_cons (px_add (px_phLen (px_ixL (.bor _) (px_varO 1 (.own _) rfl) (px_neg px_int) (by have := ne_len' hc6.1; constructor <;> omega)) px_int (by have gg := hc6.2; unfold m__goes_on at gg; simp only [Bool.and_eq_true, Bool.or_eq_true, Bool.not_eq_true', Bool.and_eq_false_iff, Bool.or_eq_false_iff, Bool.not_eq_false', decide_eq_true_eq, decide_eq_false_iff_not, Classical.not_not] at gg; exact gg.1)) (px_phLen (px_var 2 rfl) px_int (by have gg := hc6.2; unfold m__goes_on at gg; simp only [Bool.and_eq_true, Bool.or_eq_true, Bool.not_eq_true', Bool.and_eq_false_iff, Bool.or_eq_false_iff, Bool.not_eq_false', decide_eq_true_eq, decide_eq_false_iff_not, Classical.not_not] at gg; exact gg.2.1))) ax_nil))))) (px_neg px_int) (by exact ixN_m1 (ne_len' hc6.1)) (fun v7_listed h7 => ?_)
      exact sx_nil (sx_endN (.same (.same (.same .nil))))
    · try simp only [Bool.and_eq_true, Bool.or_eq_true, Bool.not_eq_true', Bool.and_eq_false_iff, Bool.or_eq_false_iff, Bool.not_eq_false', decide_eq_true_eq, decide_eq_false_iff_not, Classical.not_not] at hc6
      refine sx_app 1 rfl (px_var 2 rfl) (by exact Nat.lt_of_le_of_lt (show _ ≤ 100000 by first | omega | (have tc_ := tc (by first | assumption | exact Bool.eq_false_iff.mpr (by assumption)); omega) | (have tp_ := tp (by assumption); omega) | (simp only [Bool.and_eq_true, Bool.or_eq_true, Bool.not_eq_true', Bool.and_eq_false_iff, Bool.or_eq_false_iff, Bool.not_eq_false', decide_eq_true_eq, decide_eq_false_iff_not, Classical.not_not] at *; omega) | (simp only [Bool.and_eq_true, Bool.or_eq_true, Bool.not_eq_true', Bool.and_eq_false_iff, Bool.or_eq_false_iff, Bool.not_eq_false', decide_eq_true_eq, decide_eq_false_iff_not, Classical.not_not, lt, List.length_cons, List.length_nil, List.length_append, List.length_map, List.length_reverse, List.length_set, rangeI_length] at *; omega)) (by decide)) (fun v8_listed h8 => ?_)
      exact sx_nil (sx_endN (.same (.same (.same .nil))))
    exact sx_nil (sx_endN (.same (.same (.drop .nil))))
  · have hm2 := List.mem_of_getElem? hx2
    have tI := hI2.2.2.2.2.2
    have hgl := good_len hp
    have hlt : i2 < a_self.ph.length := (List.getElem?_eq_some_iff.mp hx2).1
    exact ti_step hI2 hx2 hp
  refine sx_share 1 rfl ?_
  exact sx_retI (mr := (fun r => r)) (rets_ret) rfl (px_make D_Copies___init__ s3 (by show GoodP (s3); exact (ti_end hI3 hp rfl).1.1) (hr.mono (by decide)) (ax_cons (px_var 1 rfl) ax_nil) (.is .nil))


theorem good_set {ps : List Phr} {k : Nat} {p q : Phr} (h : GoodP ps) (hx : ps[k]? = some p) (hm : manyP q = manyP p) (ho : okP q) (hb : q.isPut = false → q.start + q.len ≤ totP ps) : GoodP (ps.set k q) := by
  have hk := (List.getElem?_eq_some_iff.mp hx).1
  have e : ps.set k q = ps.take k ++ q :: ps.drop (k + 1) := List.set_eq_take_append_cons_drop.trans (if_pos hk)
  have e2 : ps = ps.take k ++ p :: ps.drop (k + 1) := by
    have := (List.getElem?_eq_some_iff.mp hx).2
    rw [← this, List.getElem_cons_drop, List.take_append_drop]
  have et : totP (ps.set k q) = totP ps := by
    have a1 : totP ps = totP (ps.take k) + (manyP p + totP (ps.drop (k + 1))) := (congrArg totP e2).trans (tot_app _ _)
    rw [e, tot_app]
    show _ + (manyP q + _) = _
    omega
  refine ⟨fun z => ?_, fun x hx' => ?_, by rw [et]; exact h.2.2.1, fun x hx' hp => ?_⟩
  · have := congrArg List.length z
    rw [List.length_set] at this
    simp at this
    rw [this] at hk
    simp at hk
  · rcases List.mem_or_eq_of_mem_set hx' with z | z
    · exact h.2.1 x z
    · rw [z]; exact ho
  · rw [et]
    rcases List.mem_or_eq_of_mem_set hx' with z | z
    · exact h.2.2.2 x z hp
    · rw [z] at hp ⊢; exact hb hp
def m__law_bent (a_phrases : (List Phr)) (a_size : Int) (a_told : (List Int)) : (List Phr) :=
  lt a_phrases fun (v1_rows : (List Phr)) => 
  lt ((ix a_told (1 : Int)) % (v1_rows.length : Int)) fun (v2_place : Int) => 
  lt (ix v1_rows v2_place) fun (v3_phrase : Phr) => 
  lt (if (v3_phrase.isPut && (decide ((ix a_told (0 : Int)) = (4 : Int)))) = true then lt (v1_rows.set (v2_place).toNat (Phr.copy ((ix a_told (2 : Int)) % a_size) (1 : Int))) fun (v7_rows : (List Phr)) => 
    v7_rows else lt (if (v3_phrase.isPut || ((decide (v3_phrase.len = (1 : Int))) && (decide ((ix a_told (0 : Int)) = (4 : Int))))) = true then lt (v1_rows.set (v2_place).toNat (Phr.put (m__law_letter (ix a_told (2 : Int))))) fun (v12_rows : (List Phr)) => 
      v12_rows else lt (v1_rows.set (v2_place).toNat (Phr.copy (((v3_phrase.start + (1 : Int)) + (ix a_told (2 : Int))) % ((a_size - v3_phrase.len) + (1 : Int))) v3_phrase.len)) fun (v13_rows : (List Phr)) => 
      v13_rows : (List Phr)) fun (s11 : (List Phr)) => 
    s11 : (List Phr)) fun (s6 : (List Phr)) => 
  s6
abbrev s__law_bent : Stmt := topS 45
abbrev N__law_bent : List Str := ["phrases", "size", "told", "rows", "place", "phrase"]
theorem sc__law_bent : FnScope N__law_bent ["phrases", "size", "told"] (defScope s__law_bent) := ⟨rfl, rfl, rfl, by decide +kernel, rfl, by decide +kernel, by decide +kernel⟩
abbrev Ok__law_bent (P : Program) (w : World) (K : PySem.W.Frag) (mg : Str → Option Value) (base : Heap) : Prop :=
  DefOk P w K mg base 2 "_law_bent" 3 (spD (ι := (List Phr) × Int × (List Int)) K (fun i => GoodP i.1 ∧ totP i.1 = i.2.1 ∧ i.2.2.length = 3) (fun i => [.is i.1, .is i.2.1, .is i.2.2]) (fun i => .own (m__law_bent i.1 i.2.1 i.2.2)))
theorem ok__law_bent {P : Program} {w : World} {K : PySem.W.Frag} {mg : Str → Option Value} {base : Heap} {f : Addr} {fd : FuncData} (F : Fun K "_law_bent" "_law_bent" s__law_bent f fd) (hm : mg "_law_bent" = some (.ref f)) (bd : Binds K fd ["phrases", "size", "told"] []) (T : Bt mg) (D__law_letter : Ok__law_letter P w K mg base) : Ok__law_bent P w K mg base := by
  refine defOk (kk := 1) (R := (List Phr)) F hm sc__law_bent bd _ _ (fun r => .own r) _ (fun _ => rfl) (fun i hp cdv A outer s H E hr => ?_)
  obtain ⟨a_phrases, a_size, a_told⟩ := i
  have hp : GoodP a_phrases ∧ totP a_phrases = a_size ∧ a_told.length = 3 := hp
  obtain ⟨hp, hs, ht3⟩ := hp
  have hln : 0 < a_phrases.length := List.length_pos_iff.mpr hp.1
  have hgl := good_len hp
  have hlt := len_le_tot hp.2.1
  show SX _ _ [.is a_phrases, .is a_size, .is a_told, .no, .no, .no] _ (m__law_bent a_phrases a_size a_told)
  unfold m__law_bent
  refine sx_setO 3 (px_listof (.is _) T.list_ (px_var 0 rfl)) (fun v1_rows h1 => ?_) sc__law_bent.nd
  have hrl : v1_rows.length = a_phrases.length := by rw [h1]
  refine sx_set 4 (px_mod (px_int1 T.int_ (px_ixL (.is _) (px_var 2 rfl) px_int (by first | (constructor <;> omega) | (have tc_ := tc (by first | assumption | exact Bool.eq_false_iff.mpr (by assumption)); constructor <;> omega) | (have tp_ := tp (by assumption); constructor <;> omega) | (simp only [Bool.and_eq_true, Bool.or_eq_true, Bool.not_eq_true', Bool.and_eq_false_iff, Bool.or_eq_false_iff, Bool.not_eq_false', decide_eq_true_eq, decide_eq_false_iff_not, Classical.not_not] at *; constructor <;> omega) | (simp only [Bool.and_eq_true, Bool.or_eq_true, Bool.not_eq_true', Bool.and_eq_false_iff, Bool.or_eq_false_iff, Bool.not_eq_false', decide_eq_true_eq, decide_eq_false_iff_not, Classical.not_not, lt, List.length_cons, List.length_nil, List.length_append, List.length_map, List.length_reverse, List.length_set, rangeI_length] at *; constructor <;> omega)))) (px_len (.bor _) T.len_ (px_varO 3 (.own _) rfl)) (by first | omega | (have tc_ := tc (by first | assumption | exact Bool.eq_false_iff.mpr (by assumption)); omega) | (have tp_ := tp (by assumption); omega) | (simp only [Bool.and_eq_true, Bool.or_eq_true, Bool.not_eq_true', Bool.and_eq_false_iff, Bool.or_eq_false_iff, Bool.not_eq_false', decide_eq_true_eq, decide_eq_false_iff_not, Classical.not_not] at *; omega) | (simp only [Bool.and_eq_true, Bool.or_eq_true, Bool.not_eq_true', Bool.and_eq_false_iff, Bool.or_eq_false_iff, Bool.not_eq_false', decide_eq_true_eq, decide_eq_false_iff_not, Classical.not_not, lt, List.length_cons, List.length_nil, List.length_append, List.length_map, List.length_reverse, List.length_set, rangeI_length] at *; omega))) (fun v2_place h2 => ?_) sc__law_bent.nd
  have fpl : 0 ≤ v2_place ∧ v2_place < a_phrases.length := by rw [h2, h1]; exact emod_bd _ (by omega)
  clear h2
  refine sx_set 5 (px_ixL (.bor _) (px_varO 3 (.own _) rfl) (px_var 4 rfl) (by first | (constructor <;> omega) | (have tc_ := tc (by first | assumption | exact Bool.eq_false_iff.mpr (by assumption)); constructor <;> omega) | (have tp_ := tp (by assumption); constructor <;> omega) | (simp only [Bool.and_eq_true, Bool.or_eq_true, Bool.not_eq_true', Bool.and_eq_false_iff, Bool.or_eq_false_iff, Bool.not_eq_false', decide_eq_true_eq, decide_eq_false_iff_not, Classical.not_not] at *; constructor <;> omega) | (simp only [Bool.and_eq_true, Bool.or_eq_true, Bool.not_eq_true', Bool.and_eq_false_iff, Bool.or_eq_false_iff, Bool.not_eq_false', decide_eq_true_eq, decide_eq_false_iff_not, Classical.not_not, lt, List.length_cons, List.length_nil, List.length_append, List.length_map, List.length_reverse, List.length_set, rangeI_length] at *; constructor <;> omega))) (fun v3_phrase h3 => ?_) sc__law_bent.nd
  have hx : a_phrases[v2_place.toNat]? = some v3_phrase := by rw [h3, h1]; exact ix_nn fpl.1 fpl.2
  have tb := tot_bd hp hx
  have tc := tc_of hp hx
  have tp := tp_of (x := v3_phrase)
  have ho : okP v3_phrase := hp.2.1 _ (List.mem_of_getElem? hx)
  have tt := tot_take_le hp.2.1 (v2_place.toNat + 1)
  clear h3
  refine sx_ifj (fun (s6 : (List Phr)) => [.is a_phrases, .is a_size, .is a_told, .own s6, .is v2_place, .is v3_phrase]) (tx_w (wx_and (tx_isPut (px_var 5 rfl)) (fun hw4 => (wx_and1 (tx_eq (px_ixL (.is _) (px_var 2 rfl) px_int (by first | (constructor <;> omega) | (have tc_ := tc (by first | assumption | exact Bool.eq_false_iff.mpr (by assumption)); constructor <;> omega) | (have tp_ := tp (by assumption); constructor <;> omega) | (simp only [Bool.and_eq_true, Bool.or_eq_true, Bool.not_eq_true', Bool.and_eq_false_iff, Bool.or_eq_false_iff, Bool.not_eq_false', decide_eq_true_eq, decide_eq_false_iff_not, Classical.not_not] at *; constructor <;> omega) | (simp only [Bool.and_eq_true, Bool.or_eq_true, Bool.not_eq_true', Bool.and_eq_false_iff, Bool.or_eq_false_iff, Bool.not_eq_false', decide_eq_true_eq, decide_eq_false_iff_not, Classical.not_not, lt, List.length_cons, List.length_nil, List.length_append, List.length_map, List.length_reverse, List.length_set, rangeI_length] at *; constructor <;> omega))) px_int))))) (fun hc6 => ?_) (fun hc6 => ?_) (fun s6 h6 => ?_)
  · try simp only [Bool.and_eq_true, Bool.or_eq_true, Bool.not_eq_true', Bool.and_eq_false_iff, Bool.or_eq_false_iff, Bool.not_eq_false', decide_eq_true_eq, decide_eq_false_iff_not, Classical.not_not] at hc6
    refine sx_put 3 rfl (phr_of_t3 (px_t3 (ax_cons (px_str (by decide +kernel)) (ax_cons (px_mod (px_int1 T.int_ (px_ixL (.is _) (px_var 2 rfl) px_int (by first | (constructor <;> omega) | (have tc_ := tc (by first | assumption | exact Bool.eq_false_iff.mpr (by assumption)); constructor <;> omega) | (have tp_ := tp (by assumption); constructor <;> omega) | (simp only [Bool.and_eq_true, Bool.or_eq_true, Bool.not_eq_true', Bool.and_eq_false_iff, Bool.or_eq_false_iff, Bool.not_eq_false', decide_eq_true_eq, decide_eq_false_iff_not, Classical.not_not] at *; constructor <;> omega) | (simp only [Bool.and_eq_true, Bool.or_eq_true, Bool.not_eq_true', Bool.and_eq_false_iff, Bool.or_eq_false_iff, Bool.not_eq_false', decide_eq_true_eq, decide_eq_false_iff_not, Classical.not_not, lt, List.length_cons, List.length_nil, List.length_append, List.length_map, List.length_reverse, List.length_set, rangeI_length] at *; constructor <;> omega)))) (px_var 1 rfl) (by first | omega | (have tc_ := tc (by first | assumption | exact Bool.eq_false_iff.mpr (by assumption)); omega) | (have tp_ := tp (by assumption); omega) | (simp only [Bool.and_eq_true, Bool.or_eq_true, Bool.not_eq_true', Bool.and_eq_false_iff, Bool.or_eq_false_iff, Bool.not_eq_false', decide_eq_true_eq, decide_eq_false_iff_not, Classical.not_not] at *; omega) | (simp only [Bool.and_eq_true, Bool.or_eq_true, Bool.not_eq_true', Bool.and_eq_false_iff, Bool.or_eq_false_iff, Bool.not_eq_false', decide_eq_true_eq, decide_eq_false_iff_not, Classical.not_not, lt, List.length_cons, List.length_nil, List.length_append, List.length_map, List.length_reverse, List.length_set, rangeI_length] at *; omega))) (ax_cons px_int ax_nil))))) (px_var 4 rfl) (by exact ixN_nn (by omega) (by omega)) (fun v7_rows h7 => ?_)
    exact sx_nil (sx_endN (.same (.same (.same (.same (.same (.same .nil)))))))
  · try simp only [Bool.and_eq_true, Bool.or_eq_true, Bool.not_eq_true', Bool.and_eq_false_iff, Bool.or_eq_false_iff, Bool.not_eq_false', decide_eq_true_eq, decide_eq_false_iff_not, Classical.not_not] at hc6
    refine sx_ifj (fun (s11 : (List Phr)) => [.is a_phrases, .is a_size, .is a_told, .own s11, .is v2_place, .is v3_phrase]) (tx_w (wx_or (tx_isPut (px_var 5 rfl)) (fun hw9 => (wx_or1 (tx_w (wx_and (tx_eq (px_phLen (px_var 5 rfl) px_int (by first | assumption | (simp only [Bool.and_eq_true, Bool.or_eq_true, Bool.not_eq_true', Bool.and_eq_false_iff, Bool.or_eq_false_iff, Bool.not_eq_false', decide_eq_true_eq, decide_eq_false_iff_not, Classical.not_not] at *; first | assumption | simp_all))) px_int) (fun hw8 => (wx_and1 (tx_eq (px_ixL (.is _) (px_var 2 rfl) px_int (by first | (constructor <;> omega) | (have tc_ := tc (by first | assumption | exact Bool.eq_false_iff.mpr (by assumption)); constructor <;> omega) | (have tp_ := tp (by assumption); constructor <;> omega) | (simp only [Bool.and_eq_true, Bool.or_eq_true, Bool.not_eq_true', Bool.and_eq_false_iff, Bool.or_eq_false_iff, Bool.not_eq_false', decide_eq_true_eq, decide_eq_false_iff_not, Classical.not_not] at *; constructor <;> omega) | (simp only [Bool.and_eq_true, Bool.or_eq_true, Bool.not_eq_true', Bool.and_eq_false_iff, Bool.or_eq_false_iff, Bool.not_eq_false', decide_eq_true_eq, decide_eq_false_iff_not, Classical.not_not, lt, List.length_cons, List.length_nil, List.length_append, List.length_map, List.length_reverse, List.length_set, rangeI_length] at *; constructor <;> omega))) px_int))))))))) (fun hc11 => ?_) (fun hc11 => ?_) (fun s11 h11 => ?_)
    · try simp only [Bool.and_eq_true, Bool.or_eq_true, Bool.not_eq_true', Bool.and_eq_false_iff, Bool.or_eq_false_iff, Bool.not_eq_false', decide_eq_true_eq, decide_eq_false_iff_not, Classical.not_not] at hc11
      refine sx_put 3 rfl (phr_of_pair (px_pair (ax_cons (px_str (by decide +kernel)) (ax_cons (px_callT D__law_letter (ix a_told (2 : Int)) (by trivial) (hr.mono (by decide)) (ax_cons (px_ixL (.is _) (px_var 2 rfl) px_int (by first | (constructor <;> omega) | (have tc_ := tc (by first | assumption | exact Bool.eq_false_iff.mpr (by assumption)); constructor <;> omega) | (have tp_ := tp (by assumption); constructor <;> omega) | (simp only [Bool.and_eq_true, Bool.or_eq_true, Bool.not_eq_true', Bool.and_eq_false_iff, Bool.or_eq_false_iff, Bool.not_eq_false', decide_eq_true_eq, decide_eq_false_iff_not, Classical.not_not] at *; constructor <;> omega) | (simp only [Bool.and_eq_true, Bool.or_eq_true, Bool.not_eq_true', Bool.and_eq_false_iff, Bool.or_eq_false_iff, Bool.not_eq_false', decide_eq_true_eq, decide_eq_false_iff_not, Classical.not_not, lt, List.length_cons, List.length_nil, List.length_append, List.length_map, List.length_reverse, List.length_set, rangeI_length] at *; constructor <;> omega))) ax_nil) (.is .nil)) ax_nil)))) (px_var 4 rfl) (by exact ixN_nn (by omega) (by omega)) (fun v12_rows h12 => ?_)
      exact sx_nil (sx_endN (.same (.same (.same (.same (.same (.same .nil)))))))
    · try simp only [Bool.and_eq_true, Bool.or_eq_true, Bool.not_eq_true', Bool.and_eq_false_iff, Bool.or_eq_false_iff, Bool.not_eq_false', decide_eq_true_eq, decide_eq_false_iff_not, Classical.not_not] at hc11
      refine sx_put 3 rfl (phr_of_t3 (px_t3 (ax_cons (px_str (by decide +kernel)) (ax_cons (px_mod (px_int1 T.int_ (px_add (px_add (px_phStart (px_var 5 rfl) px_int (by first | assumption | (simp only [Bool.and_eq_true, Bool.or_eq_true, Bool.not_eq_true', Bool.and_eq_false_iff, Bool.or_eq_false_iff, Bool.not_eq_false', decide_eq_true_eq, decide_eq_false_iff_not, Classical.not_not] at *; first | assumption | simp_all))) px_int) (px_ixL (.is _) (px_var 2 rfl) px_int (by first | (constructor <;> omega) | (have tc_ := tc (by first | assumption | exact Bool.eq_false_iff.mpr (by assumption)); constructor <;> omega) | (have tp_ := tp (by assumption); constructor <;> omega) | (simp only [Bool.and_eq_true, Bool.or_eq_true, Bool.not_eq_true', Bool.and_eq_false_iff, Bool.or_eq_false_iff, Bool.not_eq_false', decide_eq_true_eq, decide_eq_false_iff_not, Classical.not_not] at *; constructor <;> omega) | (simp only [Bool.and_eq_true, Bool.or_eq_true, Bool.not_eq_true', Bool.and_eq_false_iff, Bool.or_eq_false_iff, Bool.not_eq_false', decide_eq_true_eq, decide_eq_false_iff_not, Classical.not_not, lt, List.length_cons, List.length_nil, List.length_append, List.length_map, List.length_reverse, List.length_set, rangeI_length] at *; constructor <;> omega))))) (px_add (px_sub (px_var 1 rfl) (px_phLen (px_var 5 rfl) px_int (by first | assumption | (simp only [Bool.and_eq_true, Bool.or_eq_true, Bool.not_eq_true', Bool.and_eq_false_iff, Bool.or_eq_false_iff, Bool.not_eq_false', decide_eq_true_eq, decide_eq_false_iff_not, Classical.not_not] at *; first | assumption | simp_all)))) px_int) (by have t4 := tc hc11.1; omega)) (ax_cons (px_phLen (px_var 5 rfl) px_int (by first | assumption | (simp only [Bool.and_eq_true, Bool.or_eq_true, Bool.not_eq_true', Bool.and_eq_false_iff, Bool.or_eq_false_iff, Bool.not_eq_false', decide_eq_true_eq, decide_eq_false_iff_not, Classical.not_not] at *; first | assumption | simp_all))) ax_nil))))) (px_var 4 rfl) (by exact ixN_nn (by omega) (by omega)) (fun v13_rows h13 => ?_)
      exact sx_nil (sx_endN (.same (.same (.same (.same (.same (.same .nil)))))))
    exact sx_nil (sx_endN (.same (.same (.same (.same (.same (.same .nil)))))))
  have hgood : GoodP s6 := by
    rw [h6]
    dsimp only [lt]
    refine if_ind (P := GoodP) (fun c => ?_) (fun c => ?_)
    · simp only [Bool.and_eq_true, Bool.or_eq_true, Bool.not_eq_true', Bool.and_eq_false_iff, Bool.or_eq_false_iff, Bool.not_eq_false', decide_eq_true_eq, decide_eq_false_iff_not, Classical.not_not] at c
      rw [h1]
      have := emod_bd (ix a_told 2) (show 0 < a_size by omega)
      exact good_set hp hx (tp c.1).symm ⟨this.1, Int.le_refl _⟩ (fun _ => by show ix a_told 2 % a_size + (1 : Int) ≤ _; omega)
    · refine if_ind (P := GoodP) (fun c2 => ?_) (fun c2 => ?_)
      · simp only [Bool.and_eq_true, Bool.or_eq_true, Bool.not_eq_true', Bool.and_eq_false_iff, Bool.or_eq_false_iff, Bool.not_eq_false', decide_eq_true_eq, decide_eq_false_iff_not, Classical.not_not] at c2
        rw [h1]
        refine good_set hp hx ?_ (letter_good _) (fun z => by cases z)
        show 1 = manyP _
        rcases c2 with z | z
        · exact (tp z).symm
        · cases hq : v3_phrase.isPut with
          | true => exact (tp hq).symm
          | false => have := (tc hq).1; omega
      · simp only [Bool.and_eq_true, Bool.or_eq_true, Bool.not_eq_true', Bool.and_eq_false_iff, Bool.or_eq_false_iff, Bool.not_eq_false', decide_eq_true_eq, decide_eq_false_iff_not, Classical.not_not] at c2
        rw [h1]
        have t4 := tc c2.1
        have := emod_bd (v3_phrase.start + 1 + ix a_told 2) (show 0 < a_size - v3_phrase.len + 1 by omega)
        exact good_set hp hx t4.1.symm ⟨this.1, t4.2.2.1⟩ (fun _ => by show (v3_phrase.start + 1 + ix a_told 2) % (a_size - v3_phrase.len + 1) + v3_phrase.len ≤ _; omega)
  exact sx_retV (mr := (fun r => r)) 3 rfl (rets_ret) rfl

def PP__law_bent (a_phrases : (List Phr)) (a_size : Int) (a_told : (List Int)) (res : (List Phr)) : Prop := GoodP res
theorem post__law_bent (a_phrases : (List Phr)) (a_size : Int) (a_told : (List Int)) (hp : GoodP a_phrases ∧ totP a_phrases = a_size ∧ a_told.length = 3) : PP__law_bent a_phrases a_size a_told (m__law_bent a_phrases a_size a_told) := by
  obtain ⟨hp, hs, ht3⟩ := hp
  have hln : 0 < a_phrases.length := List.length_pos_iff.mpr hp.1
  have hgl := good_len hp
  have hlt := len_le_tot hp.2.1
  unfold m__law_bent
  refine lt_ind (P := PP__law_bent a_phrases a_size a_told) fun v1_rows h1 => ?_
  have hrl : v1_rows.length = a_phrases.length := by rw [h1]
  refine lt_ind (P := PP__law_bent a_phrases a_size a_told) fun v2_place h2 => ?_
  have fpl : 0 ≤ v2_place ∧ v2_place < a_phrases.length := by rw [h2, h1]; exact emod_bd _ (by omega)
  clear h2
  refine lt_ind (P := PP__law_bent a_phrases a_size a_told) fun v3_phrase h3 => ?_
  have hx : a_phrases[v2_place.toNat]? = some v3_phrase := by rw [h3, h1]; exact ix_nn fpl.1 fpl.2
  have tb := tot_bd hp hx
  have tc := tc_of hp hx
  have tp := tp_of (x := v3_phrase)
  have ho : okP v3_phrase := hp.2.1 _ (List.mem_of_getElem? hx)
  have tt := tot_take_le hp.2.1 (v2_place.toNat + 1)
  clear h3
  refine lt_ind (P := PP__law_bent a_phrases a_size a_told) fun s6 h6 => ?_
  have hgood : GoodP s6 := by
    rw [h6]
    dsimp only [lt]
    refine if_ind (P := GoodP) (fun c => ?_) (fun c => ?_)
    · simp only [Bool.and_eq_true, Bool.or_eq_true, Bool.not_eq_true', Bool.and_eq_false_iff, Bool.or_eq_false_iff, Bool.not_eq_false', decide_eq_true_eq, decide_eq_false_iff_not, Classical.not_not] at c
      rw [h1]
      have := emod_bd (ix a_told 2) (show 0 < a_size by omega)
      exact good_set hp hx (tp c.1).symm ⟨this.1, Int.le_refl _⟩ (fun _ => by show ix a_told 2 % a_size + (1 : Int) ≤ _; omega)
    · refine if_ind (P := GoodP) (fun c2 => ?_) (fun c2 => ?_)
      · simp only [Bool.and_eq_true, Bool.or_eq_true, Bool.not_eq_true', Bool.and_eq_false_iff, Bool.or_eq_false_iff, Bool.not_eq_false', decide_eq_true_eq, decide_eq_false_iff_not, Classical.not_not] at c2
        rw [h1]
        refine good_set hp hx ?_ (letter_good _) (fun z => by cases z)
        show 1 = manyP _
        rcases c2 with z | z
        · exact (tp z).symm
        · cases hq : v3_phrase.isPut with
          | true => exact (tp hq).symm
          | false => have := (tc hq).1; omega
      · simp only [Bool.and_eq_true, Bool.or_eq_true, Bool.not_eq_true', Bool.and_eq_false_iff, Bool.or_eq_false_iff, Bool.not_eq_false', decide_eq_true_eq, decide_eq_false_iff_not, Classical.not_not] at c2
        rw [h1]
        have t4 := tc c2.1
        have := emod_bd (v3_phrase.start + 1 + ix a_told 2) (show 0 < a_size - v3_phrase.len + 1 by omega)
        exact good_set hp hx t4.1.symm ⟨this.1, t4.2.2.1⟩ (fun _ => by show (v3_phrase.start + 1 + ix a_told 2) % (a_size - v3_phrase.len + 1) + v3_phrase.len ≤ _; omega)
  show GoodP (s6)
  exact hgood


theorem good_size {ps : List Phr} {n : Int} (h : GoodP ps) (e : totP ps = n) : 1 ≤ n ∧ n ≤ 128 := by
  have h1 := len_le_tot h.2.1
  have h2 : 0 < ps.length := List.length_pos_iff.mpr h.1
  have h3 := h.2.2.1
  omega
theorem mark_pre {n : Int} (h : 1 ≤ n ∧ n ≤ 128) : DrawsPre (repL ([4] : List Int) n) := by
  refine ⟨?_, fun s hs => ?_⟩
  · rw [repL_length, List.length_singleton]
    omega
  · have := mem_repL hs
    rw [List.mem_singleton.mp this]
    decide
theorem cut_pre {ps : List Phr} {n c : Int} (h : GoodP ps) (e : totP ps = n) : GoodP ps ∧ totP ps ≤ (m__law_draws c (repL ([4] : List Int) n)).length := by
  have hz := good_size h e
  refine ⟨h, ?_⟩
  rw [draws_len _ _ (mark_pre hz), repL_length, List.length_singleton]
  omega
theorem bent_pre {ps qs told : _} {n : Int} (h : SameP ps qs) (e : totP ps = n) (ht : List.length (α := Int) told = 3) : GoodP qs ∧ totP qs = n ∧ List.length told = 3 := ⟨h.1, h.2.1.trans e, ht⟩
theorem same_good {ps qs : List Phr} (h : SameP ps qs) : GoodP qs := h.1
def m__law_second (a_phrases : (List Phr)) (a_size : Int) (a_script : Scr) : (List Phr) :=
  lt (m__law_draws (m__law_cell a_script (3 : Int)) ([(8 : Int), (128 : Int), (128 : Int)] : List Int)) fun (v1_told : (List Int)) => 
  (if (decide ((ix v1_told (0 : Int)) = (6 : Int))) = true then (m__law_press (m__law_cell a_script (4 : Int)) (128 : Int)) else 
  (if (decide ((ix v1_told (0 : Int)) = (7 : Int))) = true then a_phrases else 
    lt (m__law_cut a_phrases (m__law_draws (m__law_cell a_script (2 : Int)) (repL ([(4 : Int)] : List Int) a_size))) fun (v4_second : (List Phr)) => 
      (if (decide ((ix v1_told (0 : Int)) > (2 : Int))) = true then (m__law_bent v4_second a_size v1_told) else 
      v4_second)))
abbrev s__law_second : Stmt := topS 46
abbrev N__law_second : List Str := ["phrases", "size", "script", "told", "second"]
theorem sc__law_second : FnScope N__law_second ["phrases", "size", "script"] (defScope s__law_second) := ⟨rfl, rfl, rfl, by decide +kernel, rfl, by decide +kernel, by decide +kernel⟩
abbrev Ok__law_second (P : Program) (w : World) (K : PySem.W.Frag) (mg : Str → Option Value) (base : Heap) : Prop :=
  DefOk P w K mg base 3 "_law_second" 3 (spD (ι := (List Phr) × Int × Scr) K (fun i => GoodP i.1 ∧ totP i.1 = i.2.1) (fun i => [.is i.1, .is i.2.1, .is i.2.2]) (fun i => .is (m__law_second i.1 i.2.1 i.2.2)))
theorem ok__law_second {P : Program} {w : World} {K : PySem.W.Frag} {mg : Str → Option Value} {base : Heap} {f : Addr} {fd : FuncData} (F : Fun K "_law_second" "_law_second" s__law_second f fd) (hm : mg "_law_second" = some (.ref f)) (bd : Binds K fd ["phrases", "size", "script"] []) (T : Bt mg) (D__law_cell : Ok__law_cell P w K mg base) (D__law_draws : Ok__law_draws P w K mg base) (D__law_press : Ok__law_press P w K mg base) (D__law_cut : Ok__law_cut P w K mg base) (D__law_bent : Ok__law_bent P w K mg base) : Ok__law_second P w K mg base := by
  refine defOk (kk := 2) (R := (List Phr)) F hm sc__law_second bd _ _ (fun r => .is r) _ (fun _ => rfl) (fun i hp cdv A outer s H E hr => ?_)
  obtain ⟨a_phrases, a_size, a_script⟩ := i
  have hp : GoodP a_phrases ∧ totP a_phrases = a_size := hp
  have hz := good_size hp.1 hp.2
  show SX _ _ [.is a_phrases, .is a_size, .is a_script, .no, .no] _ (m__law_second a_phrases a_size a_script)
  unfold m__law_second
  refine sx_set 3 (px_share (px_call D__law_draws ((m__law_cell a_script (3 : Int)), ([(8 : Int), (128 : Int), (128 : Int)] : List Int)) (by show DrawsPre (([(8 : Int), (128 : Int), (128 : Int)] : List Int)); first | exact ⟨by decide, by decide⟩ | exact draws_pre_rep ⟨by decide, by decide⟩ (by decide) (by simp only [List.length_cons, List.length_nil]; omega)) (hr.mono (by decide)) (ax_cons (px_callS D__law_cell (a_script, (3 : Int)) (by show 0 ≤ ((3 : Int)); first | omega | (have tc_ := tc (by first | assumption | exact Bool.eq_false_iff.mpr (by assumption)); omega) | (have tp_ := tp (by assumption); omega) | (simp only [Bool.and_eq_true, Bool.or_eq_true, Bool.not_eq_true', Bool.and_eq_false_iff, Bool.or_eq_false_iff, Bool.not_eq_false', decide_eq_true_eq, decide_eq_false_iff_not, Classical.not_not] at *; omega) | (simp only [Bool.and_eq_true, Bool.or_eq_true, Bool.not_eq_true', Bool.and_eq_false_iff, Bool.or_eq_false_iff, Bool.not_eq_false', decide_eq_true_eq, decide_eq_false_iff_not, Classical.not_not, lt, List.length_cons, List.length_nil, List.length_append, List.length_map, List.length_reverse, List.length_set, rangeI_length] at *; omega)) (hr.mono (by decide)) (ax_cons (px_var 2 rfl) (ax_cons px_int ax_nil)) (.is (.is .nil))) (ax_cons (px_list ([(8 : Int), (128 : Int), (128 : Int)] : List Int) (ax_cons px_int (ax_cons px_int (ax_cons px_int ax_nil)))) ax_nil)) (.is (.arg (.own _) .nil)))) (fun v1_told h1 => ?_) sc__law_second.nd
  obtain ⟨hL1, hD1⟩ := draws_all h1 (by exact ⟨by decide, by decide⟩)
  simp only [List.length_cons, List.length_nil] at hL1
  have f1_0 := hD1 (0 : Int) 8 rfl (by decide)
  have f1_1 := hD1 (1 : Int) 128 rfl (by decide)
  have f1_2 := hD1 (2 : Int) 128 rfl (by decide)
  clear hD1
  refine sx_if (tx_eq (px_ixL (.is _) (px_var 3 rfl) px_int (by first | (constructor <;> omega) | (have tc_ := tc (by first | assumption | exact Bool.eq_false_iff.mpr (by assumption)); constructor <;> omega) | (have tp_ := tp (by assumption); constructor <;> omega) | (simp only [Bool.and_eq_true, Bool.or_eq_true, Bool.not_eq_true', Bool.and_eq_false_iff, Bool.or_eq_false_iff, Bool.not_eq_false', decide_eq_true_eq, decide_eq_false_iff_not, Classical.not_not] at *; constructor <;> omega) | (simp only [Bool.and_eq_true, Bool.or_eq_true, Bool.not_eq_true', Bool.and_eq_false_iff, Bool.or_eq_false_iff, Bool.not_eq_false', decide_eq_true_eq, decide_eq_false_iff_not, Classical.not_not, lt, List.length_cons, List.length_nil, List.length_append, List.length_map, List.length_reverse, List.length_set, rangeI_length] at *; constructor <;> omega))) px_int) (fun hc2 => ?_) (fun hc2 => ?_)
  · try simp only [Bool.and_eq_true, Bool.or_eq_true, Bool.not_eq_true', Bool.and_eq_false_iff, Bool.or_eq_false_iff, Bool.not_eq_false', decide_eq_true_eq, decide_eq_false_iff_not, Classical.not_not] at hc2
    exact sx_retI (mr := (fun r => r)) (rets_ret) rfl (px_share (px_call D__law_press ((m__law_cell a_script (4 : Int)), (128 : Int)) (by show 1 ≤ ((128 : Int)) ∧ ((128 : Int)) ≤ 128; first | (constructor <;> omega) | (have tc_ := tc (by first | assumption | exact Bool.eq_false_iff.mpr (by assumption)); constructor <;> omega) | (have tp_ := tp (by assumption); constructor <;> omega) | (simp only [Bool.and_eq_true, Bool.or_eq_true, Bool.not_eq_true', Bool.and_eq_false_iff, Bool.or_eq_false_iff, Bool.not_eq_false', decide_eq_true_eq, decide_eq_false_iff_not, Classical.not_not] at *; constructor <;> omega) | (simp only [Bool.and_eq_true, Bool.or_eq_true, Bool.not_eq_true', Bool.and_eq_false_iff, Bool.or_eq_false_iff, Bool.not_eq_false', decide_eq_true_eq, decide_eq_false_iff_not, Classical.not_not, lt, List.length_cons, List.length_nil, List.length_append, List.length_map, List.length_reverse, List.length_set, rangeI_length] at *; constructor <;> omega)) (hr.mono (by decide)) (ax_cons (px_callS D__law_cell (a_script, (4 : Int)) (by show 0 ≤ ((4 : Int)); first | omega | (have tc_ := tc (by first | assumption | exact Bool.eq_false_iff.mpr (by assumption)); omega) | (have tp_ := tp (by assumption); omega) | (simp only [Bool.and_eq_true, Bool.or_eq_true, Bool.not_eq_true', Bool.and_eq_false_iff, Bool.or_eq_false_iff, Bool.not_eq_false', decide_eq_true_eq, decide_eq_false_iff_not, Classical.not_not] at *; omega) | (simp only [Bool.and_eq_true, Bool.or_eq_true, Bool.not_eq_true', Bool.and_eq_false_iff, Bool.or_eq_false_iff, Bool.not_eq_false', decide_eq_true_eq, decide_eq_false_iff_not, Classical.not_not, lt, List.length_cons, List.length_nil, List.length_append, List.length_map, List.length_reverse, List.length_set, rangeI_length] at *; omega)) (hr.mono (by decide)) (ax_cons (px_var 2 rfl) (ax_cons px_int ax_nil)) (.is (.is .nil))) (ax_cons px_int ax_nil)) (.is (.is .nil))))
  · try simp only [Bool.and_eq_true, Bool.or_eq_true, Bool.not_eq_true', Bool.and_eq_false_iff, Bool.or_eq_false_iff, Bool.not_eq_false', decide_eq_true_eq, decide_eq_false_iff_not, Classical.not_not] at hc2
    refine sx_nil ?_
    refine sx_if (tx_eq (px_ixL (.is _) (px_var 3 rfl) px_int (by first | (constructor <;> omega) | (have tc_ := tc (by first | assumption | exact Bool.eq_false_iff.mpr (by assumption)); constructor <;> omega) | (have tp_ := tp (by assumption); constructor <;> omega) | (simp only [Bool.and_eq_true, Bool.or_eq_true, Bool.not_eq_true', Bool.and_eq_false_iff, Bool.or_eq_false_iff, Bool.not_eq_false', decide_eq_true_eq, decide_eq_false_iff_not, Classical.not_not] at *; constructor <;> omega) | (simp only [Bool.and_eq_true, Bool.or_eq_true, Bool.not_eq_true', Bool.and_eq_false_iff, Bool.or_eq_false_iff, Bool.not_eq_false', decide_eq_true_eq, decide_eq_false_iff_not, Classical.not_not, lt, List.length_cons, List.length_nil, List.length_append, List.length_map, List.length_reverse, List.length_set, rangeI_length] at *; constructor <;> omega))) px_int) (fun hc3 => ?_) (fun hc3 => ?_)
    · try simp only [Bool.and_eq_true, Bool.or_eq_true, Bool.not_eq_true', Bool.and_eq_false_iff, Bool.or_eq_false_iff, Bool.not_eq_false', decide_eq_true_eq, decide_eq_false_iff_not, Classical.not_not] at hc3
      exact sx_retI (mr := (fun r => r)) (rets_ret) rfl (px_share (px_listof (.is _) T.list_ (px_var 0 rfl)))
    · try simp only [Bool.and_eq_true, Bool.or_eq_true, Bool.not_eq_true', Bool.and_eq_false_iff, Bool.or_eq_false_iff, Bool.not_eq_false', decide_eq_true_eq, decide_eq_false_iff_not, Classical.not_not] at hc3
      refine sx_nil ?_
      refine sx_set 4 (px_share (px_call D__law_cut (a_phrases, (m__law_draws (m__law_cell a_script (2 : Int)) (repL ([(4 : Int)] : List Int) a_size))) (by show GoodP (a_phrases) ∧ totP (a_phrases) ≤ ((m__law_draws (m__law_cell a_script (2 : Int)) (repL ([(4 : Int)] : List Int) a_size))).length; exact cut_pre (by first | exact hp.1 | assumption) (by first | exact hp.2 | assumption)) (hr.mono (by decide)) (ax_cons (px_var 0 rfl) (ax_cons (px_share (px_call D__law_draws ((m__law_cell a_script (2 : Int)), (repL ([(4 : Int)] : List Int) a_size)) (by show DrawsPre ((repL ([(4 : Int)] : List Int) a_size)); exact mark_pre hz) (hr.mono (by decide)) (ax_cons (px_callS D__law_cell (a_script, (2 : Int)) (by show 0 ≤ ((2 : Int)); first | omega | (have tc_ := tc (by first | assumption | exact Bool.eq_false_iff.mpr (by assumption)); omega) | (have tp_ := tp (by assumption); omega) | (simp only [Bool.and_eq_true, Bool.or_eq_true, Bool.not_eq_true', Bool.and_eq_false_iff, Bool.or_eq_false_iff, Bool.not_eq_false', decide_eq_true_eq, decide_eq_false_iff_not, Classical.not_not] at *; omega) | (simp only [Bool.and_eq_true, Bool.or_eq_true, Bool.not_eq_true', Bool.and_eq_false_iff, Bool.or_eq_false_iff, Bool.not_eq_false', decide_eq_true_eq, decide_eq_false_iff_not, Classical.not_not, lt, List.length_cons, List.length_nil, List.length_append, List.length_map, List.length_reverse, List.length_set, rangeI_length] at *; omega)) (hr.mono (by decide)) (ax_cons (px_var 2 rfl) (ax_cons px_int ax_nil)) (.is (.is .nil))) (ax_cons (px_rep (.own _) (px_list ([(4 : Int)] : List Int) (ax_cons px_int ax_nil)) (px_var 1 rfl) (by simp only [List.length_cons, List.length_nil]; rw [show sizeLine = 16777216 from sizeLine_eq]; refine ⟨?_, ?_, ?_⟩ <;> omega)) ax_nil)) (.is (.arg (.own _) .nil)))) ax_nil)) (.is (.is .nil)))) (fun v4_second h4 => ?_) sc__law_second.nd
      have p4 : SameP (a_phrases) v4_second := by rw [h4]; exact post__law_cut (a_phrases) ((m__law_draws (m__law_cell a_script (2 : Int)) (repL ([(4 : Int)] : List Int) a_size))) (by show GoodP (a_phrases) ∧ totP (a_phrases) ≤ ((m__law_draws (m__law_cell a_script (2 : Int)) (repL ([(4 : Int)] : List Int) a_size))).length; exact cut_pre (by first | exact hp.1 | assumption) (by first | exact hp.2 | assumption))
      refine sx_if (tx_gt (px_ixL (.is _) (px_var 3 rfl) px_int (by first | (constructor <;> omega) | (have tc_ := tc (by first | assumption | exact Bool.eq_false_iff.mpr (by assumption)); constructor <;> omega) | (have tp_ := tp (by assumption); constructor <;> omega) | (simp only [Bool.and_eq_true, Bool.or_eq_true, Bool.not_eq_true', Bool.and_eq_false_iff, Bool.or_eq_false_iff, Bool.not_eq_false', decide_eq_true_eq, decide_eq_false_iff_not, Classical.not_not] at *; constructor <;> omega) | (simp only [Bool.and_eq_true, Bool.or_eq_true, Bool.not_eq_true', Bool.and_eq_false_iff, Bool.or_eq_false_iff, Bool.not_eq_false', decide_eq_true_eq, decide_eq_false_iff_not, Classical.not_not, lt, List.length_cons, List.length_nil, List.length_append, List.length_map, List.length_reverse, List.length_set, rangeI_length] at *; constructor <;> omega))) px_int) (fun hc5 => ?_) (fun hc5 => ?_)
      · try simp only [Bool.and_eq_true, Bool.or_eq_true, Bool.not_eq_true', Bool.and_eq_false_iff, Bool.or_eq_false_iff, Bool.not_eq_false', decide_eq_true_eq, decide_eq_false_iff_not, Classical.not_not] at hc5
        exact sx_retI (mr := (fun r => r)) (rets_ret) rfl (px_share (px_call D__law_bent (v4_second, a_size, v1_told) (by show GoodP (v4_second) ∧ totP (v4_second) = (a_size) ∧ (v1_told).length = 3; exact bent_pre (by assumption) hp.2 (by omega)) (hr.mono (by decide)) (ax_cons (px_var 4 rfl) (ax_cons (px_var 1 rfl) (ax_cons (px_var 3 rfl) ax_nil))) (.is (.is (.is .nil)))))
      · try simp only [Bool.and_eq_true, Bool.or_eq_true, Bool.not_eq_true', Bool.and_eq_false_iff, Bool.or_eq_false_iff, Bool.not_eq_false', decide_eq_true_eq, decide_eq_false_iff_not, Classical.not_not] at hc5
        refine sx_nil ?_
        exact sx_retI (mr := (fun r => r)) (rets_ret) rfl (px_var 4 rfl)

def PP__law_second (a_phrases : (List Phr)) (a_size : Int) (a_script : Scr) (res : (List Phr)) : Prop := GoodP res
theorem post__law_second (a_phrases : (List Phr)) (a_size : Int) (a_script : Scr) (hp : GoodP a_phrases ∧ totP a_phrases = a_size) : PP__law_second a_phrases a_size a_script (m__law_second a_phrases a_size a_script) := by
  have hz := good_size hp.1 hp.2
  unfold m__law_second
  refine lt_ind (P := PP__law_second a_phrases a_size a_script) fun v1_told h1 => ?_
  obtain ⟨hL1, hD1⟩ := draws_all h1 (by exact ⟨by decide, by decide⟩)
  simp only [List.length_cons, List.length_nil] at hL1
  have f1_0 := hD1 (0 : Int) 8 rfl (by decide)
  have f1_1 := hD1 (1 : Int) 128 rfl (by decide)
  have f1_2 := hD1 (2 : Int) 128 rfl (by decide)
  clear hD1
  refine if_ind (P := PP__law_second a_phrases a_size a_script) (fun hc2 => ?_) (fun hc2 => ?_)
  · try simp only [Bool.and_eq_true, Bool.or_eq_true, Bool.not_eq_true', Bool.and_eq_false_iff, Bool.or_eq_false_iff, Bool.not_eq_false', decide_eq_true_eq, decide_eq_false_iff_not, Classical.not_not] at hc2
    show GoodP ((m__law_press (m__law_cell a_script (4 : Int)) (128 : Int)))
    have p3 : GoodP ((m__law_press (m__law_cell a_script (4 : Int)) (128 : Int))) := post__law_press ((m__law_cell a_script (4 : Int))) ((128 : Int)) (by show 1 ≤ ((128 : Int)) ∧ ((128 : Int)) ≤ 128; first | (constructor <;> omega) | (have tc_ := tc (by first | assumption | exact Bool.eq_false_iff.mpr (by assumption)); constructor <;> omega) | (have tp_ := tp (by assumption); constructor <;> omega) | (simp only [Bool.and_eq_true, Bool.or_eq_true, Bool.not_eq_true', Bool.and_eq_false_iff, Bool.or_eq_false_iff, Bool.not_eq_false', decide_eq_true_eq, decide_eq_false_iff_not, Classical.not_not] at *; constructor <;> omega) | (simp only [Bool.and_eq_true, Bool.or_eq_true, Bool.not_eq_true', Bool.and_eq_false_iff, Bool.or_eq_false_iff, Bool.not_eq_false', decide_eq_true_eq, decide_eq_false_iff_not, Classical.not_not, lt, List.length_cons, List.length_nil, List.length_append, List.length_map, List.length_reverse, List.length_set, rangeI_length] at *; constructor <;> omega))
    first | assumption | exact hp.1 | exact same_good (by assumption)
  · try simp only [Bool.and_eq_true, Bool.or_eq_true, Bool.not_eq_true', Bool.and_eq_false_iff, Bool.or_eq_false_iff, Bool.not_eq_false', decide_eq_true_eq, decide_eq_false_iff_not, Classical.not_not] at hc2
    refine if_ind (P := PP__law_second a_phrases a_size a_script) (fun hc4 => ?_) (fun hc4 => ?_)
    · try simp only [Bool.and_eq_true, Bool.or_eq_true, Bool.not_eq_true', Bool.and_eq_false_iff, Bool.or_eq_false_iff, Bool.not_eq_false', decide_eq_true_eq, decide_eq_false_iff_not, Classical.not_not] at hc4
      show GoodP (a_phrases)
      first | assumption | exact hp.1 | exact same_good (by assumption)
    · try simp only [Bool.and_eq_true, Bool.or_eq_true, Bool.not_eq_true', Bool.and_eq_false_iff, Bool.or_eq_false_iff, Bool.not_eq_false', decide_eq_true_eq, decide_eq_false_iff_not, Classical.not_not] at hc4
      refine lt_ind (P := PP__law_second a_phrases a_size a_script) fun v6_second h6 => ?_
      have p6 : SameP (a_phrases) v6_second := by rw [h6]; exact post__law_cut (a_phrases) ((m__law_draws (m__law_cell a_script (2 : Int)) (repL ([(4 : Int)] : List Int) a_size))) (by show GoodP (a_phrases) ∧ totP (a_phrases) ≤ ((m__law_draws (m__law_cell a_script (2 : Int)) (repL ([(4 : Int)] : List Int) a_size))).length; exact cut_pre (by first | exact hp.1 | assumption) (by first | exact hp.2 | assumption))
      refine if_ind (P := PP__law_second a_phrases a_size a_script) (fun hc7 => ?_) (fun hc7 => ?_)
      · try simp only [Bool.and_eq_true, Bool.or_eq_true, Bool.not_eq_true', Bool.and_eq_false_iff, Bool.or_eq_false_iff, Bool.not_eq_false', decide_eq_true_eq, decide_eq_false_iff_not, Classical.not_not] at hc7
        show GoodP ((m__law_bent v6_second a_size v1_told))
        have p8 : GoodP ((m__law_bent v6_second a_size v1_told)) := post__law_bent (v6_second) (a_size) (v1_told) (by show GoodP (v6_second) ∧ totP (v6_second) = (a_size) ∧ (v1_told).length = 3; exact bent_pre (by assumption) hp.2 (by omega))
        first | assumption | exact hp.1 | exact same_good (by assumption)
      · try simp only [Bool.and_eq_true, Bool.or_eq_true, Bool.not_eq_true', Bool.and_eq_false_iff, Bool.or_eq_false_iff, Bool.not_eq_false', decide_eq_true_eq, decide_eq_false_iff_not, Classical.not_not] at hc7
        show GoodP (v6_second)
        first | assumption | exact hp.1 | exact same_good (by assumption)
theorem tstep_go (o : List Phr) (s l m : Int) : tstep (o ++ [.copy s l]) (.copy (s + l) m) = o ++ [.copy s (l + m)] := by
  rcases goes_cases (o ++ [.copy s l]) (.copy (s + l) m) with ⟨o', s', l', m', e1, e2, e3⟩ | ⟨h, _⟩
  · have e := List.append_inj' e1 rfl
    rw [e3, ← e.1]
    have e4 : Phr.copy s l = Phr.copy s' l' := by have := e.2; injection this
    injection e4 with a1 a2
    injection e2 with b1 b2
    rw [a1, a2, b2]
  · exact absurd rfl (h o s l m rfl)
theorem tstep_no {out : List Phr} {p : Phr} (h : ∀ o s l m, out = o ++ [.copy s l] → p ≠ .copy (s + l) m) : tstep out p = out ++ [p] := by
  rcases goes_cases out p with ⟨o', s', l', m', e1, e2, e3⟩ | ⟨_, e⟩
  · exact absurd e2 (h _ _ _ _ e1)
  · exact e
def wstep (out : List Phr) (x : List Nat × Option Int) : List Phr :=
  match x.2 with
  | none => out ++ [.put x.1]
  | some t => tstep out (.copy t 1)
def posOf (p : Phr) : List (List Nat × Option Int) := (letOf p).zip (srcOf p)
theorem pos_zip : ∀ {ps : List Phr}, (∀ p ∈ ps, okP p) → (letP ps).zip (srcP ps) = (ps.map posOf).flatten
  | [], _ => rfl
  | p :: ps, h => by
    have ho := h p List.mem_cons_self
    have ih := pos_zip (ps := ps) fun q hq => h q (List.mem_cons_of_mem _ hq)
    have a1 := srcOf_len ho
    have a2 := letOf_len ho
    have e1 : letP (p :: ps) = letOf p ++ letP ps := by rw [show p :: ps = [p] ++ ps from rfl, letP_app, letP_one]
    have e2 : srcP (p :: ps) = srcOf p ++ srcP ps := by rw [show p :: ps = [p] ++ ps from rfl, srcP_app, srcP_one]
    rw [e1, e2, List.zip_append (by omega), ih]
    rfl
theorem wfold_copy (out : List Phr) (s : Int) : ∀ m : Nat, (posOf (.copy s ((m + 1 : Nat) : Int))).foldl wstep out = tstep out (.copy s ((m + 1 : Nat) : Int))
  | 0 => by
    have e : posOf (.copy s ((0 + 1 : Nat) : Int)) = [([], some s)] := by
      show (letOf (.copy s 1)).zip (srcOf (.copy s 1)) = _
      rw [srcOf_1]
      rfl
    rw [e]
    rfl
  | m + 1 => by
    have e1 : ((m + 1 + 1 : Nat) : Int) = ((m + 1 : Nat) : Int) + 1 := by omega
    have e : posOf (.copy s ((m + 1 + 1 : Nat) : Int)) = posOf (.copy s ((m + 1 : Nat) : Int)) ++ [([], some (s + ((m + 1 : Nat) : Int)))] := by
      unfold posOf
      rw [e1, srcOf_succ s (by omega), letOf_succ s s (by omega), List.zip_append (by show List.length (List.replicate _ _) = List.length ((rangeI 0 _).map _); rw [List.length_replicate, List.length_map, rangeI_length])]
      rfl
    rw [e, List.foldl_append, wfold_copy out s m]
    show tstep (tstep out _) (.copy (s + ((m + 1 : Nat) : Int)) 1) = _
    rw [e1]
    rcases goes_cases out (.copy s ((m + 1 : Nat) : Int)) with ⟨o, a, b, m', e2, e3, e4⟩ | ⟨h, e4⟩
    · injection e3 with f1 f2
      rw [e4, e2, ← f2, f1, Int.add_assoc, tstep_go, tstep_go, Int.add_assoc]
    · rw [e4, tstep_go, tstep_no fun o a b m' q1 q2 => ?_]
      injection q2 with q3 q4
      exact h o a b _ q1 (by rw [q3])
theorem wfold_one (out : List Phr) {p : Phr} (h : okP p) : (posOf p).foldl wstep out = tstep out p := by
  cases p with
  | put c =>
    rw [tstep_no fun o a b m q1 q2 => by cases q2]
    rfl
  | copy s l =>
    have h2 : 1 ≤ l := h.2
    obtain ⟨m, rfl⟩ : ∃ m : Nat, l = ((m + 1 : Nat) : Int) := ⟨(l - 1).toNat, by omega⟩
    exact wfold_copy out s m
theorem wfold_all : ∀ {ps : List Phr} (out : List Phr), (∀ p ∈ ps, okP p) → ((ps.map posOf).flatten).foldl wstep out = ps.foldl tstep out
  | [], out, _ => rfl
  | p :: ps, out, h => by
    rw [List.map_cons, List.flatten_cons, List.foldl_append, wfold_one out (h p List.mem_cons_self), List.foldl_cons]
    exact wfold_all _ fun q hq => h q (List.mem_cons_of_mem _ hq)
def DI (S : List (Option Int)) (i : Nat) (out : List Phr) : Prop :=
  (i = 0 → out = []) ∧ ∀ j x, j + 1 = i → S[j]? = some x → (x = none → ∃ o c, out = o ++ [.put c]) ∧ ∀ u, x = some u → ∃ o s l, out = o ++ [.copy s l] ∧ s + l = u + 1
theorem snoc_inj {o o' : List Phr} {x y : Phr} (h : o ++ [x] = o' ++ [y]) : o = o' ∧ x = y := by
  have e := List.append_inj' h rfl
  exact ⟨e.1, by have := e.2; injection this⟩
theorem di_none {S : List (Option Int)} {i : Nat} (out : List Phr) (c : List Nat) (hx : S[i]? = some none) : DI S (i + 1) (out ++ [.put c]) := by
  refine ⟨fun z => (by cases z), fun j x h1 h2 => ?_⟩
  have : j = i := by omega
  subst this
  rw [hx] at h2
  injection h2 with h2
  subst h2
  exact ⟨fun _ => ⟨_, _, rfl⟩, fun u z => by cases z⟩
theorem di_some {S : List (Option Int)} {i : Nat} {out : List Phr} {t s l : Int} (hx : S[i]? = some (some t)) (h : s + l = t + 1) : DI S (i + 1) (out ++ [.copy s l]) := by
  refine ⟨fun z => (by cases z), fun j x h1 h2 => ?_⟩
  have : j = i := by omega
  subst this
  rw [hx] at h2
  injection h2 with h2
  subst h2
  exact ⟨fun z => (by cases z), fun u z => ⟨_, _, _, rfl, by injection z with z; omega⟩⟩
theorem di_tstep {S : List (Option Int)} {i : Nat} {out : List Phr} {t : Int} (hx : S[i]? = some (some t)) : DI S (i + 1) (tstep out (.copy t 1)) := by
  rcases goes_cases out (.copy t 1) with ⟨o, a, b, m, e1, e2, e3⟩ | ⟨_, e⟩
  · rw [e3]
    injection e2 with f1 f2
    exact di_some hx (by omega)
  · rw [e]
    exact di_some hx rfl
theorem woven_step {L : List (List Nat)} {S : List (Option Int)} (hl : L.length = S.length) {i : Nat} {p : Int} {out : List Phr} (hp : p = i) (hi : i < L.length) (h : DI S i out) :
    (if (ix S p).isNone = true then out ++ [Phr.put (ix L p)] else if ((decide (p > (0 : Int))) && ((!(ix S (p - (1 : Int))).isNone) && (decide (((ix S p).getD 0) = (((ix S (p - (1 : Int))).getD 0) + (1 : Int)))))) = true then out.dropLast ++ [Phr.copy (ix out (-1)).start ((ix out (-1)).len + (1 : Int))] else out ++ [Phr.copy ((ix S p).getD 0) (1 : Int)]) = wstep out (ix L p, ix S p) ∧ DI S (i + 1) (wstep out (ix L p, ix S p)) := by
  subst hp
  have hS : S[i]? = some (ix S (i : Int)) := by
    have := ix_nn (xs := S) (i := (i : Int)) (by omega) (by omega)
    rw [Int.toNat_natCast] at this
    exact this
  cases hq : ix S (i : Int) with
  | none =>
    rw [hq] at hS
    exact ⟨if_pos rfl, di_none _ _ hS⟩
  | some t =>
    rw [hq] at hS
    rw [if_neg (by simp)]
    refine ⟨?_, di_tstep hS⟩
    show _ = tstep out (.copy t 1)
    by_cases h0 : i = 0
    · subst h0
      rw [if_neg (by simp), h.1 rfl, tstep_no fun o a b m q1 q2 => by simp at q1]
      rfl
    · obtain ⟨j, rfl⟩ : ∃ j, i = j + 1 := ⟨i - 1, by omega⟩
      have ej : ((j + 1 : Nat) : Int) - 1 = (j : Int) := by omega
      have hj : S[j]? = some (ix S (j : Int)) := by
        have := ix_nn (xs := S) (i := (j : Int)) (by omega) (by omega)
        rw [Int.toNat_natCast] at this
        exact this
      obtain ⟨k1, k2⟩ := h.2 j _ rfl hj
      rw [ej]
      cases hu : ix S (j : Int) with
      | none =>
        obtain ⟨o, c, eo⟩ := k1 hu
        rw [if_neg (by simp), tstep_no fun o' a b m q1 q2 => by
          rw [eo] at q1
          have := (snoc_inj q1).2
          cases this]
        rfl
      | some u =>
        obtain ⟨o, a, b, eo, hab⟩ := k2 u hu
        by_cases hc : t = u + 1
        · rw [if_pos (by simp [hc])]
          have e : tstep out (.copy t 1) = o ++ [.copy a (b + 1)] := by
            rw [eo, show t = a + b by omega, tstep_go]
          rw [e, eo, ix_snoc, List.dropLast_concat]
          rfl
        · rw [if_neg (by simp [hc]), tstep_no fun o' a' b' m q1 q2 => by
            rw [eo] at q1
            have f := (snoc_inj q1).2
            injection f with f1 f2
            injection q2 with q3 q4
            omega]
          rfl
theorem woven_is {ps : List Phr} (hg : GoodP ps) : m__law_woven (letP ps) (srcP ps) = tidyP ps := by
  have a1 := letP_len hg.2.1
  have a2 := srcP_len hg.2.1
  have hl : (letP ps).length = (srcP ps).length := by omega
  unfold tidyP
  rw [← wfold_all [] hg.2.1, ← pos_zip hg.2.1]
  have key := foldl_ix (fun i s => s = (((letP ps).zip (srcP ps)).take i).foldl wstep [] ∧ DI (srcP ps) i s) (fun (s2 : List Phr) (p : Int) => if (ix (srcP ps) p).isNone = true then s2 ++ [Phr.put (ix (letP ps) p)] else if ((decide (p > (0 : Int))) && ((!(ix (srcP ps) (p - (1 : Int))).isNone) && (decide (((ix (srcP ps) p).getD 0) = (((ix (srcP ps) (p - (1 : Int))).getD 0) + (1 : Int)))))) = true then s2.dropLast ++ [Phr.copy (ix s2 (-1)).start ((ix s2 (-1)).len + (1 : Int))] else s2 ++ [Phr.copy ((ix (srcP ps) p).getD 0) (1 : Int)]) [] (rangeI 0 (((letP ps).length : Int)).toNat) ⟨rfl, fun _ => rfl, fun j x h => by omega⟩ (fun i s x hx hI => by
    obtain ⟨r1, r2⟩ := rangeI_get hx
    have hi : i < (letP ps).length := by omega
    have w := woven_step hl (p := x) (i := i) (out := s) (by omega) hi hI.2
    have hL := ix_nn (xs := letP ps) (i := x) (by omega) (by omega)
    have hS := ix_nn (xs := srcP ps) (i := x) (by omega) (by omega)
    have ex : x.toNat = i := by omega
    rw [ex] at hL hS
    have hz : ((letP ps).zip (srcP ps))[i]? = some (ix (letP ps) x, ix (srcP ps) x) := by
      rw [List.getElem?_zip_eq_some]
      exact ⟨hL, hS⟩
    refine ⟨?_, by rw [w.1]; exact w.2⟩
    rw [w.1, take_snoc hz, List.foldl_append, ← hI.1]
    rfl)
  rw [rangeI_length, List.take_of_length_le (by rw [List.length_zip]; omega)] at key
  exact key.1
theorem foldl_seg {α β : Type} (f : α → List β) (step : List β → α → List β) (h : ∀ s x, step s x = s ++ f x) : ∀ (xs : List α) (s : List β), xs.foldl step s = s ++ (xs.map f).flatten
  | [], s => by simp
  | x :: xs, s => by
    rw [List.foldl_cons, foldl_seg f step h xs, h, List.map_cons, List.flatten_cons, List.append_assoc]
theorem src_is (ps : List Phr) : m__law_sources ps = srcP ps := by
  unfold m__law_sources
  show List.foldl _ [] ps = _
  rw [foldl_seg srcOf _ (fun s x => ?_) ps []]
  · rfl
  · cases x with
    | put c => rfl
    | copy t l =>
      show List.foldl (fun s x => s ++ [some (t + x)]) s (rangeI 0 l.toNat) = _
      rw [foldl_snoc]
      rfl
theorem rep_map {α β : Type} (c : β) : ∀ xs : List α, xs.map (fun _ => c) = List.replicate xs.length c
  | [] => rfl
  | x :: xs => by rw [List.map_cons, rep_map c xs]; rfl
theorem lets_is (ps : List Phr) : m__law_put_letters ps = letP ps := by
  unfold m__law_put_letters
  show List.foldl _ [] ps = _
  rw [foldl_seg letOf _ (fun s x => ?_) ps []]
  · rfl
  · cases x with
    | put c => rfl
    | copy t l =>
      show List.foldl (fun s x => s ++ [([] : List Nat)]) s (rangeI 0 l.toNat) = _
      rw [foldl_snoc, rep_map, rangeI_length]
      rfl
theorem range_shift (a : Int) : ∀ n : Nat, (rangeI a n).map some = (rangeI 0 n).map fun i => some (a + i)
  | 0 => rfl
  | n + 1 => by
    rw [rangeI_succ, rangeI_succ, List.map_append, List.map_append, range_shift a n]
    show _ ++ [some (a + n)] = _ ++ [some (a + (0 + n))]
    rw [Int.zero_add]
theorem csrc_is (c : CopD) : m_Copies_sources c = srcP c.ph := by
  unfold m_Copies_sources
  show List.foldl _ [] c.ph = _
  rw [foldl_seg srcOf _ (fun s x => ?_) c.ph []]
  · rfl
  · cases x with
    | put d => rfl
    | copy t l =>
      show s ++ (rangeI t (t + l - t).toNat).map some = s ++ (rangeI 0 l.toNat).map fun i => some (t + i)
      rw [range_shift, show t + l - t = l by omega]
theorem ctidy_is (c : CopD) : m_Copies_tidied c = mkCop (tidyP c.ph) := rfl
theorem flat_of {ds : List PyData} {n : Nat} (h : ∀ d ∈ ds, flatD n d = true) : flatAll n ds = true := by
  induction ds with
  | nil => rfl
  | cons d ds ih =>
    unfold flatAll
    rw [h d List.mem_cons_self, ih fun e he => h e (List.mem_cons_of_mem _ he)]
    rfl
theorem flat_phr (p : Phr) : flatD 6 (encD p) = true := by cases p <;> rfl
theorem flat_tp {ps : List Phr} (h : ps.length ≤ 128) : flatD 7 (encD (Tup.mk ps)) = true := by
  show flatD 7 (.tuple (ps.map encD)) = true
  unfold flatD
  rw [flat_of fun d hd => ?_]
  · rw [List.length_map]
    simp
    omega
  · obtain ⟨p, _, rfl⟩ := List.mem_map.mp hd
    exact flat_phr p
theorem flat_tp9 {ps : List Phr} (h : ps.length ≤ 128) : flatD 9 (encD (Tup.mk ps)) = true := by
  show flatD 9 (.tuple (ps.map encD)) = true
  unfold flatD
  rw [flat_of fun d hd => ?_]
  · rw [List.length_map]
    simp
    omega
  · obtain ⟨p, _, rfl⟩ := List.mem_map.mp hd
    cases p <;> rfl
theorem flat_oi {xs : List (Option Int)} {n : Nat} (h : xs.length ≤ 128) : flatD (n + 2) (encD xs) = true := by
  show flatD (n + 2) (.list (xs.map encD)) = true
  unfold flatD
  rw [flat_of fun d hd => ?_]
  · rw [List.length_map]
    simp
    omega
  · obtain ⟨p, _, rfl⟩ := List.mem_map.mp hd
    cases p <;> rfl
theorem srcP_le {ps : List Phr} (h : GoodP ps) : (srcP ps).length ≤ 128 := by
  have h1 := srcP_len h.2.1
  have h2 := h.2.2.1
  omega
theorem tidy_idem {ps : List Phr} (h : GoodP ps) : tidyP (tidyP ps) = tidyP ps := by
  have hs := (tidy_same h).1
  have e1 := woven_is hs.1
  rw [hs.2.2.1, hs.2.2.2, woven_is h] at e1
  exact e1.symm

def m__law_tidy (a_phrases : (List Phr)) : (Tup Phr) :=
  lt (mkCop a_phrases) fun (v1_press : CopD) => 
  lt (m__law_sources a_phrases) fun (v2_sources : (List (Option Int))) => 
  lt (Tup.mk (m__law_woven (m__law_put_letters a_phrases) v2_sources)) fun (v3_due : (Tup Phr)) => 
  lt (m_Copies_tidied v1_press) fun (v4_tidied_here : CopD) => 
  (if ((!true) || (!(same (encD (Tup.mk v4_tidied_here.ph)) (encD v3_due)))) = true then default else 
  (if ((!(same (encD (m_Copies_sources v4_tidied_here)) (encD v2_sources))) || (!(same (encD (Tup.mk (m_Copies_tidied v4_tidied_here).ph)) (encD v3_due)))) = true then default else 
    (if ((!(same (encD (Tup.mk v1_press.ph)) (encD (Tup.mk a_phrases)))) || (!(same (encD (Tup.mk (m_Copies_tidied v1_press).ph)) (encD v3_due)))) = true then default else 
      (Tup.mk v4_tidied_here.ph))))
abbrev s__law_tidy : Stmt := topS 47
abbrev N__law_tidy : List Str := ["phrases", "press", "sources", "due", "tidied_here"]
theorem sc__law_tidy : FnScope N__law_tidy ["phrases"] (defScope s__law_tidy) := ⟨rfl, rfl, rfl, by decide +kernel, rfl, by decide +kernel, by decide +kernel⟩
abbrev Ok__law_tidy (P : Program) (w : World) (K : PySem.W.Frag) (mg : Str → Option Value) (base : Heap) : Prop :=
  DefOk P w K mg base 10 "_law_tidy" 1 (spD (ι := (List Phr)) K (fun i => GoodP i) (fun i => [.is i]) (fun i => .is (m__law_tidy i)))
theorem ok__law_tidy {P : Program} {w : World} {K : PySem.W.Frag} {mg : Str → Option Value} {base : Heap} {f : Addr} {fd : FuncData} (F : Fun K "_law_tidy" "_law_tidy" s__law_tidy f fd) (hm : mg "_law_tidy" = some (.ref f)) (bd : Binds K fd ["phrases"] []) (T : Bt mg) (D_Copies___init__ : Ok_Copies___init__ P w K mg base) (D__law_sources : Ok__law_sources P w K mg base) (D__law_put_letters : Ok__law_put_letters P w K mg base) (D__law_woven : Ok__law_woven P w K mg base) (D_Copies_tidied : Ok_Copies_tidied P w K mg base) (D__law_same : ∀ n, Ok__law_same n P w K mg base) (D_Copies_sources : Ok_Copies_sources P w K mg base) {CC : Addr} (KC : CK K mg CC) : Ok__law_tidy P w K mg base := by
  refine defOk (kk := 9) (R := (Tup Phr)) F hm sc__law_tidy bd _ _ (fun r => .is r) _ (fun _ => rfl) (fun i hp cdv A outer s H E hr => ?_)
  obtain ⟨a_phrases, rfl⟩ : ∃ z, z = i := ⟨i, rfl⟩
  have hp : GoodP a_phrases := hp
  have hts := tidy_same hp
  have hgl := good_len hp
  have hsl := srcP_le hp
  have hp2 := hts.1.1
  have hgl2 := good_len hp2
  show SX _ _ [.is a_phrases, .no, .no, .no, .no] _ (m__law_tidy a_phrases)
  unfold m__law_tidy
  refine sx_set 1 (px_make D_Copies___init__ a_phrases (by show GoodP (a_phrases); exact hp) (hr.mono (by decide)) (ax_cons (px_share (px_listof (.is _) T.list_ (px_var 0 rfl))) ax_nil) (.is .nil)) (fun v1_press h1 => ?_) sc__law_tidy.nd
  have e1p : v1_press.ph = a_phrases := by rw [h1]; rfl
  refine sx_set 2 (px_share (px_call D__law_sources a_phrases (by show GoodP (a_phrases); exact hp) (hr.mono (by decide)) (ax_cons (px_var 0 rfl) ax_nil) (.is .nil))) (fun v2_sources h2 => ?_) sc__law_tidy.nd
  have es : v2_sources = srcP a_phrases := by rw [h2, src_is]
  refine sx_set 3 (px_tupleof (.own _) T.tuple_ (px_call D__law_woven ((m__law_put_letters a_phrases), v2_sources) (by show ((m__law_put_letters a_phrases)).length = (v2_sources).length ∧ ((m__law_put_letters a_phrases)).length ≤ 128; have q1 := letP_len hp.2.1; have q2 := srcP_len hp.2.1; rw [lets_is, es]; constructor <;> omega) (hr.mono (by decide)) (ax_cons (px_share (px_call D__law_put_letters a_phrases (by show GoodP (a_phrases); exact hp) (hr.mono (by decide)) (ax_cons (px_var 0 rfl) ax_nil) (.is .nil))) (ax_cons (px_var 2 rfl) ax_nil)) (.is (.is .nil)))) (fun v3_due h3 => ?_) sc__law_tidy.nd
  have ed : v3_due = Tup.mk (tidyP a_phrases) := by rw [h3, es, lets_is, woven_is hp]
  refine sx_set 4 (px_meth0 D_Copies_tidied v1_press (by show GoodP (v1_press).ph; rw [e1p]; exact hp) (hr.mono (by decide)) rfl (px_var 1 rfl)) (fun v4_tidied_here h4 => ?_) sc__law_tidy.nd
  have et : v4_tidied_here = mkCop (tidyP a_phrases) := by rw [h4, ctidy_is, e1p]
  refine sx_if (tx_w (wx_or (tx_not (tx_val (px_isCop KC (px_var 4 rfl) T.isinstance_))) (fun hw5 => (wx_or1 (tx_not (tx_val (px_callS (D__law_same 7) ((encD (Tup.mk v4_tidied_here.ph)), (encD v3_due)) (by show flatD 9 ((encD (Tup.mk v4_tidied_here.ph))) = true ∧ flatD 7 ((encD v3_due)) = true; rw [et, ed]; exact ⟨flat_tp9 hgl2, flat_tp hgl2⟩) (hr.mono (by decide)) (ax_cons (px_toD (px_phrases KC.at' KC.cl KC.n1 (px_var 4 rfl))) (ax_cons (px_toD (px_var 3 rfl)) ax_nil)) (.is (.is .nil))))))))) (fun hc6 => ?_) (fun hc6 => ?_)
  · try simp only [Bool.and_eq_true, Bool.or_eq_true, Bool.not_eq_true', Bool.and_eq_false_iff, Bool.or_eq_false_iff, Bool.not_eq_false', decide_eq_true_eq, decide_eq_false_iff_not, Classical.not_not] at hc6
    exact sx_false (by exfalso; simp only [et, ed, e1p, csrc_is, ctidy_is, es, mkCop, tidy_idem hp, hts.1.2.2.1, same_refl] at hc6; simp at hc6)
  · try simp only [Bool.and_eq_true, Bool.or_eq_true, Bool.not_eq_true', Bool.and_eq_false_iff, Bool.or_eq_false_iff, Bool.not_eq_false', decide_eq_true_eq, decide_eq_false_iff_not, Classical.not_not] at hc6
    refine sx_nil ?_
    refine sx_if (tx_w (wx_or (tx_not (tx_val (px_callS (D__law_same 7) ((encD (m_Copies_sources v4_tidied_here)), (encD v2_sources)) (by show flatD 9 ((encD (m_Copies_sources v4_tidied_here))) = true ∧ flatD 7 ((encD v2_sources)) = true; rw [csrc_is, et, es]; exact ⟨flat_oi (by rw [show srcP (mkCop (tidyP a_phrases)).ph = srcP a_phrases from hts.1.2.2.1]; exact hsl), flat_oi hsl⟩) (hr.mono (by decide)) (ax_cons (px_meth0 D_Copies_sources v4_tidied_here (by show GoodP (v4_tidied_here).ph; rw [et]; exact hp2) (hr.mono (by decide)) rfl (px_var 4 rfl)) (ax_cons (px_toD (px_var 2 rfl)) ax_nil)) (.lkD (.own _) (.is .nil))))) (fun hw7 => (wx_or1 (tx_not (tx_val (px_callS (D__law_same 7) ((encD (Tup.mk (m_Copies_tidied v4_tidied_here).ph)), (encD v3_due)) (by show flatD 9 ((encD (Tup.mk (m_Copies_tidied v4_tidied_here).ph))) = true ∧ flatD 7 ((encD v3_due)) = true; rw [ctidy_is, et, ed]; exact ⟨flat_tp9 (show (tidyP (tidyP a_phrases)).length ≤ 128 by rw [tidy_idem hp]; exact hgl2), flat_tp hgl2⟩) (hr.mono (by decide)) (ax_cons (px_toD (px_phrases KC.at' KC.cl KC.n1 (px_meth0 D_Copies_tidied v4_tidied_here (by show GoodP (v4_tidied_here).ph; rw [et]; exact hp2) (hr.mono (by decide)) rfl (px_var 4 rfl)))) (ax_cons (px_toD (px_var 3 rfl)) ax_nil)) (.is (.is .nil))))))))) (fun hc8 => ?_) (fun hc8 => ?_)
    · try simp only [Bool.and_eq_true, Bool.or_eq_true, Bool.not_eq_true', Bool.and_eq_false_iff, Bool.or_eq_false_iff, Bool.not_eq_false', decide_eq_true_eq, decide_eq_false_iff_not, Classical.not_not] at hc8
      exact sx_false (by exfalso; simp only [et, ed, e1p, csrc_is, ctidy_is, es, mkCop, tidy_idem hp, hts.1.2.2.1, same_refl] at hc8; simp at hc8)
    · try simp only [Bool.and_eq_true, Bool.or_eq_true, Bool.not_eq_true', Bool.and_eq_false_iff, Bool.or_eq_false_iff, Bool.not_eq_false', decide_eq_true_eq, decide_eq_false_iff_not, Classical.not_not] at hc8
      refine sx_nil ?_
      refine sx_if (tx_w (wx_or (tx_not (tx_val (px_callS (D__law_same 7) ((encD (Tup.mk v1_press.ph)), (encD (Tup.mk a_phrases))) (by show flatD 9 ((encD (Tup.mk v1_press.ph))) = true ∧ flatD 7 ((encD (Tup.mk a_phrases))) = true; rw [e1p]; exact ⟨flat_tp9 hgl, flat_tp hgl⟩) (hr.mono (by decide)) (ax_cons (px_toD (px_phrases KC.at' KC.cl KC.n1 (px_var 1 rfl))) (ax_cons (px_toD (px_tupleof (.is _) T.tuple_ (px_var 0 rfl))) ax_nil)) (.is (.is .nil))))) (fun hw9 => (wx_or1 (tx_not (tx_val (px_callS (D__law_same 7) ((encD (Tup.mk (m_Copies_tidied v1_press).ph)), (encD v3_due)) (by show flatD 9 ((encD (Tup.mk (m_Copies_tidied v1_press).ph))) = true ∧ flatD 7 ((encD v3_due)) = true; rw [ctidy_is, e1p, ed]; exact ⟨flat_tp9 hgl2, flat_tp hgl2⟩) (hr.mono (by decide)) (ax_cons (px_toD (px_phrases KC.at' KC.cl KC.n1 (px_meth0 D_Copies_tidied v1_press (by show GoodP (v1_press).ph; rw [e1p]; exact hp) (hr.mono (by decide)) rfl (px_var 1 rfl)))) (ax_cons (px_toD (px_var 3 rfl)) ax_nil)) (.is (.is .nil))))))))) (fun hc10 => ?_) (fun hc10 => ?_)
      · try simp only [Bool.and_eq_true, Bool.or_eq_true, Bool.not_eq_true', Bool.and_eq_false_iff, Bool.or_eq_false_iff, Bool.not_eq_false', decide_eq_true_eq, decide_eq_false_iff_not, Classical.not_not] at hc10
        exact sx_false (by exfalso; simp only [et, ed, e1p, csrc_is, ctidy_is, es, mkCop, tidy_idem hp, hts.1.2.2.1, same_refl] at hc10; simp at hc10)
      · try simp only [Bool.and_eq_true, Bool.or_eq_true, Bool.not_eq_true', Bool.and_eq_false_iff, Bool.or_eq_false_iff, Bool.not_eq_false', decide_eq_true_eq, decide_eq_false_iff_not, Classical.not_not] at hc10
        refine sx_nil ?_
        exact sx_retI (mr := (fun r => r)) (rets_ret) rfl (px_phrases KC.at' KC.cl KC.n1 (px_var 4 rfl))

theorem tidy_val {ps : List Phr} (hp : GoodP ps) : m__law_tidy ps = Tup.mk (tidyP ps) := by
  have hs := tidy_same hp
  unfold m__law_tidy
  simp only [lt, src_is, lets_is, ctidy_is, csrc_is, woven_is hp, mkCop, tidy_idem hp, hs.1.2.2.1, same_refl]
  rfl

theorem letP_lay {ps : List Phr} (h : GoodP ps) : ∀ x ∈ m__law_put_letters ps, ∀ c ∈ x, c < 1114112 := by
  intro x hx c hc
  rw [lets_is] at hx
  unfold letP at hx
  obtain ⟨l, hl, hxl⟩ := List.mem_flatten.mp hx
  obtain ⟨p, hp, rfl⟩ := List.mem_map.mp hl
  have ho := h.2.1 p hp
  cases p with
  | put d =>
    obtain ⟨z, rfl, z1, z2⟩ := ho
    rw [List.mem_singleton.mp hxl] at hc
    rw [List.mem_singleton.mp hc]
    omega
  | copy s l =>
    rw [(List.mem_replicate.mp hxl).2] at hc
    cases hc

def m_law (a_script : Scr) : Bool :=
  lt (m__law_press (m__law_cell a_script (0 : Int)) (128 : Int)) fun (v1_phrases : (List Phr)) => 
  lt ((m__law_sources v1_phrases).length : Int) fun (v2_size : Int) => 
  lt (m__law_cut v1_phrases (m__law_draws (m__law_cell a_script (1 : Int)) (repL ([(4 : Int)] : List Int) v2_size))) fun (v3_first : (List Phr)) => 
  lt (m__law_second v1_phrases v2_size a_script) fun (v4_second : (List Phr)) => 
  lt (m__law_tidy v3_first) fun (v5_one : (Tup Phr)) => 
  lt (m__law_tidy v4_second) fun (v6_two : (Tup Phr)) => 
  (if (false || false) = true then false else 
  lt (decide ((m__law_sources v3_first) = (m__law_sources v4_second))) fun (v9_alike : Bool) => 
    lt (if (!decide ((m__law_put_letters v3_first) = (m__law_put_letters v4_second))) = true then lt false fun (v12_alike : Bool) => 
      v12_alike else v9_alike : Bool) fun (s11 : Bool) => 
    (if (s11 && ((decide ((v5_one.l.length : Int) > (v3_first.length : Int))) || (decide ((v5_one.l.length : Int) > (v4_second.length : Int))))) = true then false else 
    (decide ((same (encD v5_one) (encD v6_two)) = s11))))
abbrev s_law : Stmt := topS 48
abbrev N_law : List Str := ["script", "phrases", "size", "first", "second", "one", "two", "alike"]
theorem sc_law : FnScope N_law ["script"] (defScope s_law) := ⟨rfl, rfl, rfl, by decide +kernel, rfl, by decide +kernel, by decide +kernel⟩
abbrev Ok_law (P : Program) (w : World) (K : PySem.W.Frag) (mg : Str → Option Value) (base : Heap) : Prop :=
  DefOk P w K mg base 11 "law" 1 (spD (ι := Scr) K (fun i => True) (fun i => [.is i]) (fun i => .is (m_law i)))
theorem ok_law {P : Program} {w : World} {K : PySem.W.Frag} {mg : Str → Option Value} {base : Heap} {f : Addr} {fd : FuncData} (F : Fun K "law" "law" s_law f fd) (T : Bt mg) (D__law_cell : Ok__law_cell P w K mg base) (D__law_press : Ok__law_press P w K mg base) (D__law_sources : Ok__law_sources P w K mg base) (D__law_draws : Ok__law_draws P w K mg base) (D__law_cut : Ok__law_cut P w K mg base) (D__law_second : Ok__law_second P w K mg base) (D__law_tidy : Ok__law_tidy P w K mg base) (D__law_put_letters : Ok__law_put_letters P w K mg base) (D__law_same : ∀ n, Ok__law_same n P w K mg base) : FnOk P w K mg base CX0 11 f fd ["script"] (spD (ι := Scr) K (fun i => True) (fun i => [.is i]) (fun i => .is (m_law i))) := by
  refine defFn (kk := 10) (R := Bool) F sc_law _ _ (fun r => .is r) _ (fun _ => rfl) (fun i hp cdv A outer s H E hr => ?_)
  obtain ⟨a_script, rfl⟩ : ∃ z, z = i := ⟨i, rfl⟩
  show SX _ _ [.is a_script, .no, .no, .no, .no, .no, .no, .no] _ (m_law a_script)
  unfold m_law
  refine sx_set 1 (px_share (px_call D__law_press ((m__law_cell a_script (0 : Int)), (128 : Int)) (by show 1 ≤ ((128 : Int)) ∧ ((128 : Int)) ≤ 128; first | (constructor <;> omega) | (have tc_ := tc (by first | assumption | exact Bool.eq_false_iff.mpr (by assumption)); constructor <;> omega) | (have tp_ := tp (by assumption); constructor <;> omega) | (simp only [Bool.and_eq_true, Bool.or_eq_true, Bool.not_eq_true', Bool.and_eq_false_iff, Bool.or_eq_false_iff, Bool.not_eq_false', decide_eq_true_eq, decide_eq_false_iff_not, Classical.not_not] at *; constructor <;> omega) | (simp only [Bool.and_eq_true, Bool.or_eq_true, Bool.not_eq_true', Bool.and_eq_false_iff, Bool.or_eq_false_iff, Bool.not_eq_false', decide_eq_true_eq, decide_eq_false_iff_not, Classical.not_not, lt, List.length_cons, List.length_nil, List.length_append, List.length_map, List.length_reverse, List.length_set, rangeI_length] at *; constructor <;> omega)) (hr.mono (by decide)) (ax_cons (px_callS D__law_cell (a_script, (0 : Int)) (by show 0 ≤ ((0 : Int)); first | omega | (have tc_ := tc (by first | assumption | exact Bool.eq_false_iff.mpr (by assumption)); omega) | (have tp_ := tp (by assumption); omega) | (simp only [Bool.and_eq_true, Bool.or_eq_true, Bool.not_eq_true', Bool.and_eq_false_iff, Bool.or_eq_false_iff, Bool.not_eq_false', decide_eq_true_eq, decide_eq_false_iff_not, Classical.not_not] at *; omega) | (simp only [Bool.and_eq_true, Bool.or_eq_true, Bool.not_eq_true', Bool.and_eq_false_iff, Bool.or_eq_false_iff, Bool.not_eq_false', decide_eq_true_eq, decide_eq_false_iff_not, Classical.not_not, lt, List.length_cons, List.length_nil, List.length_append, List.length_map, List.length_reverse, List.length_set, rangeI_length] at *; omega)) (hr.mono (by decide)) (ax_cons (px_var 0 rfl) (ax_cons px_int ax_nil)) (.is (.is .nil))) (ax_cons px_int ax_nil)) (.is (.is .nil)))) (fun v1_phrases h1 => ?_) sc_law.nd
  have p1 : GoodP v1_phrases := by rw [h1]; exact post__law_press ((m__law_cell a_script (0 : Int))) ((128 : Int)) (by show 1 ≤ ((128 : Int)) ∧ ((128 : Int)) ≤ 128; first | (constructor <;> omega) | (have tc_ := tc (by first | assumption | exact Bool.eq_false_iff.mpr (by assumption)); constructor <;> omega) | (have tp_ := tp (by assumption); constructor <;> omega) | (simp only [Bool.and_eq_true, Bool.or_eq_true, Bool.not_eq_true', Bool.and_eq_false_iff, Bool.or_eq_false_iff, Bool.not_eq_false', decide_eq_true_eq, decide_eq_false_iff_not, Classical.not_not] at *; constructor <;> omega) | (simp only [Bool.and_eq_true, Bool.or_eq_true, Bool.not_eq_true', Bool.and_eq_false_iff, Bool.or_eq_false_iff, Bool.not_eq_false', decide_eq_true_eq, decide_eq_false_iff_not, Classical.not_not, lt, List.length_cons, List.length_nil, List.length_append, List.length_map, List.length_reverse, List.length_set, rangeI_length] at *; constructor <;> omega))
  refine sx_set 2 (px_len (.own _) T.len_ (px_call D__law_sources v1_phrases (by show GoodP (v1_phrases); first | exact hp | assumption | exact same_good (by assumption)) (hr.mono (by decide)) (ax_cons (px_var 1 rfl) ax_nil) (.is .nil))) (fun v2_size h2 => ?_) sc_law.nd
  have hs : totP v1_phrases = v2_size := by rw [h2, src_is]; have := srcP_len p1.2.1; omega
  have hz := good_size p1 hs
  refine sx_set 3 (px_share (px_call D__law_cut (v1_phrases, (m__law_draws (m__law_cell a_script (1 : Int)) (repL ([(4 : Int)] : List Int) v2_size))) (by show GoodP (v1_phrases) ∧ totP (v1_phrases) ≤ ((m__law_draws (m__law_cell a_script (1 : Int)) (repL ([(4 : Int)] : List Int) v2_size))).length; exact cut_pre (by first | exact hp.1 | assumption) (by first | exact hp.2 | assumption)) (hr.mono (by decide)) (ax_cons (px_var 1 rfl) (ax_cons (px_share (px_call D__law_draws ((m__law_cell a_script (1 : Int)), (repL ([(4 : Int)] : List Int) v2_size)) (by show DrawsPre ((repL ([(4 : Int)] : List Int) v2_size)); exact mark_pre hz) (hr.mono (by decide)) (ax_cons (px_callS D__law_cell (a_script, (1 : Int)) (by show 0 ≤ ((1 : Int)); first | omega | (have tc_ := tc (by first | assumption | exact Bool.eq_false_iff.mpr (by assumption)); omega) | (have tp_ := tp (by assumption); omega) | (simp only [Bool.and_eq_true, Bool.or_eq_true, Bool.not_eq_true', Bool.and_eq_false_iff, Bool.or_eq_false_iff, Bool.not_eq_false', decide_eq_true_eq, decide_eq_false_iff_not, Classical.not_not] at *; omega) | (simp only [Bool.and_eq_true, Bool.or_eq_true, Bool.not_eq_true', Bool.and_eq_false_iff, Bool.or_eq_false_iff, Bool.not_eq_false', decide_eq_true_eq, decide_eq_false_iff_not, Classical.not_not, lt, List.length_cons, List.length_nil, List.length_append, List.length_map, List.length_reverse, List.length_set, rangeI_length] at *; omega)) (hr.mono (by decide)) (ax_cons (px_var 0 rfl) (ax_cons px_int ax_nil)) (.is (.is .nil))) (ax_cons (px_rep (.own _) (px_list ([(4 : Int)] : List Int) (ax_cons px_int ax_nil)) (px_var 2 rfl) (by simp only [List.length_cons, List.length_nil]; rw [show sizeLine = 16777216 from sizeLine_eq]; refine ⟨?_, ?_, ?_⟩ <;> omega)) ax_nil)) (.is (.arg (.own _) .nil)))) ax_nil)) (.is (.is .nil)))) (fun v3_first h3 => ?_) sc_law.nd
  have p3 : SameP (v1_phrases) v3_first := by rw [h3]; exact post__law_cut (v1_phrases) ((m__law_draws (m__law_cell a_script (1 : Int)) (repL ([(4 : Int)] : List Int) v2_size))) (by show GoodP (v1_phrases) ∧ totP (v1_phrases) ≤ ((m__law_draws (m__law_cell a_script (1 : Int)) (repL ([(4 : Int)] : List Int) v2_size))).length; exact cut_pre (by first | exact hp.1 | assumption) (by first | exact hp.2 | assumption))
  refine sx_set 4 (px_call D__law_second (v1_phrases, v2_size, a_script) (by show GoodP (v1_phrases) ∧ totP (v1_phrases) = (v2_size); exact ⟨by assumption, by assumption⟩) (hr.mono (by decide)) (ax_cons (px_var 1 rfl) (ax_cons (px_var 2 rfl) (ax_cons (px_var 0 rfl) ax_nil))) (.is (.is (.is .nil)))) (fun v4_second h4 => ?_) sc_law.nd
  have p4 : GoodP v4_second := by rw [h4]; exact post__law_second (v1_phrases) (v2_size) (a_script) (by show GoodP (v1_phrases) ∧ totP (v1_phrases) = (v2_size); exact ⟨by assumption, by assumption⟩)
  refine sx_set 5 (px_call D__law_tidy v3_first (by show GoodP (v3_first); first | exact hp | assumption | exact same_good (by assumption)) (hr.mono (by decide)) (ax_cons (px_var 3 rfl) ax_nil) (.is .nil)) (fun v5_one h5 => ?_) sc_law.nd
  have e5 : v5_one = Tup.mk (tidyP v3_first) := by rw [h5]; exact tidy_val (same_good p3)
  have g5 := good_len (tidy_same (same_good p3)).1.1
  refine sx_set 6 (px_call D__law_tidy v4_second (by show GoodP (v4_second); first | exact hp | assumption | exact same_good (by assumption)) (hr.mono (by decide)) (ax_cons (px_var 4 rfl) ax_nil) (.is .nil)) (fun v6_two h6 => ?_) sc_law.nd
  have e6 : v6_two = Tup.mk (tidyP v4_second) := by rw [h6]; exact tidy_val p4
  have g6 := good_len (tidy_same p4).1.1
  refine sx_if (tx_w (wx_or (tx_isNT (px_var 5 rfl)) (fun hw7 => (wx_or1 (tx_isNT (px_var 6 rfl)))))) (fun hc8 => ?_) (fun hc8 => ?_)
  · try simp only [Bool.and_eq_true, Bool.or_eq_true, Bool.not_eq_true', Bool.and_eq_false_iff, Bool.or_eq_false_iff, Bool.not_eq_false', decide_eq_true_eq, decide_eq_false_iff_not, Classical.not_not] at hc8
    exact sx_retI (mr := (fun r => r)) (rets_ret) rfl px_bool
  · try simp only [Bool.and_eq_true, Bool.or_eq_true, Bool.not_eq_true', Bool.and_eq_false_iff, Bool.or_eq_false_iff, Bool.not_eq_false', decide_eq_true_eq, decide_eq_false_iff_not, Classical.not_not] at hc8
    refine sx_nil ?_
    refine sx_set 7 (px_eqQ hr.units (by intro _ _; trivial) (by intro _ _; trivial) (px_share (px_call D__law_sources v3_first (by show GoodP (v3_first); first | exact hp | assumption | exact same_good (by assumption)) (hr.mono (by decide)) (ax_cons (px_var 3 rfl) ax_nil) (.is .nil))) (px_share (px_call D__law_sources v4_second (by show GoodP (v4_second); first | exact hp | assumption | exact same_good (by assumption)) (hr.mono (by decide)) (ax_cons (px_var 4 rfl) ax_nil) (.is .nil)))) (fun v9_alike h9 => ?_) sc_law.nd
    refine sx_ifj (fun (s11 : Bool) => [.is a_script, .is v1_phrases, .is v2_size, .is v3_first, .is v4_second, .is v5_one, .is v6_two, .is s11]) (tx_neQ hr.units (by exact letP_lay p3.1) (by exact letP_lay p4) (px_share (px_call D__law_put_letters v3_first (by show GoodP (v3_first); first | exact hp | assumption | exact same_good (by assumption)) (hr.mono (by decide)) (ax_cons (px_var 3 rfl) ax_nil) (.is .nil))) (px_share (px_call D__law_put_letters v4_second (by show GoodP (v4_second); first | exact hp | assumption | exact same_good (by assumption)) (hr.mono (by decide)) (ax_cons (px_var 4 rfl) ax_nil) (.is .nil)))) (fun hc11 => ?_) (fun hc11 => ?_) (fun s11 h11 => ?_)
    · try simp only [Bool.and_eq_true, Bool.or_eq_true, Bool.not_eq_true', Bool.and_eq_false_iff, Bool.or_eq_false_iff, Bool.not_eq_false', decide_eq_true_eq, decide_eq_false_iff_not, Classical.not_not] at hc11
      refine sx_set 7 px_bool (fun v12_alike h12 => ?_) sc_law.nd
      exact sx_nil (sx_endN (.same (.same (.same (.same (.same (.same (.same (.same .nil)))))))))
    · try simp only [Bool.and_eq_true, Bool.or_eq_true, Bool.not_eq_true', Bool.and_eq_false_iff, Bool.or_eq_false_iff, Bool.not_eq_false', decide_eq_true_eq, decide_eq_false_iff_not, Classical.not_not] at hc11
      exact sx_nil (sx_endN (.same (.same (.same (.same (.same (.same (.same (.same .nil)))))))))
    refine sx_if (tx_w (wx_and (tx_val (px_var 7 rfl)) (fun hw14 => (wx_and1 (tx_w (wx_or (tx_gt (px_lenT T.len_ (px_var 5 rfl)) (px_len (.is _) T.len_ (px_var 3 rfl))) (fun hw13 => (wx_or1 (tx_gt (px_lenT T.len_ (px_var 5 rfl)) (px_len (.is _) T.len_ (px_var 4 rfl))))))))))) (fun hc15 => ?_) (fun hc15 => ?_)
    · try simp only [Bool.and_eq_true, Bool.or_eq_true, Bool.not_eq_true', Bool.and_eq_false_iff, Bool.or_eq_false_iff, Bool.not_eq_false', decide_eq_true_eq, decide_eq_false_iff_not, Classical.not_not] at hc15
      exact sx_retI (mr := (fun r => r)) (rets_ret) rfl px_bool
    · try simp only [Bool.and_eq_true, Bool.or_eq_true, Bool.not_eq_true', Bool.and_eq_false_iff, Bool.or_eq_false_iff, Bool.not_eq_false', decide_eq_true_eq, decide_eq_false_iff_not, Classical.not_not] at hc15
      refine sx_nil ?_
      exact sx_retI (mr := (fun r => r)) (rets_ret) rfl (px_eqB (px_callS (D__law_same 7) ((encD v5_one), (encD v6_two)) (by show flatD 9 ((encD v5_one)) = true ∧ flatD 7 ((encD v6_two)) = true; rw [e5, e6]; exact ⟨flat_tp9 g5, flat_tp g6⟩) (hr.mono (by decide)) (ax_cons (px_toD (px_var 5 rfl)) (ax_cons (px_toD (px_var 6 rfl)) ax_nil)) (.is (.is .nil))) (px_var 7 rfl))
theorem law_math {a b : List Phr} (ha : GoodP a) (hb : GoodP b) (q : Bool) (hq : q = (if (!decide (letP a = letP b)) = true then false else decide (srcP a = srcP b))) :
    (if (q && ((decide (((tidyP a).length : Int) > (a.length : Int))) || (decide (((tidyP a).length : Int) > (b.length : Int))))) = true then false else decide ((same (encD (Tup.mk (tidyP a))) (encD (Tup.mk (tidyP b)))) = q)) = true := by
  have sa := tidy_same ha
  have sb := tidy_same hb
  by_cases h : letP a = letP b ∧ srcP a = srcP b
  · have e : tidyP a = tidyP b := by rw [← woven_is ha, ← woven_is hb, h.1, h.2]
    have hq : q = true := by
      rw [hq, h.1, h.2]
      simp
    have l1 := sa.2
    have l2 := sb.2
    rw [← e] at l2
    rw [hq, e, same_refl, if_neg]
    · rfl
    · rw [← e]
      simp
      omega
  · have hq : q = false := by
      rw [hq]
      by_cases h1 : letP a = letP b
      · have h2 : srcP a ≠ srcP b := fun z => h ⟨h1, z⟩
        simp [h1, h2]
      · simp [h1]
    have hn : same (encD (Tup.mk (tidyP a))) (encD (Tup.mk (tidyP b))) = false := by
      cases z : same (encD (Tup.mk (tidyP a))) (encD (Tup.mk (tidyP b))) with
      | false => rfl
      | true =>
        have e := (DInj.inj _ _).mp z
        have e : tidyP a = tidyP b := by injection e
        exfalso
        apply h
        constructor
        · rw [← sa.1.2.2.2, e, sb.1.2.2.2]
        · rw [← sa.1.2.2.1, e, sb.1.2.2.1]
    rw [hq, hn]
    rfl
theorem law_true (s : Scr) : m_law s = true := by
  unfold m_law
  simp only [lt]
  have hp : GoodP (m__law_press (m__law_cell s 0) 128) := post__law_press _ _ ⟨by decide, by decide⟩
  generalize m__law_press (m__law_cell s 0) 128 = ps at hp
  have hn : totP ps = ((m__law_sources ps).length : Int) := by rw [src_is]; have := srcP_len hp.2.1; omega
  generalize ((m__law_sources ps).length : Int) = n at hn
  have h1 : SameP ps (m__law_cut ps (m__law_draws (m__law_cell s 1) (repL [4] n))) := post__law_cut _ _ (cut_pre hp hn)
  have h2 : GoodP (m__law_second ps n s) := post__law_second _ _ _ ⟨hp, hn⟩
  generalize m__law_cut ps (m__law_draws (m__law_cell s 1) (repL [4] n)) = a at h1
  generalize m__law_second ps n s = b at h2
  rw [tidy_val h1.1, tidy_val h2, src_is, src_is, lets_is, lets_is]
  exact law_math h1.1 h2 _ rfl


def spLaw (K : PySem.W.Frag) : Sp := fun vs H Q _ => ∃ (a : Addr) (ns : List Int), vs = [.ref a] ∧ SqL K H a (ns.map V.int) ∧ ns.length ≤ 63 ∧ ∀ H', Q (.bl true) H'
theorem all_mk {l : PySem.W.OpenLaw} {w : World} {K : PySem.W.Frag} {h : Heap} {mg : Str → Option Value} {fa : Addr} (X : K.In h) (G : h.Ns mainGlobals mg) (hfa : mg "law" = some (.ref fa))
    {C_Copies : Addr} (a_Copies : PySem.W.nsIn K mainGlobals "Copies" = some (some (.ref C_Copies)))
    (opg_Copies : PySem.W.plainGet K C_Copies Str.empty = true)
    (ohd_Copies : PySem.W.hasDictIn K C_Copies = true)
    (opo_Copies : PySem.W.plainOver K C_Copies = true)
    (osa_Copies : PySem.W.findIn K (.ref C_Copies) "__setattr__" = some (some (.builtin "object.__setattr__")))
    (omk_Copies : PySem.W.makesIn K C_Copies = true)
    (okc_Copies : PySem.W.keepIn K (.ref C_Copies) = true)
    (on1_Copies : PySem.W.findIn K (.ref C_Copies) "phrases" = some none)
    (on2_Copies : PySem.W.findIn K (.ref C_Copies) "_length" = some none)
    (oha_Copies : PySem.W.findIn K (.ref C_Copies) "__class__" = some (some (.builtin "object.__class__")))
    (ohm_Copies : PySem.W.mroIn K C_Copies (.type "object") = some true)
    (xhn : PySem.W.specialIn K (.builtin "object.__class__") "__get__" = some (some (.builtin "getset_descriptor.__get__")))
    (xht : PySem.W.takesIn K (.builtin "object.__class__") = some true)
    {f__law_cell : Addr} {od__law_cell an__law_cell : Option Addr} {sl__law_cell : Array (Option Value)} {oc__law_cell kV__law_cell dc__law_cell pm__law_cell cd__law_cell ct__law_cell : Value}
    (a__law_cell : PySem.W.nsIn K mainGlobals "_law_cell" = some (some (.ref f__law_cell)))
    (l__law_cell : K.lookup f__law_cell = some ⟨oc__law_cell, od__law_cell, .func (PySem.W.fnOf "_law_cell" "_law_cell" (defArgs s__law_cell) (defBody s__law_cell) (defScope s__law_cell) .none kV__law_cell dc__law_cell pm__law_cell an__law_cell cd__law_cell ct__law_cell), sl__law_cell⟩) (c__law_cell : PySem.W.codeIn K cd__law_cell "_law_cell" = true) (k__law_cell : PySem.W.keepIn K (.ref f__law_cell) = true)
    {f__law_draws : Addr} {od__law_draws an__law_draws : Option Addr} {sl__law_draws : Array (Option Value)} {oc__law_draws kV__law_draws dc__law_draws pm__law_draws cd__law_draws ct__law_draws : Value}
    (a__law_draws : PySem.W.nsIn K mainGlobals "_law_draws" = some (some (.ref f__law_draws)))
    (l__law_draws : K.lookup f__law_draws = some ⟨oc__law_draws, od__law_draws, .func (PySem.W.fnOf "_law_draws" "_law_draws" (defArgs s__law_draws) (defBody s__law_draws) (defScope s__law_draws) .none kV__law_draws dc__law_draws pm__law_draws an__law_draws cd__law_draws ct__law_draws), sl__law_draws⟩) (c__law_draws : PySem.W.codeIn K cd__law_draws "_law_draws" = true) (k__law_draws : PySem.W.keepIn K (.ref f__law_draws) = true)
    {f__law_letter : Addr} {od__law_letter an__law_letter : Option Addr} {sl__law_letter : Array (Option Value)} {oc__law_letter kV__law_letter dc__law_letter pm__law_letter cd__law_letter ct__law_letter : Value}
    (a__law_letter : PySem.W.nsIn K mainGlobals "_law_letter" = some (some (.ref f__law_letter)))
    (l__law_letter : K.lookup f__law_letter = some ⟨oc__law_letter, od__law_letter, .func (PySem.W.fnOf "_law_letter" "_law_letter" (defArgs s__law_letter) (defBody s__law_letter) (defScope s__law_letter) .none kV__law_letter dc__law_letter pm__law_letter an__law_letter cd__law_letter ct__law_letter), sl__law_letter⟩) (c__law_letter : PySem.W.codeIn K cd__law_letter "_law_letter" = true) (k__law_letter : PySem.W.keepIn K (.ref f__law_letter) = true)
    {f__law_size : Addr} {od__law_size an__law_size : Option Addr} {sl__law_size : Array (Option Value)} {oc__law_size kV__law_size dc__law_size pm__law_size cd__law_size ct__law_size : Value}
    (a__law_size : PySem.W.nsIn K mainGlobals "_law_size" = some (some (.ref f__law_size)))
    (l__law_size : K.lookup f__law_size = some ⟨oc__law_size, od__law_size, .func (PySem.W.fnOf "_law_size" "_law_size" (defArgs s__law_size) (defBody s__law_size) (defScope s__law_size) .none kV__law_size dc__law_size pm__law_size an__law_size cd__law_size ct__law_size), sl__law_size⟩) (c__law_size : PySem.W.codeIn K cd__law_size "_law_size" = true) (k__law_size : PySem.W.keepIn K (.ref f__law_size) = true)
    {f_is_letter : Addr} {od_is_letter an_is_letter : Option Addr} {sl_is_letter : Array (Option Value)} {oc_is_letter kV_is_letter dc_is_letter pm_is_letter cd_is_letter ct_is_letter : Value}
    (a_is_letter : PySem.W.nsIn K mainGlobals "is_letter" = some (some (.ref f_is_letter)))
    (l_is_letter : K.lookup f_is_letter = some ⟨oc_is_letter, od_is_letter, .func (PySem.W.fnOf "is_letter" "is_letter" (defArgs s_is_letter) (defBody s_is_letter) (defScope s_is_letter) .none kV_is_letter dc_is_letter pm_is_letter an_is_letter cd_is_letter ct_is_letter), sl_is_letter⟩) (c_is_letter : PySem.W.codeIn K cd_is_letter "is_letter" = true) (k_is_letter : PySem.W.keepIn K (.ref f_is_letter) = true)
    {f_reach : Addr} {od_reach an_reach : Option Addr} {sl_reach : Array (Option Value)} {oc_reach kV_reach dc_reach pm_reach cd_reach ct_reach : Value}
    (a_reach : PySem.W.nsIn K mainGlobals "reach" = some (some (.ref f_reach)))
    (l_reach : K.lookup f_reach = some ⟨oc_reach, od_reach, .func (PySem.W.fnOf "reach" "reach" (defArgs s_reach) (defBody s_reach) (defScope s_reach) .none kV_reach dc_reach pm_reach an_reach cd_reach ct_reach), sl_reach⟩) (c_reach : PySem.W.codeIn K cd_reach "reach" = true) (k_reach : PySem.W.keepIn K (.ref f_reach) = true)
    {f__goes_on : Addr} {od__goes_on an__goes_on : Option Addr} {sl__goes_on : Array (Option Value)} {oc__goes_on kV__goes_on dc__goes_on pm__goes_on cd__goes_on ct__goes_on : Value}
    (a__goes_on : PySem.W.nsIn K mainGlobals "_goes_on" = some (some (.ref f__goes_on)))
    (l__goes_on : K.lookup f__goes_on = some ⟨oc__goes_on, od__goes_on, .func (PySem.W.fnOf "_goes_on" "_goes_on" (defArgs s__goes_on) (defBody s__goes_on) (defScope s__goes_on) .none kV__goes_on dc__goes_on pm__goes_on an__goes_on cd__goes_on ct__goes_on), sl__goes_on⟩) (c__goes_on : PySem.W.codeIn K cd__goes_on "_goes_on" = true) (k__goes_on : PySem.W.keepIn K (.ref f__goes_on) = true)
    {f_Copies_sources : Addr} {od_Copies_sources an_Copies_sources : Option Addr} {sl_Copies_sources : Array (Option Value)} {oc_Copies_sources kV_Copies_sources dc_Copies_sources pm_Copies_sources cd_Copies_sources ct_Copies_sources : Value}
    (a_Copies_sources : PySem.W.findIn K (.ref C_Copies) "sources" = some (some (.ref f_Copies_sources))) (i_Copies_sources : PySem.W.isFn K (.ref f_Copies_sources) = true)
    (l_Copies_sources : K.lookup f_Copies_sources = some ⟨oc_Copies_sources, od_Copies_sources, .func (PySem.W.fnOf "sources" "Copies.sources" (defArgs s_Copies_sources) (defBody s_Copies_sources) (defScope s_Copies_sources) .none kV_Copies_sources dc_Copies_sources pm_Copies_sources an_Copies_sources cd_Copies_sources ct_Copies_sources), sl_Copies_sources⟩) (c_Copies_sources : PySem.W.codeIn K cd_Copies_sources "Copies.sources" = true) (k_Copies_sources : PySem.W.keepIn K (.ref f_Copies_sources) = true)
    {f__law_many : Addr} {od__law_many an__law_many : Option Addr} {sl__law_many : Array (Option Value)} {oc__law_many kV__law_many dc__law_many pm__law_many cd__law_many ct__law_many : Value}
    (a__law_many : PySem.W.nsIn K mainGlobals "_law_many" = some (some (.ref f__law_many)))
    (l__law_many : K.lookup f__law_many = some ⟨oc__law_many, od__law_many, .func (PySem.W.fnOf "_law_many" "_law_many" (defArgs s__law_many) (defBody s__law_many) (defScope s__law_many) .none kV__law_many dc__law_many pm__law_many an__law_many cd__law_many ct__law_many), sl__law_many⟩) (c__law_many : PySem.W.codeIn K cd__law_many "_law_many" = true) (k__law_many : PySem.W.keepIn K (.ref f__law_many) = true)
    {f__law_sources : Addr} {od__law_sources an__law_sources : Option Addr} {sl__law_sources : Array (Option Value)} {oc__law_sources kV__law_sources dc__law_sources pm__law_sources cd__law_sources ct__law_sources : Value}
    (a__law_sources : PySem.W.nsIn K mainGlobals "_law_sources" = some (some (.ref f__law_sources)))
    (l__law_sources : K.lookup f__law_sources = some ⟨oc__law_sources, od__law_sources, .func (PySem.W.fnOf "_law_sources" "_law_sources" (defArgs s__law_sources) (defBody s__law_sources) (defScope s__law_sources) .none kV__law_sources dc__law_sources pm__law_sources an__law_sources cd__law_sources ct__law_sources), sl__law_sources⟩) (c__law_sources : PySem.W.codeIn K cd__law_sources "_law_sources" = true) (k__law_sources : PySem.W.keepIn K (.ref f__law_sources) = true)
    {f__law_put_letters : Addr} {od__law_put_letters an__law_put_letters : Option Addr} {sl__law_put_letters : Array (Option Value)} {oc__law_put_letters kV__law_put_letters dc__law_put_letters pm__law_put_letters cd__law_put_letters ct__law_put_letters : Value}
    (a__law_put_letters : PySem.W.nsIn K mainGlobals "_law_put_letters" = some (some (.ref f__law_put_letters)))
    (l__law_put_letters : K.lookup f__law_put_letters = some ⟨oc__law_put_letters, od__law_put_letters, .func (PySem.W.fnOf "_law_put_letters" "_law_put_letters" (defArgs s__law_put_letters) (defBody s__law_put_letters) (defScope s__law_put_letters) .none kV__law_put_letters dc__law_put_letters pm__law_put_letters an__law_put_letters cd__law_put_letters ct__law_put_letters), sl__law_put_letters⟩) (c__law_put_letters : PySem.W.codeIn K cd__law_put_letters "_law_put_letters" = true) (k__law_put_letters : PySem.W.keepIn K (.ref f__law_put_letters) = true)
    {f__law_woven : Addr} {od__law_woven an__law_woven : Option Addr} {sl__law_woven : Array (Option Value)} {oc__law_woven kV__law_woven dc__law_woven pm__law_woven cd__law_woven ct__law_woven : Value}
    (a__law_woven : PySem.W.nsIn K mainGlobals "_law_woven" = some (some (.ref f__law_woven)))
    (l__law_woven : K.lookup f__law_woven = some ⟨oc__law_woven, od__law_woven, .func (PySem.W.fnOf "_law_woven" "_law_woven" (defArgs s__law_woven) (defBody s__law_woven) (defScope s__law_woven) .none kV__law_woven dc__law_woven pm__law_woven an__law_woven cd__law_woven ct__law_woven), sl__law_woven⟩) (c__law_woven : PySem.W.codeIn K cd__law_woven "_law_woven" = true) (k__law_woven : PySem.W.keepIn K (.ref f__law_woven) = true)
    {f__law_is_int : Addr} {od__law_is_int an__law_is_int : Option Addr} {sl__law_is_int : Array (Option Value)} {oc__law_is_int kV__law_is_int dc__law_is_int pm__law_is_int cd__law_is_int ct__law_is_int : Value}
    (a__law_is_int : PySem.W.nsIn K mainGlobals "_law_is_int" = some (some (.ref f__law_is_int)))
    (l__law_is_int : K.lookup f__law_is_int = some ⟨oc__law_is_int, od__law_is_int, .func (PySem.W.fnOf "_law_is_int" "_law_is_int" (defArgs s__law_is_int) (defBody s__law_is_int) (defScope s__law_is_int) .none kV__law_is_int dc__law_is_int pm__law_is_int an__law_is_int cd__law_is_int ct__law_is_int), sl__law_is_int⟩) (c__law_is_int : PySem.W.codeIn K cd__law_is_int "_law_is_int" = true) (k__law_is_int : PySem.W.keepIn K (.ref f__law_is_int) = true)
    {f__is_phrase : Addr} {od__is_phrase an__is_phrase : Option Addr} {sl__is_phrase : Array (Option Value)} {oc__is_phrase kV__is_phrase dc__is_phrase pm__is_phrase cd__is_phrase ct__is_phrase : Value}
    (a__is_phrase : PySem.W.nsIn K mainGlobals "_is_phrase" = some (some (.ref f__is_phrase)))
    (l__is_phrase : K.lookup f__is_phrase = some ⟨oc__is_phrase, od__is_phrase, .func (PySem.W.fnOf "_is_phrase" "_is_phrase" (defArgs s__is_phrase) (defBody s__is_phrase) (defScope s__is_phrase) .none kV__is_phrase dc__is_phrase pm__is_phrase an__is_phrase cd__is_phrase ct__is_phrase), sl__is_phrase⟩) (c__is_phrase : PySem.W.codeIn K cd__is_phrase "_is_phrase" = true) (k__is_phrase : PySem.W.keepIn K (.ref f__is_phrase) = true)
    {f_covered : Addr} {od_covered an_covered : Option Addr} {sl_covered : Array (Option Value)} {oc_covered kV_covered dc_covered pm_covered cd_covered ct_covered : Value}
    (a_covered : PySem.W.nsIn K mainGlobals "covered" = some (some (.ref f_covered)))
    (l_covered : K.lookup f_covered = some ⟨oc_covered, od_covered, .func (PySem.W.fnOf "covered" "covered" (defArgs s_covered) (defBody s_covered) (defScope s_covered) .none kV_covered dc_covered pm_covered an_covered cd_covered ct_covered), sl_covered⟩) (c_covered : PySem.W.codeIn K cd_covered "covered" = true) (k_covered : PySem.W.keepIn K (.ref f_covered) = true)
    {f__law_press : Addr} {od__law_press an__law_press : Option Addr} {sl__law_press : Array (Option Value)} {oc__law_press kV__law_press dc__law_press pm__law_press cd__law_press ct__law_press : Value}
    (a__law_press : PySem.W.nsIn K mainGlobals "_law_press" = some (some (.ref f__law_press)))
    (l__law_press : K.lookup f__law_press = some ⟨oc__law_press, od__law_press, .func (PySem.W.fnOf "_law_press" "_law_press" (defArgs s__law_press) (defBody s__law_press) (defScope s__law_press) .none kV__law_press dc__law_press pm__law_press an__law_press cd__law_press ct__law_press), sl__law_press⟩) (c__law_press : PySem.W.codeIn K cd__law_press "_law_press" = true) (k__law_press : PySem.W.keepIn K (.ref f__law_press) = true)
    {f__law_cut : Addr} {od__law_cut an__law_cut : Option Addr} {sl__law_cut : Array (Option Value)} {oc__law_cut kV__law_cut dc__law_cut pm__law_cut cd__law_cut ct__law_cut : Value}
    (a__law_cut : PySem.W.nsIn K mainGlobals "_law_cut" = some (some (.ref f__law_cut)))
    (l__law_cut : K.lookup f__law_cut = some ⟨oc__law_cut, od__law_cut, .func (PySem.W.fnOf "_law_cut" "_law_cut" (defArgs s__law_cut) (defBody s__law_cut) (defScope s__law_cut) .none kV__law_cut dc__law_cut pm__law_cut an__law_cut cd__law_cut ct__law_cut), sl__law_cut⟩) (c__law_cut : PySem.W.codeIn K cd__law_cut "_law_cut" = true) (k__law_cut : PySem.W.keepIn K (.ref f__law_cut) = true)
    {f__law_bent : Addr} {od__law_bent an__law_bent : Option Addr} {sl__law_bent : Array (Option Value)} {oc__law_bent kV__law_bent dc__law_bent pm__law_bent cd__law_bent ct__law_bent : Value}
    (a__law_bent : PySem.W.nsIn K mainGlobals "_law_bent" = some (some (.ref f__law_bent)))
    (l__law_bent : K.lookup f__law_bent = some ⟨oc__law_bent, od__law_bent, .func (PySem.W.fnOf "_law_bent" "_law_bent" (defArgs s__law_bent) (defBody s__law_bent) (defScope s__law_bent) .none kV__law_bent dc__law_bent pm__law_bent an__law_bent cd__law_bent ct__law_bent), sl__law_bent⟩) (c__law_bent : PySem.W.codeIn K cd__law_bent "_law_bent" = true) (k__law_bent : PySem.W.keepIn K (.ref f__law_bent) = true)
    {f__check_form : Addr} {od__check_form an__check_form : Option Addr} {sl__check_form : Array (Option Value)} {oc__check_form kV__check_form dc__check_form pm__check_form cd__check_form ct__check_form : Value}
    (a__check_form : PySem.W.nsIn K mainGlobals "_check_form" = some (some (.ref f__check_form)))
    (l__check_form : K.lookup f__check_form = some ⟨oc__check_form, od__check_form, .func (PySem.W.fnOf "_check_form" "_check_form" (defArgs s__check_form) (defBody s__check_form) (defScope s__check_form) .none kV__check_form dc__check_form pm__check_form an__check_form cd__check_form ct__check_form), sl__check_form⟩) (c__check_form : PySem.W.codeIn K cd__check_form "_check_form" = true) (k__check_form : PySem.W.keepIn K (.ref f__check_form) = true)
    {f__law_second : Addr} {od__law_second an__law_second : Option Addr} {sl__law_second : Array (Option Value)} {oc__law_second kV__law_second dc__law_second pm__law_second cd__law_second ct__law_second : Value}
    (a__law_second : PySem.W.nsIn K mainGlobals "_law_second" = some (some (.ref f__law_second)))
    (l__law_second : K.lookup f__law_second = some ⟨oc__law_second, od__law_second, .func (PySem.W.fnOf "_law_second" "_law_second" (defArgs s__law_second) (defBody s__law_second) (defScope s__law_second) .none kV__law_second dc__law_second pm__law_second an__law_second cd__law_second ct__law_second), sl__law_second⟩) (c__law_second : PySem.W.codeIn K cd__law_second "_law_second" = true) (k__law_second : PySem.W.keepIn K (.ref f__law_second) = true)
    {f_Copies___init__ : Addr} {od_Copies___init__ an_Copies___init__ : Option Addr} {sl_Copies___init__ : Array (Option Value)} {oc_Copies___init__ kV_Copies___init__ dc_Copies___init__ pm_Copies___init__ cd_Copies___init__ ct_Copies___init__ : Value}
    (a_Copies___init__ : PySem.W.findIn K (.ref C_Copies) "__init__" = some (some (.ref f_Copies___init__))) (i_Copies___init__ : PySem.W.isFn K (.ref f_Copies___init__) = true)
    (l_Copies___init__ : K.lookup f_Copies___init__ = some ⟨oc_Copies___init__, od_Copies___init__, .func (PySem.W.fnOf "__init__" "Copies.__init__" (defArgs s_Copies___init__) (defBody s_Copies___init__) (defScope s_Copies___init__) .none kV_Copies___init__ dc_Copies___init__ pm_Copies___init__ an_Copies___init__ cd_Copies___init__ ct_Copies___init__), sl_Copies___init__⟩) (c_Copies___init__ : PySem.W.codeIn K cd_Copies___init__ "Copies.__init__" = true) (k_Copies___init__ : PySem.W.keepIn K (.ref f_Copies___init__) = true)
    {f_Copies_tidied : Addr} {od_Copies_tidied an_Copies_tidied : Option Addr} {sl_Copies_tidied : Array (Option Value)} {oc_Copies_tidied kV_Copies_tidied dc_Copies_tidied pm_Copies_tidied cd_Copies_tidied ct_Copies_tidied : Value}
    (a_Copies_tidied : PySem.W.findIn K (.ref C_Copies) "tidied" = some (some (.ref f_Copies_tidied))) (i_Copies_tidied : PySem.W.isFn K (.ref f_Copies_tidied) = true)
    (l_Copies_tidied : K.lookup f_Copies_tidied = some ⟨oc_Copies_tidied, od_Copies_tidied, .func (PySem.W.fnOf "tidied" "Copies.tidied" (defArgs s_Copies_tidied) (defBody s_Copies_tidied) (defScope s_Copies_tidied) .none kV_Copies_tidied dc_Copies_tidied pm_Copies_tidied an_Copies_tidied cd_Copies_tidied ct_Copies_tidied), sl_Copies_tidied⟩) (c_Copies_tidied : PySem.W.codeIn K cd_Copies_tidied "Copies.tidied" = true) (k_Copies_tidied : PySem.W.keepIn K (.ref f_Copies_tidied) = true)
    {f__law_same : Addr} {od__law_same an__law_same : Option Addr} {sl__law_same : Array (Option Value)} {oc__law_same kV__law_same dc__law_same pm__law_same cd__law_same ct__law_same : Value}
    (a__law_same : PySem.W.nsIn K mainGlobals "_law_same" = some (some (.ref f__law_same)))
    (l__law_same : K.lookup f__law_same = some ⟨oc__law_same, od__law_same, .func (PySem.W.fnOf "_law_same" "_law_same" (defArgs s__law_same) (defBody s__law_same) (defScope s__law_same) .none kV__law_same dc__law_same pm__law_same an__law_same cd__law_same ct__law_same), sl__law_same⟩) (c__law_same : PySem.W.codeIn K cd__law_same "_law_same" = true) (k__law_same : PySem.W.keepIn K (.ref f__law_same) = true)
    {f__law_tidy : Addr} {od__law_tidy an__law_tidy : Option Addr} {sl__law_tidy : Array (Option Value)} {oc__law_tidy kV__law_tidy dc__law_tidy pm__law_tidy cd__law_tidy ct__law_tidy : Value}
    (a__law_tidy : PySem.W.nsIn K mainGlobals "_law_tidy" = some (some (.ref f__law_tidy)))
    (l__law_tidy : K.lookup f__law_tidy = some ⟨oc__law_tidy, od__law_tidy, .func (PySem.W.fnOf "_law_tidy" "_law_tidy" (defArgs s__law_tidy) (defBody s__law_tidy) (defScope s__law_tidy) .none kV__law_tidy dc__law_tidy pm__law_tidy an__law_tidy cd__law_tidy ct__law_tidy), sl__law_tidy⟩) (c__law_tidy : PySem.W.codeIn K cd__law_tidy "_law_tidy" = true) (k__law_tidy : PySem.W.keepIn K (.ref f__law_tidy) = true)
    {f_law : Addr} {od_law an_law : Option Addr} {sl_law : Array (Option Value)} {oc_law kV_law dc_law pm_law cd_law ct_law : Value}
    (a_law : PySem.W.nsIn K mainGlobals "law" = some (some (.ref f_law)))
    (l_law : K.lookup f_law = some ⟨oc_law, od_law, .func (PySem.W.fnOf "law" "law" (defArgs s_law) (defBody s_law) (defScope s_law) .none kV_law dc_law pm_law an_law cd_law ct_law), sl_law⟩) (c_law : PySem.W.codeIn K cd_law "law" = true) (k_law : PySem.W.keepIn K (.ref f_law) = true)
    (z_abs : PySem.W.nsIn K mainGlobals "abs" = some none)
    (z_bool : PySem.W.nsIn K mainGlobals "bool" = some none)
    (z_enumerate : PySem.W.nsIn K mainGlobals "enumerate" = some none)
    (z_int : PySem.W.nsIn K mainGlobals "int" = some none)
    (z_isinstance : PySem.W.nsIn K mainGlobals "isinstance" = some none)
    (z_len : PySem.W.nsIn K mainGlobals "len" = some none)
    (z_list : PySem.W.nsIn K mainGlobals "list" = some none)
    (z_min : PySem.W.nsIn K mainGlobals "min" = some none)
    (z_range : PySem.W.nsIn K mainGlobals "range" = some none)
    (z_str : PySem.W.nsIn K mainGlobals "str" = some none)
    (z_sum : PySem.W.nsIn K mainGlobals "sum" = some none)
    (z_tuple : PySem.W.nsIn K mainGlobals "tuple" = some none)
    {t_MOST : Tok} (g_MOST : PySem.W.nsIn K mainGlobals "MOST" = some (some (.int 128 t_MOST))) :
    ∃ fd : FuncData, (∀ (s : Shared) (v : Value), BindsTo s fd ⟨[v], []⟩ [("script", v)]) ∧ ∀ base : Heap, K.In base → base.Ns mainGlobals mg → FnOk l.prog w K mg base CX0 11 fa fd ["script"] (spLaw K) := by
  have e := hfa.symm.trans (PySem.W.mg_of X G a_law)
  cases e
  have T : Bt mg := ⟨PySem.W.mg_none_of X G z_abs, PySem.W.mg_none_of X G z_bool, PySem.W.mg_none_of X G z_enumerate, PySem.W.mg_none_of X G z_int, PySem.W.mg_none_of X G z_isinstance, PySem.W.mg_none_of X G z_len, PySem.W.mg_none_of X G z_list, PySem.W.mg_none_of X G z_min, PySem.W.mg_none_of X G z_range, PySem.W.mg_none_of X G z_str, PySem.W.mg_none_of X G z_sum, PySem.W.mg_none_of X G z_tuple⟩
  have C : Cs mg := ⟨⟨_, PySem.W.mg_of X G g_MOST⟩⟩
  have KC_Copies : CK K mg C_Copies := ⟨a_Copies, PySem.W.mg_of X G a_Copies, ⟨opg_Copies, ohd_Copies, opo_Copies, osa_Copies⟩, on1_Copies, on2_Copies, oha_Copies, xhn, xht, ohm_Copies⟩
  have M_Copies : Mk K C_Copies f_Copies___init__ := ⟨omk_Copies, a_Copies___init__, i_Copies___init__, okc_Copies⟩
  have F__law_cell := fun_mk (st := s__law_cell) l__law_cell c__law_cell k__law_cell
  have b__law_cell := F__law_cell.binds (ps := ["script", "k"]) fun _ _ _ _ _ _ us hl => match us, hl with | [_, _], _ => rfl
  have F__law_draws := fun_mk (st := s__law_draws) l__law_draws c__law_draws k__law_draws
  have b__law_draws := F__law_draws.binds (ps := ["cell", "sizes"]) fun _ _ _ _ _ _ us hl => match us, hl with | [_, _], _ => rfl
  have F__law_letter := fun_mk (st := s__law_letter) l__law_letter c__law_letter k__law_letter
  have b__law_letter := F__law_letter.binds (ps := ["number"]) fun _ _ _ _ _ _ us hl => match us, hl with | [_], _ => rfl
  have F__law_size := fun_mk (st := s__law_size) l__law_size c__law_size k__law_size
  have b__law_size := F__law_size.binds (ps := ["mode", "number", "most"]) fun _ _ _ _ _ _ us hl => match us, hl with | [_, _, _], _ => rfl
  have F_is_letter := fun_mk (st := s_is_letter) l_is_letter c_is_letter k_is_letter
  have b_is_letter := F_is_letter.binds (ps := ["sign"]) fun _ _ _ _ _ _ us hl => match us, hl with | [_], _ => rfl
  have F_reach := fun_mk (st := s_reach) l_reach c_reach k_reach
  have b_reach := F_reach.binds (ps := ["phrase"]) fun _ _ _ _ _ _ us hl => match us, hl with | [_], _ => rfl
  have F__goes_on := fun_mk (st := s__goes_on) l__goes_on c__goes_on k__goes_on
  have b__goes_on := F__goes_on.binds (ps := ["before", "phrase"]) fun _ _ _ _ _ _ us hl => match us, hl with | [_, _], _ => rfl
  have F_Copies_sources := fun_mk (st := s_Copies_sources) l_Copies_sources c_Copies_sources k_Copies_sources
  have b_Copies_sources := F_Copies_sources.binds (ps := ["self"]) fun _ _ _ _ _ _ us hl => match us, hl with | [_], _ => rfl
  have F__law_many := fun_mk (st := s__law_many) l__law_many c__law_many k__law_many
  have b__law_many := F__law_many.binds (ps := ["phrase"]) fun _ _ _ _ _ _ us hl => match us, hl with | [_], _ => rfl
  have F__law_sources := fun_mk (st := s__law_sources) l__law_sources c__law_sources k__law_sources
  have b__law_sources := F__law_sources.binds (ps := ["phrases"]) fun _ _ _ _ _ _ us hl => match us, hl with | [_], _ => rfl
  have F__law_put_letters := fun_mk (st := s__law_put_letters) l__law_put_letters c__law_put_letters k__law_put_letters
  have b__law_put_letters := F__law_put_letters.binds (ps := ["phrases"]) fun _ _ _ _ _ _ us hl => match us, hl with | [_], _ => rfl
  have F__law_woven := fun_mk (st := s__law_woven) l__law_woven c__law_woven k__law_woven
  have b__law_woven := F__law_woven.binds (ps := ["text", "sources"]) fun _ _ _ _ _ _ us hl => match us, hl with | [_, _], _ => rfl
  have F__law_is_int := fun_mk (st := s__law_is_int) l__law_is_int c__law_is_int k__law_is_int
  have b__law_is_int := F__law_is_int.binds (ps := ["x"]) fun _ _ _ _ _ _ us hl => match us, hl with | [_], _ => rfl
  have F__is_phrase := fun_mk (st := s__is_phrase) l__is_phrase c__is_phrase k__is_phrase
  have b__is_phrase := F__is_phrase.binds (ps := ["phrase"]) fun _ _ _ _ _ _ us hl => match us, hl with | [_], _ => rfl
  have F_covered := fun_mk (st := s_covered) l_covered c_covered k_covered
  have b_covered := F_covered.binds (ps := ["phrases"]) fun _ _ _ _ _ _ us hl => match us, hl with | [_], _ => rfl
  have F__law_press := fun_mk (st := s__law_press) l__law_press c__law_press k__law_press
  have b__law_press := F__law_press.binds (ps := ["cell", "most"]) fun _ _ _ _ _ _ us hl => match us, hl with | [_, _], _ => rfl
  have F__law_cut := fun_mk (st := s__law_cut) l__law_cut c__law_cut k__law_cut
  have b__law_cut := F__law_cut.binds (ps := ["phrases", "marks"]) fun _ _ _ _ _ _ us hl => match us, hl with | [_, _], _ => rfl
  have F__law_bent := fun_mk (st := s__law_bent) l__law_bent c__law_bent k__law_bent
  have b__law_bent := F__law_bent.binds (ps := ["phrases", "size", "told"]) fun _ _ _ _ _ _ us hl => match us, hl with | [_, _, _], _ => rfl
  have F__check_form := fun_mk (st := s__check_form) l__check_form c__check_form k__check_form
  have b__check_form := F__check_form.binds (ps := ["phrases"]) fun _ _ _ _ _ _ us hl => match us, hl with | [_], _ => rfl
  have F__law_second := fun_mk (st := s__law_second) l__law_second c__law_second k__law_second
  have b__law_second := F__law_second.binds (ps := ["phrases", "size", "script"]) fun _ _ _ _ _ _ us hl => match us, hl with | [_, _, _], _ => rfl
  have F_Copies___init__ := fun_mk (st := s_Copies___init__) l_Copies___init__ c_Copies___init__ k_Copies___init__
  have b_Copies___init__ := F_Copies___init__.binds (ps := ["self", "phrases"]) fun _ _ _ _ _ _ us hl => match us, hl with | [_, _], _ => rfl
  have F_Copies_tidied := fun_mk (st := s_Copies_tidied) l_Copies_tidied c_Copies_tidied k_Copies_tidied
  have b_Copies_tidied := F_Copies_tidied.binds (ps := ["self"]) fun _ _ _ _ _ _ us hl => match us, hl with | [_], _ => rfl
  have F__law_same := fun_mk (st := s__law_same) l__law_same c__law_same k__law_same
  have b__law_same := F__law_same.binds (ps := ["got", "due"]) fun _ _ _ _ _ _ us hl => match us, hl with | [_, _], _ => rfl
  have F__law_tidy := fun_mk (st := s__law_tidy) l__law_tidy c__law_tidy k__law_tidy
  have b__law_tidy := F__law_tidy.binds (ps := ["phrases"]) fun _ _ _ _ _ _ us hl => match us, hl with | [_], _ => rfl
  have F_law := fun_mk (st := s_law) l_law c_law k_law
  have b_law := F_law.binds (ps := ["script"]) fun _ _ _ _ _ _ us hl => match us, hl with | [_], _ => rfl
  refine ⟨PySem.W.fnOf "law" "law" (defArgs s_law) (defBody s_law) (defScope s_law) .none kV_law dc_law pm_law an_law cd_law ct_law, fun s v => .of_eq rfl, fun base _ _ => ?_⟩
  have D__law_cell : Ok__law_cell l.prog w K mg base := ok__law_cell F__law_cell (PySem.W.mg_of X G a__law_cell) b__law_cell T
  have D__law_draws : Ok__law_draws l.prog w K mg base := ok__law_draws F__law_draws (PySem.W.mg_of X G a__law_draws) b__law_draws T
  have D__law_letter : Ok__law_letter l.prog w K mg base := ok__law_letter F__law_letter (PySem.W.mg_of X G a__law_letter) b__law_letter T
  have D__law_size : Ok__law_size l.prog w K mg base := ok__law_size F__law_size (PySem.W.mg_of X G a__law_size) b__law_size T
  have D_is_letter : Ok_is_letter l.prog w K mg base := ok_is_letter F_is_letter (PySem.W.mg_of X G a_is_letter) b_is_letter T
  have D_reach : Ok_reach l.prog w K mg base := ok_reach F_reach (PySem.W.mg_of X G a_reach) b_reach
  have D__goes_on : Ok__goes_on l.prog w K mg base := ok__goes_on F__goes_on (PySem.W.mg_of X G a__goes_on) b__goes_on
  have D_Copies_sources : Ok_Copies_sources l.prog w K mg base := ok_Copies_sources F_Copies_sources KC_Copies.at' KC_Copies.cl ⟨a_Copies_sources, i_Copies_sources, k_Copies_sources⟩ b_Copies_sources T KC_Copies
  have D__law_many : Ok__law_many l.prog w K mg base := ok__law_many F__law_many (PySem.W.mg_of X G a__law_many) b__law_many
  have D__law_sources : Ok__law_sources l.prog w K mg base := ok__law_sources F__law_sources (PySem.W.mg_of X G a__law_sources) b__law_sources T
  have D__law_put_letters : Ok__law_put_letters l.prog w K mg base := ok__law_put_letters F__law_put_letters (PySem.W.mg_of X G a__law_put_letters) b__law_put_letters T
  have D__law_woven : Ok__law_woven l.prog w K mg base := ok__law_woven F__law_woven (PySem.W.mg_of X G a__law_woven) b__law_woven T
  have D__law_is_int : Ok__law_is_int l.prog w K mg base := ok__law_is_int F__law_is_int (PySem.W.mg_of X G a__law_is_int) b__law_is_int T
  have D__is_phrase : Ok__is_phrase l.prog w K mg base := ok__is_phrase F__is_phrase (PySem.W.mg_of X G a__is_phrase) b__is_phrase D_is_letter
  have D_covered : Ok_covered l.prog w K mg base := ok_covered F_covered (PySem.W.mg_of X G a_covered) b_covered T D_reach
  have D__law_press : Ok__law_press l.prog w K mg base := ok__law_press F__law_press (PySem.W.mg_of X G a__law_press) b__law_press T D__law_draws D__law_size D__law_letter
  have D__law_cut : Ok__law_cut l.prog w K mg base := ok__law_cut F__law_cut (PySem.W.mg_of X G a__law_cut) b__law_cut T D__law_many
  have D__law_bent : Ok__law_bent l.prog w K mg base := ok__law_bent F__law_bent (PySem.W.mg_of X G a__law_bent) b__law_bent T D__law_letter
  have D__check_form : Ok__check_form l.prog w K mg base := ok__check_form F__check_form (PySem.W.mg_of X G a__check_form) b__check_form T C D__is_phrase D_covered
  have D__law_second : Ok__law_second l.prog w K mg base := ok__law_second F__law_second (PySem.W.mg_of X G a__law_second) b__law_second T D__law_cell D__law_draws D__law_press D__law_cut D__law_bent
  have D_Copies___init__ : Ok_Copies___init__ l.prog w K mg base := ok_Copies___init__ F_Copies___init__ KC_Copies M_Copies b_Copies___init__ T D__check_form D_covered
  have D_Copies_tidied : Ok_Copies_tidied l.prog w K mg base := ok_Copies_tidied F_Copies_tidied KC_Copies.at' KC_Copies.cl ⟨a_Copies_tidied, i_Copies_tidied, k_Copies_tidied⟩ b_Copies_tidied D__goes_on D_Copies___init__ KC_Copies
  have D__law_same := ok__law_same (P := l.prog) (w := w) (base := base) F__law_same (PySem.W.mg_of X G a__law_same) b__law_same T D__law_is_int
  have D__law_tidy : Ok__law_tidy l.prog w K mg base := ok__law_tidy F__law_tidy (PySem.W.mg_of X G a__law_tidy) b__law_tidy T D_Copies___init__ D__law_sources D__law_put_letters D__law_woven D_Copies_tidied D__law_same D_Copies_sources KC_Copies
  have FL := ok_law (P := l.prog) (w := w) (base := base) F_law T D__law_cell D__law_press D__law_sources D__law_draws D__law_cut D__law_second D__law_tidy D__law_put_letters D__law_same
  refine FL.imp fun vs H Q E q => ?_
  obtain ⟨a, ns, rfl, hS, hl, q⟩ := q
  refine ⟨H, ⟨ns⟩, Ex.refl _, trivial, rfl, fun p hp => ?_, fun v H' Hd' _ _ _ _ r => ?_⟩
  · rw [List.mem_singleton.mp hp]
    exact ⟨⟨_, rfl, a, rfl, hS⟩, fun q => apart_is q⟩
  · obtain ⟨⟨u, r1, r2⟩, _⟩ := r
    have r1 : some v = some u := r1
    injection r1 with r1
    have r2 : u = V.bl (m_law ⟨ns⟩) := r2
    rw [r1, r2, law_true]
    exact q H'
end DX
open PySem PySem.W PyProof.Rows
set_option maxHeartbeats 0 in
theorem PySem.Challenge.cw_pressroots_k14_whole_tidied_alike_exactl_holds : PySem.Challenge.rw_pressroots_k14_whole_tidied_alike_exactl.Holds := by
  w_on; o_law; k_head; (case hw => w_witness2)
  k_fill
  refine L2.walk_of (l := PySem.Challenge.rw_pressroots_k14_whole_tidied_alike_exactl) (n := 63) (k := 11) (x := "script") (CX := fun _ => L2.CX0) (sp := fun w => DX.spLaw _) rfl (by decide) rfl ⟨rfl, by decide, by decide⟩ (fun w h Y => PySem.W.kIn_of Y) ?F (fun _ _ a ns hl _ hS => ⟨a, ns, rfl, hS, hl, fun _ => rfl⟩) (fun _ _ _ _ _ h => h)
  case F =>
    intro w mg fa h KX G hmg
    refine' DX.all_mk KX G hmg ?a_Copies ?opg_Copies ?ohd_Copies ?opo_Copies ?osa_Copies ?omk_Copies ?okc_Copies ?on1_Copies ?on2_Copies ?oha_Copies ?ohm_Copies ?xhn ?xht ?a__law_cell ?l__law_cell ?c__law_cell ?k__law_cell ?a__law_draws ?l__law_draws ?c__law_draws ?k__law_draws ?a__law_letter ?l__law_letter ?c__law_letter ?k__law_letter ?a__law_size ?l__law_size ?c__law_size ?k__law_size ?a_is_letter ?l_is_letter ?c_is_letter ?k_is_letter ?a_reach ?l_reach ?c_reach ?k_reach ?a__goes_on ?l__goes_on ?c__goes_on ?k__goes_on ?a_Copies_sources ?i_Copies_sources ?l_Copies_sources ?c_Copies_sources ?k_Copies_sources ?a__law_many ?l__law_many ?c__law_many ?k__law_many ?a__law_sources ?l__law_sources ?c__law_sources ?k__law_sources ?a__law_put_letters ?l__law_put_letters ?c__law_put_letters ?k__law_put_letters ?a__law_woven ?l__law_woven ?c__law_woven ?k__law_woven ?a__law_is_int ?l__law_is_int ?c__law_is_int ?k__law_is_int ?a__is_phrase ?l__is_phrase ?c__is_phrase ?k__is_phrase ?a_covered ?l_covered ?c_covered ?k_covered ?a__law_press ?l__law_press ?c__law_press ?k__law_press ?a__law_cut ?l__law_cut ?c__law_cut ?k__law_cut ?a__law_bent ?l__law_bent ?c__law_bent ?k__law_bent ?a__check_form ?l__check_form ?c__check_form ?k__check_form ?a__law_second ?l__law_second ?c__law_second ?k__law_second ?a_Copies___init__ ?i_Copies___init__ ?l_Copies___init__ ?c_Copies___init__ ?k_Copies___init__ ?a_Copies_tidied ?i_Copies_tidied ?l_Copies_tidied ?c_Copies_tidied ?k_Copies_tidied ?a__law_same ?l__law_same ?c__law_same ?k__law_same ?a__law_tidy ?l__law_tidy ?c__law_tidy ?k__law_tidy ?a_law ?l_law ?c_law ?k_law ?z_abs ?z_bool ?z_enumerate ?z_int ?z_isinstance ?z_len ?z_list ?z_min ?z_range ?z_str ?z_sum ?z_tuple ?g_MOST
    (case a_Copies => k_is); (case opg_Copies => k_is); (case ohd_Copies => k_is); (case opo_Copies => k_is); (case osa_Copies => k_is); (case omk_Copies => k_is); (case okc_Copies => k_is); (case on1_Copies => k_is); (case on2_Copies => k_is); (case oha_Copies => k_is); (case ohm_Copies => k_is); (case xhn => k_is); (case xht => k_is); (case a__law_cell => k_is); (case l__law_cell => k_is); (case c__law_cell => k_is); (case k__law_cell => k_is); (case a__law_draws => k_is); (case l__law_draws => k_is); (case c__law_draws => k_is); (case k__law_draws => k_is); (case a__law_letter => k_is); (case l__law_letter => k_is); (case c__law_letter => k_is); (case k__law_letter => k_is); (case a__law_size => k_is); (case l__law_size => k_is); (case c__law_size => k_is); (case k__law_size => k_is); (case a_is_letter => k_is); (case l_is_letter => k_is); (case c_is_letter => k_is); (case k_is_letter => k_is); (case a_reach => k_is); (case l_reach => k_is); (case c_reach => k_is); (case k_reach => k_is); (case a__goes_on => k_is); (case l__goes_on => k_is); (case c__goes_on => k_is); (case k__goes_on => k_is); (case a_Copies_sources => k_is); (case i_Copies_sources => k_is); (case l_Copies_sources => k_is); (case c_Copies_sources => k_is); (case k_Copies_sources => k_is); (case a__law_many => k_is); (case l__law_many => k_is); (case c__law_many => k_is); (case k__law_many => k_is); (case a__law_sources => k_is); (case l__law_sources => k_is); (case c__law_sources => k_is); (case k__law_sources => k_is); (case a__law_put_letters => k_is); (case l__law_put_letters => k_is); (case c__law_put_letters => k_is); (case k__law_put_letters => k_is); (case a__law_woven => k_is); (case l__law_woven => k_is); (case c__law_woven => k_is); (case k__law_woven => k_is); (case a__law_is_int => k_is); (case l__law_is_int => k_is); (case c__law_is_int => k_is); (case k__law_is_int => k_is); (case a__is_phrase => k_is); (case l__is_phrase => k_is); (case c__is_phrase => k_is); (case k__is_phrase => k_is); (case a_covered => k_is); (case l_covered => k_is); (case c_covered => k_is); (case k_covered => k_is); (case a__law_press => k_is); (case l__law_press => k_is); (case c__law_press => k_is); (case k__law_press => k_is); (case a__law_cut => k_is); (case l__law_cut => k_is); (case c__law_cut => k_is); (case k__law_cut => k_is); (case a__law_bent => k_is); (case l__law_bent => k_is); (case c__law_bent => k_is); (case k__law_bent => k_is); (case a__check_form => k_is); (case l__check_form => k_is); (case c__check_form => k_is); (case k__check_form => k_is); (case a__law_second => k_is); (case l__law_second => k_is); (case c__law_second => k_is); (case k__law_second => k_is); (case a_Copies___init__ => k_is); (case i_Copies___init__ => k_is); (case l_Copies___init__ => k_is); (case c_Copies___init__ => k_is); (case k_Copies___init__ => k_is); (case a_Copies_tidied => k_is); (case i_Copies_tidied => k_is); (case l_Copies_tidied => k_is); (case c_Copies_tidied => k_is); (case k_Copies_tidied => k_is); (case a__law_same => k_is); (case l__law_same => k_is); (case c__law_same => k_is); (case k__law_same => k_is); (case a__law_tidy => k_is); (case l__law_tidy => k_is); (case c__law_tidy => k_is); (case k__law_tidy => k_is); (case a_law => k_is); (case l_law => k_is); (case c_law => k_is); (case k_law => k_is); (case z_abs => k_is); (case z_bool => k_is); (case z_enumerate => k_is); (case z_int => k_is); (case z_isinstance => k_is); (case z_len => k_is); (case z_list => k_is); (case z_min => k_is); (case z_range => k_is); (case z_str => k_is); (case z_sum => k_is); (case z_tuple => k_is); (case g_MOST => k_is)