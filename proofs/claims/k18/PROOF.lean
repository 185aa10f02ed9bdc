import PyProof.Rows.All
import HandS.ForMost
import HandS.Walk
import HandS.Wide
import HandS.SetBool
import HandS.IsInst
import HandS.Evl
import HandS.Style
import HandS.Conv
import HandS.SetKeys
import HandS.Strs
import HandS.WordsExc
import HandS.TryOnly
import HandS.TryMany
import HandS.ExcIs
import HandS.ExcOwn
import HandS.SortInts
import KE.GoesEnumKw
import HandS.StrMore
import HandS.SortKw
import HandS.Deep
import HandS.Dict
import HandS.OwnIter
import HandS.IterVal
import KE.GoesZip
import KE.GoesMore
import KE.GoesEnum
import HandS.ExcInit
import HandS.ExcField
import KE.KExcSuper
import KE.KSuper
import KE.KExcIs
import KE.SortData
import PyProof.Rows.StrCountLaw
import HandS.Iter
import HandS.TupLe
import HandS.JoinGen
import HandS.EndTab
import KE.DataMinMax
import HandS.Defaults
import KE.KOpsOwn
import KE.KRevSl
import HandS.ExcCtx
import HandS.ClsMeth
import HandS.Set
import HandS.SetFor
import PyProof.Rows.SortShellAny
import HandS.ReplaceDef
import PyProof.Rows.StrStrike
import HandS.DictComp
import HandS.GenList
import PyProof.GenComp
import PySem.Challenge.RW_pressroots_k18_rules_form
set_option Elab.async false
set_option linter.all false
set_option maxRecDepth 100000
set_option maxHeartbeats 4000000
namespace DX
open PySem PySem.Spec PyProof.Rows L2
/-- what becomes of an object: a code object's table may grow, all else stays -/
@[reducible] def Kp (o : HO) (x : Option HO) : Prop := match o with
  | .tbl ps => ∃ more : Array Value, x = some (.tbl (ps ++ more)) ∧ (TriplesOk ps.toList → TriplesOk (ps ++ more).toList)
  | o => x = some o
theorem Kp.refl (o : HO) : Kp o (some o) := by
  cases o with
  | tbl ps => exact ⟨#[], by rw [Array.append_empty], fun h => by rw [Array.append_empty]; exact h⟩
  | _ => rfl
theorem Kp.some {o : HO} {x : Option HO} (h : Kp o x) : ∃ u, x = some u ∧ Kp o (some u) := by
  cases o with
  | tbl ps => obtain ⟨m, h, t⟩ := h; exact ⟨_, h, m, rfl, t⟩
  | _ => exact ⟨_, h, rfl⟩
theorem Kp.trans {o u : HO} {x : Option HO} (h : Kp o (Option.some u)) (g : Kp u x) : Kp o x := by
  cases o with
  | tbl ps =>
    obtain ⟨m, h, t⟩ := h
    injection h with h
    subst h
    obtain ⟨n, g, t2⟩ := g
    exact ⟨m ++ n, by rw [g, Array.append_assoc], fun z => by rw [← Array.append_assoc]; exact t2 (t z)⟩
  | _ =>
    injection h with h
    subst h
    exact g
def Ex (H H' : Hp) : Prop := ∀ a o, H a = some o → Kp o (H' a)
theorem Ex.refl (H : Hp) : Ex H H := fun _ o h => by rw [h]; exact Kp.refl o
theorem Ex.trans {H H1 H2 : Hp} (a : Ex H H1) (b : Ex H1 H2) : Ex H H2 := fun x o h => by
  obtain ⟨u, h1, h2⟩ := (a x o h).some
  exact h2.trans (b x u h1)
theorem Ex.of {H H' : Hp} (h : ∀ a o, H a = some o → H' a = some o) : Ex H H' := fun a o e => by rw [h a o e]; exact Kp.refl o
theorem Ex.new {H : Hp} {p : Addr} {o : HO} (h : H p = none) : Ex H (upd H p o) := Ex.of fun a u e => by
  rw [upd_ne (ne_of_none e h)]
  exact e
theorem Ex.upd2 {H H' : Hp} {p : Addr} {o : HO} (e : Ex H H') : Ex (upd H p o) (upd H' p o) := fun a u h => by
  by_cases q : a = p
  · subst q
    rw [upd_same] at h ⊢
    rw [h]
    exact Kp.refl u
  · rw [upd_ne q] at h ⊢
    exact e a u h
theorem Ex.there {H H' : Hp} (e : Ex H H') {p : Addr} (h : H p ≠ none) : H' p ≠ none := by
  cases q : H p with
  | none => exact absurd q h
  | some o =>
    obtain ⟨u, h1, _⟩ := (e p o q).some
    rw [h1]
    exact fun z => nomatch z
theorem Ex.back {H H' : Hp} (e : Ex H H') {p : Addr} (h : H' p = none) : H p = none := by
  cases q : H p with
  | none => rfl
  | some o => exact absurd h (e.there (by rw [q]; exact fun z => nomatch z))
theorem Ex.mut {H H' : Hp} {p : Addr} {o : HO} (e : Ex H H') (h : H p = none) : Ex H (upd H' p o) := fun a u ha => by
  rw [upd_ne (ne_of_none ha h)]
  exact e a u ha
/-- what is no table stays -/
theorem Ex.at {H H' : Hp} (e : Ex H H') {a : Addr} {o : HO} (h : H a = some o) (n : ∀ ps, o ≠ .tbl ps) : H' a = some o := by
  have := e a o h
  cases o with
  | tbl ps => exact absurd rfl (n ps)
  | _ => exact this
/-- something stands there, and it is no table -/
def Nt (x : Option HO) : Prop := ∃ u, x = some u ∧ ∀ ps, u ≠ .tbl ps
theorem Nt.ne {x : Option HO} (h : Nt x) : x ≠ none := by
  obtain ⟨u, e, _⟩ := h
  rw [e]
  exact fun z => nomatch z
theorem Nt.ex {H H' : Hp} {a : Addr} (h : Nt (H a)) (e : Ex H H') : H' a = H a := by
  obtain ⟨u, h1, h2⟩ := h
  rw [h1]
  exact e.at h1 h2
theorem rd_ex {H H' : Hp} {a : Addr} {u : HO} (e : Ex H H') (h : Rd H a u) (n : ∀ ps, u ≠ .tbl ps) : Rd H' a u := by
  rcases h with h | ⟨o, h⟩
  · exact Or.inl (e.at h n)
  · exact Or.inr ⟨o, e _ _ h⟩
theorem exl {K : PySem.W.Frag} {H H' : Hp} {a : Addr} {xs : List V} (e : Ex H H') (h : SqL K H a xs) : SqL K H' a xs := by
  rcases h with h | h
  · exact Or.inl (rd_ex e h fun _ z => nomatch z)
  · exact Or.inr h
theorem ext {K : PySem.W.Frag} {H H' : Hp} {a : Addr} {xs : List V} (e : Ex H H') (h : SqT K H a xs) : SqT K H' a xs := by
  rcases h with h | h
  · exact Or.inl (rd_ex e h fun _ z => nomatch z)
  · exact Or.inr h
/-- the defs whose code objects have tables that grow -/
def GenNames : List Str := []
/-- the table of such a def's code object stands at P -/
def TabOf (K : PySem.W.Frag) (P : Addr) : Prop := ∃ n ∈ GenNames, ∃ (f c : Addr) (o oc : Obj) (fd : FuncData) (vs : Array Value), PySem.W.nsIn K mainGlobals n = some (some (.ref f)) ∧ K.lookup f = some o ∧ o.data = .func fd ∧ fd.code = .ref c ∧ K.lookup c = some oc ∧ oc.data = .fields vs ∧ vs[11]? = some (.ref P)
def TabsIn (K : PySem.W.Frag) (H : Hp) : Prop := ∀ P, TabOf K P → ∃ ps, H P = some (.tbl ps) ∧ TriplesOk ps.toList
theorem TabsIn.ex {K : PySem.W.Frag} {H H' : Hp} (t : TabsIn K H) (e : Ex H H') : TabsIn K H' := fun P hP => by
  obtain ⟨ps, h1, h2⟩ := t P hP
  obtain ⟨m, h3, h4⟩ := e P _ h1
  exact ⟨_, h3, h4 h2⟩
/-- B holds what A held, and the tables -/
structure ExT (K : PySem.W.Frag) (A B : Hp) : Prop where
  ex : Ex A B
  tab : TabsIn K B
theorem ExT.trans {K : PySem.W.Frag} {A B C : Hp} (h : ExT K A B) (g : Ex B C) : ExT K A C := ⟨h.ex.trans g, h.tab.ex g⟩
/-- B holds what A holds, and A the tables -/
structure ExD (K : PySem.W.Frag) (A B : Hp) : Prop where
  ex : Ex A B
  tab : TabsIn K A
class Enc (α : Type) where
  rep : PySem.W.Frag → Hp → V → α → Prop
  mono : ∀ {K : PySem.W.Frag} {H H' : Hp} {v : V} {x : α}, Ex H H' → rep K H v x → rep K H' v x
/-- scalars: one value each -/
class Sc (α : Type) where
  val : α → V
instance {α : Type} [Sc α] : Enc α := ⟨fun _ _ v x => v = Sc.val x, fun _ h => h⟩
instance : Sc Int := ⟨V.int⟩
instance : Sc Bool := ⟨V.bl⟩
instance : Sc Unit := ⟨fun _ => V.non⟩
def mkS (x : List Nat) : Str := ⟨x.toArray⟩
theorem mkS_length (x : List Nat) : (mkS x).length = x.length := by
  show x.toArray.size = x.length
  simp
theorem mkS_append (x y : List Nat) : mkS x ++ mkS y = mkS (x ++ y) := by
  show (⟨x.toArray ++ y.toArray⟩ : Str) = ⟨(x ++ y).toArray⟩
  simp
theorem mkS_inj {x y : List Nat} (h : mkS x = mkS y) : x = y := by
  have : (mkS x).cps.toList = (mkS y).cps.toList := by rw [h]
  exact this
def PairedMono {α : Type} [Enc α] {K : PySem.W.Frag} {H H' : Hp} (e : Ex H H') {vs : List V} {xs : List α} (h : Paired (Enc.rep K H) vs xs) : Paired (Enc.rep K H') vs xs :=
  Paired.mapP h fun _ _ r => Enc.mono e r
instance encList {α : Type} [Enc α] : Enc (List α) where
  rep := fun K H v xs => ∃ a vs, v = .ref a ∧ H a = some (.lst vs) ∧ Paired (Enc.rep K H) vs xs
  mono := fun e ⟨a, vs, h1, h2, h3⟩ => ⟨a, vs, h1, e _ _ h2, PairedMono e h3⟩
instance scTx : Sc (List Nat) := ⟨fun x => V.str (mkS x)⟩
instance (priority := high) encTx : Enc (List Nat) := ⟨fun _ _ v x => v = V.str (mkS x), fun _ h => h⟩
instance encPair {α β : Type} [Enc α] [Enc β] : Enc (α × β) where
  rep := fun K H v x => ∃ a v1 v2, v = .ref a ∧ SqT K H a [v1, v2] ∧ Enc.rep K H v1 x.1 ∧ Enc.rep K H v2 x.2
  mono := fun {K H H' v x} e ⟨a, v1, v2, h1, h2, h3, h4⟩ => ⟨a, v1, v2, h1, ext e h2, Enc.mono e h3, Enc.mono e h4⟩
structure T3 (α β γ : Type) where
  a : α
  b : β
  c : γ
instance encT3 {α β γ : Type} [Enc α] [Enc β] [Enc γ] : Enc (T3 α β γ) where
  rep := fun K H v x => ∃ a v1 v2 v3, v = .ref a ∧ SqT K H a [v1, v2, v3] ∧ Enc.rep K H v1 x.a ∧ Enc.rep K H v2 x.b ∧ Enc.rep K H v3 x.c
  mono := fun e ⟨a, v1, v2, v3, h1, h2, h3, h4, h5⟩ => ⟨a, v1, v2, v3, h1, ext e h2, Enc.mono e h3, Enc.mono e h4, Enc.mono e h5⟩
/-- a tuple of any number of items of one kind -/
structure Tup (α : Type) where
  l : List α
instance encTup {α : Type} [Enc α] : Enc (Tup α) where
  rep := fun K H v x => ∃ a vs, v = .ref a ∧ SqT K H a vs ∧ Paired (Enc.rep K H) vs x.l
  mono := fun e ⟨a, vs, h1, h2, h3⟩ => ⟨a, vs, h1, ext e h2, PairedMono e h3⟩
/-- a value of any kind, as data -/
theorem dp_mono {K : PySem.W.Frag} {H H' : Hp} (e : Ex H H') : ∀ {v : V} {d : PyData}, Dp K H v d → Dp K H' v d := by
  intro v d h
  refine Dp.rec (motive_1 := fun v d _ => Dp K H' v d) (motive_2 := fun vs ds _ => DpAll K H' vs ds) .non (fun b => .bl b) (fun i => .int i) (fun x => .str x) ?_ ?_ .nil ?_ h
  · intro a xs ds h1 _ ih
    exact .lst (exl e h1) ih
  · intro a xs ds h1 _ ih
    exact .tup (ext e h1) ih
  · intro v vs d ds _ _ h1 h2
    exact .cons h1 h2
instance encDat : Enc PyData := ⟨fun K H v d => Dp K H v d, fun e h => dp_mono e h⟩
inductive Sl : Type 1
  | no : Sl
  | is {α : Type} [Enc α] (x : α) : Sl
  | own {α : Type} [Enc α] (xs : List α) : Sl
  | bor {α : Type} [Enc α] (xs : List α) : Sl
  | arg {α : Type} [Enc α] (xs : List α) : Sl
  | ownA (a : Addr) {α : Type} [Enc α] (xs : List α) : Sl
  | gen (fp : List Addr) (Φ : Hp → Hp → V → Prop) : Sl
def SlotOk (K : PySem.W.Frag) (B Hd H : Hp) (o : Option V) : Sl → Prop
  | .no => True
  | @Sl.is _ _ x => ∃ v, o = some v ∧ Enc.rep K Hd v x
  | @Sl.own _ _ xs => ∃ a vs, o = some (.ref a) ∧ B a = none ∧ Hd a = none ∧ H a = some (.lst vs) ∧ Paired (Enc.rep K Hd) vs xs
  | @Sl.bor _ _ xs => ∃ a vs, o = some (.ref a) ∧ H a = some (.lst vs) ∧ Paired (Enc.rep K Hd) vs xs
  | @Sl.arg _ _ xs => ∃ a vs, o = some (.ref a) ∧ B a ≠ none ∧ H a = some (.lst vs) ∧ Paired (Enc.rep K Hd) vs xs
  | @Sl.ownA b _ _ xs => ∃ a vs, o = some (.ref a) ∧ B a = none ∧ Hd a = none ∧ H a = some (.lst vs) ∧ Paired (Enc.rep K Hd) vs xs ∧ a = b
  | .gen fp Φ => ∃ v, o = some v ∧ (∀ a ∈ fp, B a = none ∧ Hd a = none ∧ Nt (H a)) ∧ ∀ Hd' H', Ex Hd Hd' → (∀ a ∈ fp, Hd' a = none) → (∀ a ∈ fp, H' a = H a) → Φ Hd' H' v
abbrev Slot := Option V × Sl
def owns (p : Slot) (a : Addr) : Prop := match p.2 with
  | @Sl.own _ _ _ => p.1 = some (.ref a)
  | @Sl.ownA _ _ _ _ => p.1 = some (.ref a)
  | .gen fp _ => a ∈ fp
  | _ => False
def apart (p q : Slot) : Prop := ∀ a, owns p a → owns q a → False
theorem apart.symm {p q : Slot} (h : apart p q) : apart q p := fun a x y => h a y x
/-- no list is only borrowed -/
def noBor (p : Slot) : Prop := match p.2 with
  | @Sl.bor _ _ _ => False
  | _ => True
structure HasE (K : PySem.W.Frag) (B : Hp × Hp) (H : Hp) (ρ : List Slot) (σ : L2.St) (Γ : List Sl) : Prop where
  len : σ.length = Γ.length
  ex : ∃ Hd, ExT K B.1 Hd ∧ Ex Hd H ∧ Ex B.2 H ∧ (∀ a, B.1 a = none → B.2 a ≠ none → Hd a = none) ∧ (∀ p ∈ ρ ++ σ.zip Γ, SlotOk K B.2 Hd H p.1 p.2) ∧ (ρ ++ σ.zip Γ).Pairwise apart
section
variable {K : PySem.W.Frag} {B : Hp × Hp} {H H' : Hp} {ρ : List Slot} {σ : L2.St} {Γ : List Sl} {p : Slot} {s : Sl} {o : Option V}
theorem SlotOk.mono {B1 Hd Hd' : Hp} (e1 : Ex Hd Hd') (e2 : Ex H H') (hf : ∀ a, H a ≠ none → Hd a = none → Hd' a = none) (h : SlotOk K B1 Hd H o s) : SlotOk K B1 Hd' H' o s := by
  cases s with
  | no => trivial
  | is x => obtain ⟨v, h1, h2⟩ := h; exact ⟨v, h1, Enc.mono e1 h2⟩
  | own xs =>
    obtain ⟨a, vs, h1, h2, h3, h4, h5⟩ := h
    exact ⟨a, vs, h1, h2, hf a (by rw [h4]; exact fun z => nomatch z) h3, e2 _ _ h4, PairedMono e1 h5⟩
  | bor xs => obtain ⟨a, vs, h1, h4, h5⟩ := h; exact ⟨a, vs, h1, e2 _ _ h4, PairedMono e1 h5⟩
  | arg xs => obtain ⟨a, vs, h1, h3, h4, h5⟩ := h; exact ⟨a, vs, h1, h3, e2 _ _ h4, PairedMono e1 h5⟩
  | ownA c xs =>
    obtain ⟨a, vs, h1, h2, h3, h4, h5, h6⟩ := h
    exact ⟨a, vs, h1, h2, hf a (by rw [h4]; exact fun z => nomatch z) h3, e2 _ _ h4, PairedMono e1 h5, h6⟩
  | gen fp Φ =>
    obtain ⟨v, h1, h2, h3⟩ := h
    have hk : ∀ a ∈ fp, H' a = H a := fun a ha => (h2 a ha).2.2.ex e2
    refine ⟨v, h1, fun a ha => ⟨(h2 a ha).1, hf a (h2 a ha).2.2.ne (h2 a ha).2.1, by rw [hk a ha]; exact (h2 a ha).2.2⟩, fun Hd2 H2 f1 f2 f3 => h3 Hd2 H2 (e1.trans f1) f2 fun a ha => (f3 a ha).trans (hk a ha)⟩
theorem HasE.tabs (h : HasE K B H ρ σ Γ) : TabsIn K H := by
  obtain ⟨_, Hd, h1, h2, _⟩ := h
  exact h1.tab.ex h2
theorem HasE.pop (h : HasE K B H (p :: ρ) σ Γ) : HasE K B H ρ σ Γ := by
  obtain ⟨l, Hd, h1, h2, h3, h4, h5, h6⟩ := h
  exact ⟨l, Hd, h1, h2, h3, h4, fun q hq => h5 q (List.mem_cons_of_mem _ hq), (List.pairwise_cons.mp h6).2⟩
theorem HasE.pop2 {q : Slot} (h : HasE K B H (p :: q :: ρ) σ Γ) : HasE K B H (p :: ρ) σ Γ := by
  obtain ⟨l, Hd, h1, h2, h3, h4, h5, h6⟩ := h
  refine ⟨l, Hd, h1, h2, h3, h4, fun r hr => h5 r ?_, ?_⟩
  · rcases List.mem_cons.mp hr with z | z
    · rw [z]; exact List.mem_cons_self
    · exact List.mem_cons_of_mem _ (List.mem_cons_of_mem _ z)
  · have h7 := List.pairwise_cons.mp h6
    have h8 := List.pairwise_cons.mp h7.2
    exact List.pairwise_cons.mpr ⟨fun r hr => h7.1 r (List.mem_cons_of_mem _ hr), h8.2⟩
theorem HasE.swap {q : Slot} (h : HasE K B H (p :: q :: ρ) σ Γ) : HasE K B H (q :: p :: ρ) σ Γ := by
  obtain ⟨l, Hd, h1, h2, h3, h4, h5, h6⟩ := h
  refine ⟨l, Hd, h1, h2, h3, h4, fun r hr => h5 r ?_, ?_⟩
  · rcases List.mem_cons.mp hr with z | z
    · rw [z]; exact List.mem_cons_of_mem _ List.mem_cons_self
    · rcases List.mem_cons.mp z with z | z
      · rw [z]; exact List.mem_cons_self
      · exact List.mem_cons_of_mem _ (List.mem_cons_of_mem _ z)
  · have h7 := List.pairwise_cons.mp h6
    have h8 := List.pairwise_cons.mp h7.2
    refine List.pairwise_cons.mpr ⟨fun r hr => ?_, List.pairwise_cons.mpr ⟨fun r hr => h7.1 r (List.mem_cons_of_mem _ hr), h8.2⟩⟩
    rcases List.mem_cons.mp hr with z | z
    · rw [z]; exact (h7.1 q List.mem_cons_self).symm
    · exact h8.1 r z
theorem apart_is {α : Type} [Enc α] {x : α} {o : Option V} (q : Slot) : apart (o, .is x) q := fun _ z _ => z.elim
theorem apart_bor {α : Type} [Enc α] {x : List α} {o : Option V} (q : Slot) : apart (o, .bor x) q := fun _ z _ => z.elim
theorem apart_arg {α : Type} [Enc α] {x : List α} {o : Option V} (q : Slot) : apart (o, .arg x) q := fun _ z _ => z.elim
theorem apart_no {o : Option V} (q : Slot) : apart (o, .no) q := fun _ z _ => z.elim
/-- what holds of a new top that owns nothing, told from the data -/
theorem HasE.push {s : Sl} (h : HasE K B H ρ σ Γ) (hs : ∀ q, apart (o, s) q) (hv : ∀ Hd, Ex Hd H → (∀ q ∈ ρ ++ σ.zip Γ, SlotOk K B.2 Hd H q.1 q.2) → SlotOk K B.2 Hd H o s) : HasE K B H ((o, s) :: ρ) σ Γ := by
  obtain ⟨l, Hd, h1, h2, h3, h4, h5, h6⟩ := h
  refine ⟨l, Hd, h1, h2, h3, h4, fun q hq => ?_, List.pairwise_cons.mpr ⟨fun q _ => hs q, h6⟩⟩
  rcases List.mem_cons.mp hq with z | z
  · rw [z]; exact hv Hd h2 h5
  · exact h5 q z
theorem HasE.pushSc {α : Type} [Sc α] (x : α) (h : HasE K B H ρ σ Γ) : HasE K B H ((some (Sc.val x), .is x) :: ρ) σ Γ :=
  h.push (fun q => apart_is q) fun _ _ _ => ⟨_, rfl, rfl⟩
theorem HasE.topSc {α : Type} [Sc α] {x : α} (h : HasE K B H ((o, .is x) :: ρ) σ Γ) : o = some (Sc.val x) := by
  obtain ⟨l, Hd, h1, h2, h3, h4, h5, h6⟩ := h
  obtain ⟨v, e1, e2⟩ := h5 (o, .is x) List.mem_cons_self
  have e2 : v = Sc.val x := e2
  have e1 : o = some v := e1
  rw [e1, e2]
/-- the slot at i -/
theorem zip_get {α : Type} {β : Type 1} : ∀ {σ : List α} {Γ : List β} {i : Nat} {s : β}, σ.length = Γ.length → Γ[i]? = some s → ∃ o, σ[i]? = some o ∧ (o, s) ∈ σ.zip Γ
  | [], [], _, _, _, h => by simp at h
  | [], _ :: _, _, _, l, _ => by simp at l
  | _ :: _, [], _, _, l, _ => by simp at l
  | o :: σ, t :: Γ, 0, s, _, h => by
    have e : t = s := by simpa using h
    subst e
    exact ⟨o, rfl, List.mem_cons_self⟩
  | o :: σ, t :: Γ, i + 1, s, l, h => by
    obtain ⟨o', h1, h2⟩ := zip_get (σ := σ) (Γ := Γ) (i := i) (s := s) (by simpa using l) (by simpa using h)
    exact ⟨o', by simpa using h1, List.mem_cons_of_mem _ h2⟩
theorem HasE.var {α : Type} [Enc α] {x : α} {i : Nat} (h : HasE K B H ρ σ Γ) (g : Γ[i]? = some (.is x)) : ∃ v, σ[i]? = some (some v) ∧ HasE K B H ((some v, .is x) :: ρ) σ Γ := by
  obtain ⟨o, e, m⟩ := zip_get h.len g
  obtain ⟨l, Hd, h1, h2, h3, h4, h5, h6⟩ := id h
  obtain ⟨v, e1, e2⟩ := h5 (o, .is x) (List.mem_append_right _ m)
  have e1 : o = some v := e1
  subst e1
  exact ⟨v, e, l, Hd, h1, h2, h3, h4, fun q hq => (List.mem_cons.mp hq).elim (fun z => by rw [z]; exact ⟨v, rfl, e2⟩) (h5 q), List.pairwise_cons.mpr ⟨fun q _ => apart_is q, h6⟩⟩
/-- a thing that reads as a list -/
inductive Lk {α : Type} [Enc α] : Sl → List α → Prop
  | is (xs : List α) : Lk (@Sl.is (List α) encList xs) xs
  | own (xs : List α) : Lk (.own xs) xs
  | bor (xs : List α) : Lk (.bor xs) xs
  | arg (xs : List α) : Lk (.arg xs) xs
  | ownA (a : Addr) (xs : List α) : Lk (.ownA a xs) xs
theorem Lk.ok {α : Type} [Enc α] {xs : List α} {B1 Hd : Hp} (lk : Lk s xs) (e : Ex Hd H) (h : SlotOk K B1 Hd H o s) : ∃ a vs, o = some (.ref a) ∧ H a = some (.lst vs) ∧ Paired (Enc.rep K Hd) vs xs := by
  cases lk with
  | is =>
    obtain ⟨v, h1, a, vs, h2, h3, h4⟩ := h
    exact ⟨a, vs, by rw [h1, h2], e _ _ h3, h4⟩
  | own =>
    obtain ⟨a, vs, h1, _, _, h4, h5⟩ := h
    exact ⟨a, vs, h1, h4, h5⟩
  | bor => exact h
  | arg =>
    obtain ⟨a, vs, h1, _, h4, h5⟩ := h
    exact ⟨a, vs, h1, h4, h5⟩
  | ownA =>
    obtain ⟨a, vs, h1, _, _, h4, h5, _⟩ := h
    exact ⟨a, vs, h1, h4, h5⟩
theorem paired_len {α β : Type} {F : α → β → Prop} : ∀ {l : List α} {m : List β}, Paired F l m → l.length = m.length
  | _, _, .nil => rfl
  | _, _, .cons _ t => by simp [paired_len t]
theorem paired_get {α β : Type} {F : α → β → Prop} : ∀ {l : List α} {m : List β} {i : Nat} {y : β}, Paired F l m → m[i]? = some y → ∃ x, l[i]? = some x ∧ F x y
  | _, _, _, _, .nil, h => by simp at h
  | _, _, 0, y, .cons r _, h => by
    simp at h
    subst h
    exact ⟨_, rfl, r⟩
  | _, _, i + 1, y, .cons _ t, h => by
    obtain ⟨x, h1, h2⟩ := paired_get (i := i) (y := y) t (by simpa using h)
    exact ⟨x, by simpa using h1, h2⟩
theorem paired_append {α β : Type} {F : α → β → Prop} : ∀ {l l' : List α} {m m' : List β}, Paired F l m → Paired F l' m' → Paired F (l ++ l') (m ++ m')
  | _, _, _, _, .nil, h => h
  | _, _, _, _, .cons r t, h => .cons r (paired_append t h)
theorem paired_take {α β : Type} {F : α → β → Prop} : ∀ {l : List α} {m : List β} (n : Nat), Paired F l m → Paired F (l.take n) (m.take n)
  | _, _, 0, _ => .nil
  | _, _, _ + 1, .nil => .nil
  | _, _, n + 1, .cons r t => .cons r (paired_take n t)
theorem paired_drop {α β : Type} {F : α → β → Prop} : ∀ {l : List α} {m : List β} (n : Nat), Paired F l m → Paired F (l.drop n) (m.drop n)
  | _, _, 0, h => h
  | _, _, _ + 1, .nil => .nil
  | _, _, n + 1, .cons _ t => paired_drop n t
theorem paired_set {α β : Type} {F : α → β → Prop} {x : α} {y : β} (r : F x y) : ∀ {l : List α} {m : List β} (n : Nat), Paired F l m → Paired F (l.set n x) (m.set n y)
  | _, _, _, .nil => .nil
  | _, _, 0, .cons _ t => .cons r t
  | _, _, n + 1, .cons q t => .cons q (paired_set r n t)
theorem HasE.varL {α : Type} [Enc α] {xs : List α} {i : Nat} (lk : Lk s xs) (h : HasE K B H ρ σ Γ) (g : Γ[i]? = some s) : ∃ v, σ[i]? = some (some v) ∧ HasE K B H ((some v, .bor xs) :: ρ) σ Γ := by
  obtain ⟨o, e, m⟩ := zip_get h.len g
  obtain ⟨l, Hd, h1, h2, h3, h4, h5, h6⟩ := id h
  obtain ⟨a, vs, e1, e4, e5⟩ := lk.ok h2 (h5 (o, s) (List.mem_append_right _ m))
  subst e1
  exact ⟨_, e, l, Hd, h1, h2, h3, h4, fun q hq => (List.mem_cons.mp hq).elim (fun z => by rw [z]; exact ⟨a, vs, rfl, e4, e5⟩) (h5 q), List.pairwise_cons.mpr ⟨fun q _ => apart_bor q, h6⟩⟩
/-- the top is a list: its items may come -/
theorem HasE.topL {α : Type} [Enc α] {xs : List α} (lk : Lk s xs) (h : HasE K B H ((o, s) :: ρ) σ Γ) : ∃ a vs, o = some (.ref a) ∧ H a = some (.lst vs) ∧ vs.length = xs.length ∧
    (∀ (i : Nat) (x : α), xs[i]? = some x → ∃ v, vs[i]? = some v ∧ HasE K B H ((some v, .is x) :: (o, s) :: ρ) σ Γ) := by
  obtain ⟨l, Hd, h1, h2, h3, h4, h5, h6⟩ := id h
  obtain ⟨a, vs, e1, e2, e3⟩ := lk.ok h2 (h5 (o, s) List.mem_cons_self)
  refine ⟨a, vs, e1, e2, paired_len e3, fun i x hx => ?_⟩
  obtain ⟨v, g1, g2⟩ := paired_get e3 hx
  exact ⟨v, g1, l, Hd, h1, h2, h3, h4, fun q hq => (List.mem_cons.mp hq).elim (fun z => by rw [z]; exact ⟨v, rfl, g2⟩) (h5 q), List.pairwise_cons.mpr ⟨fun q _ => apart_is q, h6⟩⟩
/-- the heap grows by untracked data -/
theorem HasE.grow (h : HasE K B H ρ σ Γ) (e : Ex H H') : HasE K B H' ρ σ Γ := by
  obtain ⟨l, Hd, h1, h2, h3, h4, h5, h6⟩ := h
  exact ⟨l, Hd, h1, h2.trans e, h3.trans e, h4, fun p hp => (h5 p hp).mono (Ex.refl _) e fun _ _ z => z, h6⟩
theorem owns_ne {B1 Hd : Hp} {q : Slot} {a b : Addr} (ok : SlotOk K B1 Hd H q.1 q.2) (h : owns q a) (hb : H b = none) : a ≠ b := by
  obtain ⟨o, s⟩ := q
  cases s with
  | own xs =>
    obtain ⟨a', vs, h1, h2, h3, h4, h5⟩ := ok
    have h : o = some (.ref a) := h
    have h1 : o = some (.ref a') := h1
    rw [h1] at h
    have e : a' = a := by
      injection h with h
      injection h
    subst e
    exact ne_of_none h4 hb
  | no => exact h.elim
  | is x => exact h.elim
  | bor x => exact h.elim
  | arg x => exact h.elim
  | ownA c xs =>
    obtain ⟨a', vs, h1, h2, h3, h4, h5, _⟩ := ok
    have h : o = some (.ref a) := h
    have h1 : o = some (.ref a') := h1
    rw [h1] at h
    have e : a' = a := by
      injection h with h
      injection h
    subst e
    exact ne_of_none h4 hb
  | gen fp Φ =>
    obtain ⟨v, h1, h2, h3⟩ := ok
    exact fun z => (h2 a h).2.2.ne (by rw [z]; exact hb)
/-- a new list of one's own -/
theorem HasE.newOwn {α : Type} [Enc α] {a : Addr} {vs : List V} {xs : List α} (h : HasE K B H ρ σ Γ) (hn : H a = none) (hv : ∀ Hd, Ex Hd H → (∀ q ∈ ρ ++ σ.zip Γ, SlotOk K B.2 Hd H q.1 q.2) → Paired (Enc.rep K Hd) vs xs) :
    HasE K B (upd H a (.lst vs)) ((some (.ref a), .own xs) :: ρ) σ Γ := by
  obtain ⟨l, Hd, h1, h2, h3, h4, h5, h6⟩ := h
  have e : Ex H (upd H a (.lst vs)) := Ex.new hn
  refine ⟨l, Hd, h1, h2.trans e, h3.trans e, h4, fun p hp => ?_, List.pairwise_cons.mpr ⟨fun q hq b z1 z2 => ?_, h6⟩⟩
  · rcases List.mem_cons.mp hp with z | z
    · rw [z]
      exact ⟨a, vs, rfl, h3.back hn, h2.back hn, upd_same, hv Hd h2 h5⟩
    · exact (h5 p z).mono (Ex.refl _) e fun _ _ z => z
  · have z1 : some (V.ref a) = some (.ref b) := z1
    injection z1 with z1
    injection z1 with z1
    exact owns_ne (h5 q hq) z2 hn z1.symm
/-- a new thing that is known by its data -/
theorem HasE.newIs {α : Type} [Enc α] {a : Addr} {u : HO} {x : α} (h : HasE K B H ρ σ Γ) (hn : H a = none) (hv : ∀ Hd, Ex Hd H → Hd a = none → (∀ q ∈ ρ ++ σ.zip Γ, SlotOk K B.2 Hd H q.1 q.2) → Enc.rep K (upd Hd a u) (.ref a) x) :
    HasE K B (upd H a u) ((some (.ref a), .is x) :: ρ) σ Γ := by
  obtain ⟨l, Hd, h1, h2, h3, h4, h5, h6⟩ := h
  have e : Ex H (upd H a u) := Ex.new hn
  have ed : Ex Hd (upd Hd a u) := Ex.new (h2.back hn)
  refine ⟨l, upd Hd a u, h1.trans ed, h2.upd2, h3.trans e, fun b b1 b2 => ?_, fun p hp => ?_, List.pairwise_cons.mpr ⟨fun q _ => apart_is q, h6⟩⟩
  · have ne : b ≠ a := fun z => by
      subst z
      exact b2 (h3.back hn)
    rw [upd_ne ne]
    exact h4 b b1 b2
  · rcases List.mem_cons.mp hp with z | z
    · rw [z]
      exact ⟨_, rfl, hv Hd h2 (h2.back hn) h5⟩
    · exact (h5 p z).mono ed e fun b b1 b2 => by
        have ne : b ≠ a := fun z => by
          subst z
          exact b1 hn
        rw [upd_ne ne]
        exact b2
/-- one's own list becomes known data -/
theorem HasE.share {α : Type} [Enc α] {xs : List α} (h : HasE K B H ((o, .own xs) :: ρ) σ Γ) : HasE K B H ((o, .is xs) :: ρ) σ Γ := by
  obtain ⟨l, Hd, h1, h2, h3, h4, h5, h6⟩ := h
  obtain ⟨a, vs, e1, e2, e3, e4, e5⟩ := h5 (o, .own xs) List.mem_cons_self
  have e1 : o = some (.ref a) := e1
  subst e1
  have ed : Ex Hd (upd Hd a (.lst vs)) := Ex.new e3
  have h7 := List.pairwise_cons.mp h6
  refine ⟨l, upd Hd a (.lst vs), h1.trans ed, fun b u hb => ?_, h3, fun b b1 b2 => ?_, fun p hp => ?_, List.pairwise_cons.mpr ⟨fun q _ => apart_is q, h7.2⟩⟩
  · by_cases z : b = a
    · subst z
      rw [upd_same] at hb
      injection hb with hb
      rw [← hb]
      exact e4
    · rw [upd_ne z] at hb
      exact h2 b u hb
  · by_cases z : b = a
    · subst z
      exact absurd e2 b2
    · rw [upd_ne z]
      exact h4 b b1 b2
  · rcases List.mem_cons.mp hp with z | z
    · rw [z]
      exact ⟨_, rfl, a, vs, rfl, upd_same, PairedMono ed e5⟩
    · have ok := h5 p (List.mem_cons_of_mem _ z)
      obtain ⟨o', s'⟩ := p
      have key : ∀ b, owns (o', s') b → b ≠ a := fun b hb z2 => by
        subst z2
        exact h7.1 _ z b rfl hb
      cases s' with
      | no => trivial
      | is x => obtain ⟨v, g1, g2⟩ := ok; exact ⟨v, g1, Enc.mono ed g2⟩
      | own ys =>
        obtain ⟨b, ws, g1, g2, g3, g4, g5⟩ := ok
        exact ⟨b, ws, g1, g2, by rw [upd_ne (key b g1)]; exact g3, g4, PairedMono ed g5⟩
      | bor ys => obtain ⟨b, ws, g1, g4, g5⟩ := ok; exact ⟨b, ws, g1, g4, PairedMono ed g5⟩
      | arg ys => obtain ⟨b, ws, g1, g3, g4, g5⟩ := ok; exact ⟨b, ws, g1, g3, g4, PairedMono ed g5⟩
      | ownA c ys =>
        obtain ⟨b, ws, g1, g2, g3, g4, g5, g6⟩ := ok
        exact ⟨b, ws, g1, g2, by rw [upd_ne (key b g1)]; exact g3, g4, PairedMono ed g5, g6⟩
      | gen fp Φ =>
        obtain ⟨w, g1, g2, g3⟩ := ok
        exact ⟨w, g1, fun b hb => ⟨(g2 b hb).1, by rw [upd_ne (key b hb)]; exact (g2 b hb).2.1, (g2 b hb).2.2⟩, fun Hd2 H2 f1 f2 f3 => g3 Hd2 H2 (ed.trans f1) f2 f3⟩
/-- a list that is only borrowed stands at a -/
def lends (p : Slot) (a : Addr) : Prop := match p.2 with
  | @Sl.bor _ _ _ => p.1 = some (.ref a)
  | _ => False
theorem HasE.lent (h : HasE K B H ρ σ Γ) {p : Slot} (hp : p ∈ ρ ++ σ.zip Γ) {a : Addr} (l : lends p a) : H a ≠ none := by
  obtain ⟨_, Hd, h1, h2, h3, h4, h5, h6⟩ := h
  have ok := h5 p hp
  obtain ⟨o, s⟩ := p
  cases s with
  | bor xs =>
    obtain ⟨b, vs, e1, e2, e3⟩ := ok
    have l : o = some (.ref a) := l
    have e1 : o = some (.ref b) := e1
    rw [l] at e1
    injection e1 with e1
    injection e1 with e1
    subst e1
    rw [e2]
    exact fun z => nomatch z
  | no => exact l.elim
  | is x => exact l.elim
  | own x => exact l.elim
  | arg x => exact l.elim
  | ownA c x => exact l.elim
  | gen fp Φ => exact l.elim
/-- one's own list at the top changes -/
theorem HasE.mut {α β : Type} [Enc α] [Enc β] {a : Addr} {vs vs' : List V} {xs : List α} {xs' : List β} (h : HasE K B H ((some (.ref a), .own xs) :: ρ) σ Γ) (hb : ∀ p ∈ ρ ++ σ.zip Γ, ¬ lends p a)
    (hv : ∀ Hd, Ex Hd H → (∀ q ∈ ρ ++ σ.zip Γ, SlotOk K B.2 Hd H q.1 q.2) → (∀ vs, H a = some (.lst vs) → Paired (Enc.rep K Hd) vs xs) → Paired (Enc.rep K Hd) vs' xs') :
    HasE K B (upd H a (.lst vs')) ((some (.ref a), .own xs') :: ρ) σ Γ := by
  obtain ⟨l, Hd, h1, h2, h3, h4, h5, h6⟩ := h
  obtain ⟨b, ws, e1, e2, e3, e4, e5⟩ := h5 _ List.mem_cons_self
  have e1 : some (V.ref a) = some (V.ref b) := e1
  injection e1 with e1
  injection e1 with e1
  subst e1
  have h7 := List.pairwise_cons.mp h6
  refine ⟨l, Hd, h1, h2.mut e3, h3.mut e2, h4, fun p hp => ?_, List.pairwise_cons.mpr ⟨fun q hq c o1 o2 => h7.1 q hq c o1 o2, h7.2⟩⟩
  rcases List.mem_cons.mp hp with z | z
  · rw [z]
    exact ⟨a, vs', rfl, e2, e3, upd_same, hv Hd h2 (fun q hq => h5 q (List.mem_cons_of_mem _ hq)) fun ws' e => by
      rw [e4] at e
      injection e with e
      injection e with e
      subst e
      exact e5⟩
  · have ok := h5 p (List.mem_cons_of_mem _ z)
    have hap := h7.1 p z
    have hl := hb p z
    obtain ⟨o', s'⟩ := p
    cases s' with
    | no => trivial
    | is x => exact ok
    | own ys =>
      obtain ⟨b, us, g1, g2, g3, g4, g5⟩ := ok
      have ne : b ≠ a := fun c => by
        subst c
        exact hap b rfl g1
      exact ⟨b, us, g1, g2, g3, by rw [upd_ne ne]; exact g4, g5⟩
    | bor ys =>
      obtain ⟨b, us, g1, g4, g5⟩ := ok
      have ne : b ≠ a := fun c => by
        subst c
        exact hl g1
      exact ⟨b, us, g1, by rw [upd_ne ne]; exact g4, g5⟩
    | arg ys =>
      obtain ⟨b, us, g1, g3, g4, g5⟩ := ok
      have ne : b ≠ a := fun c => by
        subst c
        exact g3 e2
      exact ⟨b, us, g1, g3, by rw [upd_ne ne]; exact g4, g5⟩
    | ownA c ys =>
      obtain ⟨b, us, g1, g2, g3, g4, g5, g6⟩ := ok
      have ne : b ≠ a := fun c => by
        subst c
        exact hap b rfl g1
      exact ⟨b, us, g1, g2, g3, by rw [upd_ne ne]; exact g4, g5, g6⟩
    | gen fp Φ =>
      obtain ⟨w, g1, g2, g3⟩ := ok
      have ne : ∀ b ∈ fp, b ≠ a := fun b hbb c => by
        subst c
        exact hap b rfl hbb
      exact ⟨w, g1, fun b hb => ⟨(g2 b hb).1, (g2 b hb).2.1, by rw [upd_ne (ne b hb)]; exact (g2 b hb).2.2⟩, fun Hd2 H2 f1 f2 f3 => g3 Hd2 H2 f1 f2 fun b hb => by rw [f3 b hb, upd_ne (ne b hb)]⟩
end
end DX
namespace DX
open PySem PySem.Spec PyProof.Rows L2
section
variable (X : Cx)
def wE (e : Expr) : TE := fun σ H Q => ∀ (pins : List (Addr × Obj)) (s : Shared), Inv X pins σ H s → wpAny (model X.prog X.w) X.A (eval e X.env) (EP X pins σ Q) X.xe s
def wT (e : Expr) : TT := fun σ H Q => ∀ (pins : List (Addr × Obj)) (s : Shared), Inv X pins σ H s → wpAny (model X.prog X.w) X.A (isTrue e X.env (eval e X.env)) (TP X pins σ Q) X.xe s
def wW (e : Expr) : TT := fun σ H Q => ∀ (whole : Sem Value) (pins : List (Addr × Obj)) (s : Shared), Inv X pins σ H s → wpAny (model X.prog X.w) X.A (isTrue e X.env whole) (TP X pins σ Q) X.xe s
def wA (es : List Expr) : TA := fun σ H Q => ∀ (pos : Pos) (pins : List (Addr × Obj)) (s : Shared), Inv X pins σ H s → wpAny (model X.prog X.w) X.A (spliced (backTo pos (starEach es X.env))) (AP X pins σ Q) X.xe s
def wS (sts : List Stmt) : TS := fun D σ H => ∀ (pins : List (Addr × Obj)) (s : Shared), Inv X pins σ H s → wpAny (model X.prog X.w) X.A (execs sts X.env) (SP X pins D) X.xe s
def w1 (st : Stmt) : TS := fun D σ H => ∀ (pins : List (Addr × Obj)) (s : Shared), Inv X pins σ H s → wpAny (model X.prog X.w) X.A (exec st X.env) (SP X pins D) X.xe s
def wI (tg iter : Expr) : TI := fun σ H R => ∀ (pins : List (Addr × Obj)) (s : Shared), Inv X pins σ H s → wpAny (model X.prog X.w) X.A (eval iter X.env) (fun v s1 => wpAny (model X.prog X.w) X.A (pyIter v) (PIE X pins σ tg R) X.xe s1) X.xe s
end
section
variable {X : Cx} {e : Expr} {es : List Expr} {sts : List Stmt} {st : Stmt}
theorem peW : PE X e (wE X e) := ⟨fun pins s _ _ _ I h => h pins s I⟩
theorem ptW : PT X e (wT X e) := ⟨fun pins s _ _ _ I h => h pins s I⟩
theorem pwW : PW X e (wW X e) := ⟨fun w pins s _ _ _ I h => h w pins s I⟩
theorem paW : PA X es (wA X es) := ⟨fun pos pins s _ _ _ I h => h pos pins s I⟩
theorem pssW : PSs X sts (wS X sts) := ⟨fun pins s _ _ _ I h => h pins s I⟩
theorem psW : PS X st (w1 X st) := ⟨fun pins s _ _ _ I h => h pins s I⟩
theorem piW {tg iter : Expr} : PI X tg iter (wI X tg iter) := ⟨fun pins s _ _ _ I h => h pins s I⟩
theorem goE {t : TE} {σ : L2.St} {H : Hp} {Q : VK} (h : PE X e t) (q : t σ H Q) : wE X e σ H Q := fun pins s I => h.run pins s σ H Q I q
theorem goT {t : TT} {σ : L2.St} {H : Hp} {Q : Bool → Hp → Prop} (h : PT X e t) (q : t σ H Q) : wT X e σ H Q := fun pins s I => h.run pins s σ H Q I q
theorem goW {t : TT} {σ : L2.St} {H : Hp} {Q : Bool → Hp → Prop} (h : PW X e t) (q : t σ H Q) : wW X e σ H Q := fun w pins s I => h.run w pins s σ H Q I q
theorem goA {t : TA} {σ : L2.St} {H : Hp} {Q : List V → Hp → Prop} (h : PA X es t) (q : t σ H Q) : wA X es σ H Q := fun pos pins s I => h.run pos pins s σ H Q I q
theorem goSs {t : TS} {σ : L2.St} {H : Hp} {D : Ends} (h : PSs X sts t) (q : t D σ H) : wS X sts D σ H := fun pins s I => h.run pins s σ H D I q
theorem go1 {t : TS} {σ : L2.St} {H : Hp} {D : Ends} (h : PS X st t) (q : t D σ H) : w1 X st D σ H := fun pins s I => h.run pins s σ H D I q
theorem goI {tg iter : Expr} {t : TI} {σ : L2.St} {H : Hp} {R : It → Hp → Prop} (h : PI X tg iter t) (q : t σ H R) : wI X tg iter σ H R := fun pins s I => h.run pins s σ H R I q
end
def pushAll : List V → List Sl → List Slot → List Slot
  | v :: vs, s :: ss, ρ => pushAll vs ss ((some v, s) :: ρ)
  | _, _, ρ => ρ
structure PX (X : Cx) (Γ : List Sl) (e : Expr) (s : Sl) : Prop where
  run : ∀ (B : Hp × Hp) (ρ : List Slot) (σ : L2.St) (H : Hp), HasE X.K B H ρ σ Γ → ∀ Q : VK, (∀ v H', Ex H H' → HasE X.K B H' ((some v, s) :: ρ) σ Γ → Q v H') → wE X e σ H Q
structure TX (X : Cx) (Γ : List Sl) (e : Expr) (b : Bool) : Prop where
  run : ∀ (B : Hp × Hp) (ρ : List Slot) (σ : L2.St) (H : Hp), HasE X.K B H ρ σ Γ → ∀ Q : Bool → Hp → Prop, (∀ H', Ex H H' → HasE X.K B H' ρ σ Γ → Q b H') → wT X e σ H Q
structure WX (X : Cx) (Γ : List Sl) (e : Expr) (b : Bool) : Prop where
  run : ∀ (B : Hp × Hp) (ρ : List Slot) (σ : L2.St) (H : Hp), HasE X.K B H ρ σ Γ → ∀ Q : Bool → Hp → Prop, (∀ H', Ex H H' → HasE X.K B H' ρ σ Γ → Q b H') → wW X e σ H Q
structure AX (X : Cx) (Γ : List Sl) (es : List Expr) (ss : List Sl) : Prop where
  run : ∀ (B : Hp × Hp) (ρ : List Slot) (σ : L2.St) (H : Hp), HasE X.K B H ρ σ Γ → ∀ Q : List V → Hp → Prop, (∀ vs H', Ex H H' → vs.length = ss.length → HasE X.K B H' (pushAll vs ss ρ) σ Γ → Q vs H') → wA X es σ H Q
section
variable {X : Cx} {Γ : List Sl} {e a b c : Expr} {es : List Expr} {s : Sl} {pos p : Pos}
theorem px_int {i : Int} {j : Nat} : PX X Γ (.Constant (.int i) j pos) (.is i) := ⟨fun B ρ σ H h Q q => goE pe_int (q _ H (Ex.refl H) (h.pushSc i))⟩
theorem px_bool {i : Bool} {j : Nat} : PX X Γ (.Constant (.bool i) j pos) (.is i) := ⟨fun B ρ σ H h Q q => goE pe_bl (q _ H (Ex.refl H) (h.pushSc i))⟩
theorem px_none {j : Nat} : PX X Γ (.Constant .none j pos) (.is ()) := ⟨fun B ρ σ H h Q q => goE pe_non (q _ H (Ex.refl H) (h.pushSc ()))⟩
theorem pushTx {K : PySem.W.Frag} {B : Hp × Hp} {H : Hp} {ρ : List Slot} {σ : L2.St} {Γ : List Sl} (x : List Nat) (h : HasE K B H ρ σ Γ) : HasE K B H ((some (V.str (mkS x)), .is x) :: ρ) σ Γ :=
  h.push (fun q => apart_is q) fun _ _ _ => ⟨_, rfl, rfl⟩
theorem topTx {K : PySem.W.Frag} {B : Hp × Hp} {H : Hp} {ρ : List Slot} {σ : L2.St} {Γ : List Sl} {x : List Nat} {o : Option V} (h : HasE K B H ((o, .is x) :: ρ) σ Γ) : o = some (V.str (mkS x)) := by
  obtain ⟨l, Hd, h1, h2, h3, h4, h5, h6⟩ := h
  obtain ⟨v, e1, e2⟩ := h5 (o, .is x) List.mem_cons_self
  have e2 : v = V.str (mkS x) := e2
  have e1 : o = some v := e1
  rw [e1, e2]
theorem px_str {z : Str} {j : Nat} {x : List Nat} (h : z = mkS x) : PX X Γ (.Constant (.str z) j pos) (.is x) := by
  subst h
  exact ⟨fun B ρ σ H h Q q => goE pe_str (q _ H (Ex.refl H) (pushTx x h))⟩
theorem px_var {α : Type} [Enc α] {x : α} {y : Str} (i : Nat) (g : Γ[i]? = some (.is x)) (hN : X.N[i]? = some y := by rfl) (hv : Vis X.env.scope y := by first | exact Or.inl rfl | exact Or.inr (Or.inl rfl) | exact Or.inr (Or.inr rfl))
    (hd : (y == ("__debug__" : Str)) = false := by decide) (hcd : (y == ("__classdict__" : Str)) = false := by decide) : PX X Γ (.Name y p) (.is x) := ⟨fun B ρ σ H h Q q => by
  obtain ⟨v, hi, h'⟩ := h.var g
  exact goE (pe_var hN hv hd hcd) ⟨v, hi, q v H (Ex.refl H) h'⟩⟩
theorem px_varO {α : Type} [Enc α] {x : List α} {y : Str} {s : Sl} (i : Nat) (lk : Lk s x) (g : Γ[i]? = some s) (hN : X.N[i]? = some y := by rfl) (hv : Vis X.env.scope y := by first | exact Or.inl rfl | exact Or.inr (Or.inl rfl) | exact Or.inr (Or.inr rfl))
    (hd : (y == ("__debug__" : Str)) = false := by decide) (hcd : (y == ("__classdict__" : Str)) = false := by decide) : PX X Γ (.Name y p) (.bor x) := ⟨fun B ρ σ H h Q q => by
  obtain ⟨v, hi, h'⟩ := h.varL lk g
  exact goE (pe_var hN hv hd hcd) ⟨v, hi, q v H (Ex.refl H) h'⟩⟩
theorem px_globI {i : Int} {y : Str} {t : Tok} (hg : Gl X y) (hm : X.mg y = some (.int i t)) (hd : (y == ("__debug__" : Str)) = false := by decide) : PX X Γ (.Name y p) (.is i) :=
  ⟨fun B ρ σ H h Q q => goE (pe_glob (v := .int i) hg hm ⟨t, rfl⟩ hd) (q _ H (Ex.refl H) (h.pushSc i))⟩
theorem px_share {α : Type} [Enc α] {x : List α} (h : PX X Γ e (.own x)) : PX X Γ e (.is x) := ⟨fun B ρ σ H h' Q q => h.run B ρ σ H h' Q fun v H' e k => q v H' e k.share⟩
theorem px_bin {α β γ : Type} [Sc α] [Sc β] [Sc γ] {op : Operator} {r : R2} {x : α} {y : β} (z : γ) (ho : OpR X (binaryOp op) r) (hr : ∀ H (Q : VK), Q (Sc.val z) H → r (Sc.val x) (Sc.val y) H Q)
    (ha : PX X Γ a (.is x)) (hb : PX X Γ b (.is y)) : PX X Γ (.BinOp a op b pos) (.is z) := ⟨fun B ρ σ H h Q q => goE (pe_op ho peW peW) (ha.run B ρ σ H h _ fun v H1 e1 h1 => hb.run B _ σ H1 h1 _ fun w H2 e2 h2 => by
  have ew := h2.topSc
  have ev := h2.swap.topSc
  injection ew with ew
  injection ev with ev
  subst ew ev
  exact hr _ _ (q _ H2 (e1.trans e2) (h2.pop.pop.pushSc z)))⟩
theorem px_add {x y : Int} (ha : PX X Γ a (.is x)) (hb : PX X Γ b (.is y)) : PX X Γ (.BinOp a .Add b pos) (.is (x + y)) := px_bin (x + y) op_add (fun _ _ q => ⟨x, y, rfl, rfl, q⟩) ha hb
theorem px_sub {x y : Int} (ha : PX X Γ a (.is x)) (hb : PX X Γ b (.is y)) : PX X Γ (.BinOp a .Sub b pos) (.is (x - y)) := px_bin (x - y) op_sub (fun _ _ q => ⟨x, y, rfl, rfl, q⟩) ha hb
theorem px_mul {x y : Int} (ha : PX X Γ a (.is x)) (hb : PX X Γ b (.is y)) (hc : CMul x y) : PX X Γ (.BinOp a .Mult b pos) (.is (x * y)) := px_bin (x * y) op_mul (fun _ _ q => ⟨x, y, rfl, rfl, hc, q⟩) ha hb
theorem px_mod {x y : Int} (ha : PX X Γ a (.is x)) (hb : PX X Γ b (.is y)) (hc : 0 < y) : PX X Γ (.BinOp a .Mod b pos) (.is (x % y)) := px_bin (x % y) op_mod (fun _ _ q => ⟨x, y, rfl, rfl, hc, q⟩) ha hb
theorem px_div {x y : Int} (ha : PX X Γ a (.is x)) (hb : PX X Γ b (.is y)) (hc : CDivW x y) : PX X Γ (.BinOp a .FloorDiv b pos) (.is (x / y)) := px_bin (x / y) op_fdivW (fun _ _ q => ⟨x, y, rfl, rfl, hc, q⟩) ha hb
theorem px_pow {x y : Int} (ha : PX X Γ a (.is x)) (hb : PX X Γ b (.is y)) (hc : CPow x y) : PX X Γ (.BinOp a .Pow b pos) (.is (x ^ y.toNat)) := px_bin (x ^ y.toNat) op_pow (fun _ _ q => ⟨x, y, rfl, rfl, hc, q⟩) ha hb
theorem px_neg {x : Int} (ha : PX X Γ a (.is x)) : PX X Γ (.UnaryOp .USub a pos) (.is (-x)) := ⟨fun B ρ σ H h Q q => goE (pe_un un_neg peW) (ha.run B ρ σ H h _ fun v H1 e1 h1 => by
  have ev := h1.topSc
  injection ev with ev
  subst ev
  exact ⟨x, rfl, q _ H1 e1 (h1.pop.pushSc (-x))⟩)⟩
theorem binTx {r : R2} {x y : List Nat} {z : Sl} {op : Operator} (ho : OpR X (binaryOp op) r)
    (hr : ∀ B ρ σ H (Q : VK), HasE X.K B H ρ σ Γ → (∀ v H', Ex H H' → HasE X.K B H' ((some v, z) :: ρ) σ Γ → Q v H') → r (.str (mkS x)) (.str (mkS y)) H Q)
    (ha : PX X Γ a (.is x)) (hb : PX X Γ b (.is y)) : PX X Γ (.BinOp a op b pos) z := ⟨fun B ρ σ H h Q q => goE (pe_op ho peW peW) (ha.run B ρ σ H h _ fun v H1 e1 h1 => hb.run B _ σ H1 h1 _ fun w H2 e2 h2 => by
  have ew := topTx h2
  have ev := topTx h2.swap
  injection ew with ew
  injection ev with ev
  subst ew ev
  exact hr B ρ σ H2 Q h2.pop.pop fun v H' e3 h3 => q v H' ((e1.trans e2).trans e3) h3)⟩
theorem px_addS {x y : List Nat} (ha : PX X Γ a (.is x)) (hb : PX X Γ b (.is y)) (hc : x.length + y.length ≤ sizeLine) : PX X Γ (.BinOp a .Add b pos) (.is (x ++ y)) :=
  binTx op_add_str (fun B ρ σ H Q h q => ⟨_, _, rfl, rfl, by rw [mkS_length, mkS_length]; exact hc, by rw [mkS_append]; exact q _ H (Ex.refl H) (pushTx _ h)⟩) ha hb
theorem px_cmp {α β : Type} [Sc α] [Sc β] {op : CmpOp} {r : R2} {x : α} {y : β} (z : Bool) (ho : OpR X (compareOp op) r) (hm : behindInMarks op b = false) (hr : ∀ H (Q : VK), Q (.bl z) H → r (Sc.val x) (Sc.val y) H Q)
    (ha : PX X Γ a (.is x)) (hb : PX X Γ b (.is y)) : PX X Γ (.Compare a [op] [b] pos) (.is z) := ⟨fun B ρ σ H h Q q => goE (pe_cmpR ho peW peW hm) (ha.run B ρ σ H h _ fun v H1 e1 h1 => hb.run B _ σ H1 h1 _ fun w H2 e2 h2 => by
  have ew := h2.topSc
  have ev := h2.swap.topSc
  injection ew with ew
  injection ev with ev
  subst ew ev
  exact hr _ _ (q _ H2 (e1.trans e2) (h2.pop.pop.pushSc z)))⟩
theorem tx_cmp {α β : Type} [Sc α] [Sc β] {op : CmpOp} {r : R2} {x : α} {y : β} (z : Bool) (ho : OpR X (compareOp op) r) (hm : behindInMarks op b = false) (hr : ∀ H (Q : VK), Q (.bl z) H → r (Sc.val x) (Sc.val y) H Q)
    (ha : PX X Γ a (.is x)) (hb : PX X Γ b (.is y)) : TX X Γ (.Compare a [op] [b] pos) z := ⟨fun B ρ σ H h Q q => goT (pt_cmpR ho peW peW hm) (ha.run B ρ σ H h _ fun v H1 e1 h1 => hb.run B _ σ H1 h1 _ fun w H2 e2 h2 => by
  have ew := h2.topSc
  have ev := h2.swap.topSc
  injection ew with ew
  injection ev with ev
  subst ew ev
  exact hr _ _ ⟨z, rfl, q H2 (e1.trans e2) h2.pop.pop⟩)⟩
theorem tx_val {x : Bool} (h : PX X Γ e (.is x)) (he : ∀ whole, isTrue e X.env whole = (do let v ← whole; standAt e.pos; holding [v] (truthy v)) := by intro _; rfl) : TX X Γ e x := ⟨fun B ρ σ H h' Q q => goT (pt_val peW he) (h.run B ρ σ H h' _ fun v H1 e1 h1 => by
  have ev := h1.topSc
  injection ev with ev
  subst ev
  exact ⟨x, rfl, q H1 e1 h1.pop⟩)⟩
theorem tx_not {x : Bool} (h : TX X Γ e x) : TX X Γ (.UnaryOp .Not e pos) (!x) := ⟨fun B ρ σ H h' Q q => goT (pt_not ptW) (h.run B ρ σ H h' _ fun H1 e1 h1 => q H1 e1 h1)⟩
theorem px_not {x : Bool} (h : PX X Γ e (.is x)) : PX X Γ (.UnaryOp .Not e pos) (.is (!x)) := ⟨fun B ρ σ H h' Q q => goE (pe_not peW) (h.run B ρ σ H h' _ fun v H1 e1 h1 => by
  have ev := h1.topSc
  injection ev with ev
  subst ev
  exact ⟨x, rfl, q _ H1 e1 (h1.pop.pushSc (!x))⟩)⟩
theorem tx_w {x : Bool} (h : WX X Γ e x) : TX X Γ e x := ⟨fun B ρ σ H h' Q q => goT (PW.pt pwW) (h.run B ρ σ H h' Q q)⟩
theorem wx_and1 {x : Bool} (h : TX X Γ e x) : WX X Γ (.BoolOp .And [e] pos) x := ⟨fun B ρ σ H h' Q q => goW (pw_and1 ptW) (h.run B ρ σ H h' Q q)⟩
theorem wx_or1 {x : Bool} (h : TX X Γ e x) : WX X Γ (.BoolOp .Or [e] pos) x := ⟨fun B ρ σ H h' Q q => goW (pw_or1 ptW) (h.run B ρ σ H h' Q q)⟩
theorem wx_and {x y : Bool} (h : TX X Γ e x) (h2 : x = true → WX X Γ (.BoolOp .And (a :: es) pos) y) : WX X Γ (.BoolOp .And (e :: a :: es) pos) (x && y) := ⟨fun B ρ σ H h' Q q => goW (pw_and ptW pwW) (h.run B ρ σ H h' _ fun H1 e1 h1 => by
  cases x with
  | true => exact (h2 rfl).run B ρ σ H1 h1 Q fun H2 e2 k => q H2 (e1.trans e2) k
  | false => exact q H1 e1 h1)⟩
theorem wx_or {x y : Bool} (h : TX X Γ e x) (h2 : x = false → WX X Γ (.BoolOp .Or (a :: es) pos) y) : WX X Γ (.BoolOp .Or (e :: a :: es) pos) (x || y) := ⟨fun B ρ σ H h' Q q => goW (pw_or ptW pwW) (h.run B ρ σ H h' _ fun H1 e1 h1 => by
  cases x with
  | false => exact (h2 rfl).run B ρ σ H1 h1 Q fun H2 e2 k => q H2 (e1.trans e2) k
  | true => exact q H1 e1 h1)⟩
theorem px_and1 {op} {s : Sl} (h : PX X Γ e s) : PX X Γ (.BoolOp op [e] pos) s := ⟨fun B ρ σ H h' Q q => goE (pe_one peW) (h.run B ρ σ H h' Q q)⟩
theorem px_and {x y : Bool} (h : PX X Γ e (.is x)) (h2 : x = true → PX X Γ (.BoolOp .And (a :: es) pos) (.is y)) : PX X Γ (.BoolOp .And (e :: a :: es) pos) (.is (x && y)) := ⟨fun B ρ σ H h' Q q => goE (pe_and peW peW) (h.run B ρ σ H h' _ fun v H1 e1 h1 => by
  have ev := h1.topSc
  injection ev with ev
  subst ev
  refine ⟨x, rfl, ?_⟩
  cases x with
  | true => exact (h2 rfl).run B ρ σ H1 h1.pop Q fun v H2 e2 k => q v H2 (e1.trans e2) k
  | false => exact q _ H1 e1 h1)⟩
theorem px_or {x y : Bool} (h : PX X Γ e (.is x)) (h2 : x = false → PX X Γ (.BoolOp .Or (a :: es) pos) (.is y)) : PX X Γ (.BoolOp .Or (e :: a :: es) pos) (.is (x || y)) := ⟨fun B ρ σ H h' Q q => goE (pe_or peW peW) (h.run B ρ σ H h' _ fun v H1 e1 h1 => by
  have ev := h1.topSc
  injection ev with ev
  subst ev
  refine ⟨x, rfl, ?_⟩
  cases x with
  | false => exact (h2 rfl).run B ρ σ H1 h1.pop Q fun v H2 e2 k => q v H2 (e1.trans e2) k
  | true => exact q _ H1 e1 h1)⟩
theorem px_gt {x y : Int} (ha : PX X Γ a (.is x)) (hb : PX X Γ b (.is y)) : PX X Γ (.Compare a [.Gt] [b] pos) (.is (decide (x > y))) := px_cmp _ op_gt (nomark _) (fun _ _ q => ⟨x, y, rfl, rfl, q⟩) ha hb
theorem tx_lt {x y : Int} (ha : PX X Γ a (.is x)) (hb : PX X Γ b (.is y)) : TX X Γ (.Compare a [.Lt] [b] pos) (decide (x < y)) := tx_cmp _ op_lt (nomark _) (fun _ _ q => ⟨x, y, rfl, rfl, q⟩) ha hb
theorem tx_gt {x y : Int} (ha : PX X Γ a (.is x)) (hb : PX X Γ b (.is y)) : TX X Γ (.Compare a [.Gt] [b] pos) (decide (x > y)) := tx_cmp _ op_gt (nomark _) (fun _ _ q => ⟨x, y, rfl, rfl, q⟩) ha hb
theorem tx_ge {x y : Int} (ha : PX X Γ a (.is x)) (hb : PX X Γ b (.is y)) : TX X Γ (.Compare a [.GtE] [b] pos) (decide (x ≥ y)) := tx_cmp _ op_ge (nomark _) (fun _ _ q => ⟨x, y, rfl, rfl, q⟩) ha hb
theorem dec_valI {x y : Int} : decide (V.int x = V.int y) = decide (x = y) := by
  by_cases h : x = y
  · subst h; simp
  · rw [decide_eq_false h, decide_eq_false]
    intro q
    exact h (V.int.inj q)
theorem dec_valB {x y : Bool} : decide (V.bl x = V.bl y) = decide (x = y) := by
  by_cases h : x = y
  · subst h; simp
  · rw [decide_eq_false h, decide_eq_false]
    intro q
    exact h (V.bl.inj q)
theorem dec_valS {x y : List Nat} : decide (V.str (mkS x) = V.str (mkS y)) = decide (x = y) := by
  by_cases h : x = y
  · subst h; simp
  · rw [decide_eq_false h, decide_eq_false]
    intro q
    exact h (mkS_inj (V.str.inj q))
theorem px_eq {x y : Int} (ha : PX X Γ a (.is x)) (hb : PX X Γ b (.is y)) : PX X Γ (.Compare a [.Eq] [b] pos) (.is (decide (x = y))) := px_cmp _ op_eq (nomark _) (fun _ _ q => ⟨rfl, by rw [show decide (Sc.val x = Sc.val y) = decide (x = y) from dec_valI]; exact q⟩) ha hb
theorem tx_eq {x y : Int} (ha : PX X Γ a (.is x)) (hb : PX X Γ b (.is y)) : TX X Γ (.Compare a [.Eq] [b] pos) (decide (x = y)) := tx_cmp _ op_eq (nomark _) (fun _ _ q => ⟨rfl, by rw [show decide (Sc.val x = Sc.val y) = decide (x = y) from dec_valI]; exact q⟩) ha hb
theorem px_ne {x y : Int} (ha : PX X Γ a (.is x)) (hb : PX X Γ b (.is y)) : PX X Γ (.Compare a [.NotEq] [b] pos) (.is (!decide (x = y))) := px_cmp _ op_ne (nomark _) (fun _ _ q => ⟨rfl, by rw [show decide (Sc.val x = Sc.val y) = decide (x = y) from dec_valI]; exact q⟩) ha hb
theorem tx_ne {x y : Int} (ha : PX X Γ a (.is x)) (hb : PX X Γ b (.is y)) : TX X Γ (.Compare a [.NotEq] [b] pos) (!decide (x = y)) := tx_cmp _ op_ne (nomark _) (fun _ _ q => ⟨rfl, by rw [show decide (Sc.val x = Sc.val y) = decide (x = y) from dec_valI]; exact q⟩) ha hb
/-- two texts compared -/
theorem px_cmpS {op : CmpOp} {r : R2} {x y : List Nat} (z : Bool) (ho : OpR X (compareOp op) r) (hm : behindInMarks op b = false) (hr : ∀ H (Q : VK), Q (.bl z) H → r (.str (mkS x)) (.str (mkS y)) H Q)
    (ha : PX X Γ a (.is x)) (hb : PX X Γ b (.is y)) : PX X Γ (.Compare a [op] [b] pos) (.is z) := ⟨fun B ρ σ H h Q q => goE (pe_cmpR ho peW peW hm) (ha.run B ρ σ H h _ fun v H1 e1 h1 => hb.run B _ σ H1 h1 _ fun w H2 e2 h2 => by
  have ew := topTx h2
  have ev := topTx h2.swap
  injection ew with ew
  injection ev with ev
  subst ew ev
  exact hr _ _ (q _ H2 (e1.trans e2) (h2.pop.pop.pushSc z)))⟩
theorem tx_cmpS {op : CmpOp} {r : R2} {x y : List Nat} (z : Bool) (ho : OpR X (compareOp op) r) (hm : behindInMarks op b = false) (hr : ∀ H (Q : VK), Q (.bl z) H → r (.str (mkS x)) (.str (mkS y)) H Q)
    (ha : PX X Γ a (.is x)) (hb : PX X Γ b (.is y)) : TX X Γ (.Compare a [op] [b] pos) z := ⟨fun B ρ σ H h Q q => goT (pt_cmpR ho peW peW hm) (ha.run B ρ σ H h _ fun v H1 e1 h1 => hb.run B _ σ H1 h1 _ fun w H2 e2 h2 => by
  have ew := topTx h2
  have ev := topTx h2.swap
  injection ew with ew
  injection ev with ev
  subst ew ev
  exact hr _ _ ⟨z, rfl, q H2 (e1.trans e2) h2.pop.pop⟩)⟩
theorem px_eqS {x y : List Nat} (ha : PX X Γ a (.is x)) (hb : PX X Γ b (.is y)) : PX X Γ (.Compare a [.Eq] [b] pos) (.is (decide (x = y))) := px_cmpS _ op_eq (nomark _) (fun _ _ q => ⟨rfl, by rw [dec_valS]; exact q⟩) ha hb
theorem tx_eqS {x y : List Nat} (ha : PX X Γ a (.is x)) (hb : PX X Γ b (.is y)) : TX X Γ (.Compare a [.Eq] [b] pos) (decide (x = y)) := tx_cmpS _ op_eq (nomark _) (fun _ _ q => ⟨rfl, by rw [dec_valS]; exact q⟩) ha hb
theorem tx_neS {x y : List Nat} (ha : PX X Γ a (.is x)) (hb : PX X Γ b (.is y)) : TX X Γ (.Compare a [.NotEq] [b] pos) (!decide (x = y)) := tx_cmpS _ op_ne (nomark _) (fun _ _ q => ⟨rfl, by rw [dec_valS]; exact q⟩) ha hb
end
end DX
namespace DX
open PySem PySem.Spec PyProof.Rows L2
theorem HasE.popAll {K : PySem.W.Frag} {B : Hp × Hp} {H : Hp} {σ : L2.St} {Γ : List Sl} : ∀ {vs : List V} {ss : List Sl} {ρ : List Slot}, HasE K B H (pushAll vs ss ρ) σ Γ → HasE K B H ρ σ Γ
  | [], [], _, h => h
  | [], _ :: _, _, h => h
  | _ :: _, [], _, h => h
  | v :: vs, s :: ss, ρ, h => (HasE.popAll (vs := vs) (ss := ss) (ρ := (some v, s) :: ρ) h).pop
theorem pushAll_mem : ∀ {vs : List V} {ss : List Sl} {ρ : List Slot} {p : Slot}, (p ∈ (vs.map some).zip ss ∨ p ∈ ρ) → p ∈ pushAll vs ss ρ
  | [], [], _, _, h => h.elim (fun z => nomatch z) id
  | [], _ :: _, _, _, h => h.elim (fun z => nomatch z) id
  | _ :: _, [], _, _, h => h.elim (fun z => nomatch z) id
  | v :: vs, s :: ss, ρ, p, h => pushAll_mem (vs := vs) (ss := ss) (ρ := (some v, s) :: ρ) (by
      rcases h with h | h
      · rcases List.mem_cons.mp h with h | h
        · rw [h]; exact .inr List.mem_cons_self
        · exact .inl h
      · exact .inr (List.mem_cons_of_mem _ h))
section
variable {X : Cx} {Γ : List Sl} {e a b c : Expr} {es : List Expr} {s : Sl} {ss : List Sl} {pos p apos cpos p2 p3 : Pos}
theorem ax_nil : AX X Γ [] [] := ⟨fun B ρ σ H h Q q => goA pa_nil (q [] H (Ex.refl H) rfl h)⟩
theorem ax_cons (h : PX X Γ e s) (t : AX X Γ es ss) (hs : starEach (e :: es) X.env = (false, eval e X.env) :: starEach es X.env := by rfl) : AX X Γ (e :: es) (s :: ss) :=
  ⟨fun B ρ σ H h' Q q => goA (pa_cons peW paW hs) (h.run B ρ σ H h' _ fun v H1 e1 h1 => t.run B _ σ H1 h1 _ fun vs H2 e2 l h2 => q (v :: vs) H2 (e1.trans e2) (by simp [l]) h2)⟩
/-- written items of one kind -/
theorem paired_of {K : PySem.W.Frag} {α : Type} [Enc α] {B1 Hd H : Hp} : ∀ {vs : List V} {xs : List α}, vs.length = xs.length → (∀ q ∈ (vs.map some).zip (xs.map Sl.is), SlotOk K B1 Hd H q.1 q.2) → Paired (Enc.rep K Hd) vs xs
  | [], [], _, _ => .nil
  | [], _ :: _, l, _ => by simp at l
  | _ :: _, [], l, _ => by simp at l
  | v :: vs, x :: xs, l, h => by
    obtain ⟨w, e1, e2⟩ := h (some v, .is x) List.mem_cons_self
    have e1 : some v = some w := e1
    injection e1 with e1
    subst e1
    exact .cons e2 (paired_of (by simpa using l) fun q hq => h q (List.mem_cons_of_mem _ hq))
theorem px_list {α : Type} [Enc α] (xs : List α) (h : AX X Γ es ss) (e : ss = xs.map Sl.is := by rfl) (hz : xs.length ≤ sizeLine := by first | decide | (simp only [List.length_cons, List.length_nil]; decide)) : PX X Γ (.List es pos) (.own xs) := ⟨fun B ρ σ H h' Q q => goE (pe_lst paW) (h.run B ρ σ H h' _ fun vs H1 e1 l h1 => by
  subst e
  have l' : vs.length = xs.length := by simpa using l
  refine ⟨by rw [l']; exact hz, fun p hp => ?_⟩
  refine q _ _ (e1.trans (Ex.new hp)) ?_
  refine (HasE.newOwn (xs := xs) h1 hp fun Hd _ ok => paired_of l' fun r hr => ok r (List.mem_append_left _ (pushAll_mem (.inl hr)))) |> fun z => ?_
  obtain ⟨zl, zHd, z1, z2, z3, z4, z5, z6⟩ := z
  have key : HasE X.K B (upd H1 p (.lst vs)) ((some (.ref p), .own xs) :: pushAll vs (xs.map Sl.is) ρ) σ Γ := ⟨zl, zHd, z1, z2, z3, z4, z5, z6⟩
  exact drop_mid key)⟩
where drop_mid {B : Hp × Hp} {H : Hp} {σ : L2.St} {Γ : List Sl} : ∀ {vs : List V} {ss : List Sl} {ρ : List Slot} {q : Slot}, HasE X.K B H (q :: pushAll vs ss ρ) σ Γ → HasE X.K B H (q :: ρ) σ Γ
  | [], [], _, _, h => h
  | [], _ :: _, _, _, h => h
  | _ :: _, [], _, _, h => h
  | v :: vs, s :: ss, ρ, q, h => (drop_mid (vs := vs) (ss := ss) (ρ := (some v, s) :: ρ) h).pop2
theorem drop_mid {K : PySem.W.Frag} {B : Hp × Hp} {H : Hp} {σ : L2.St} {Γ : List Sl} : ∀ {vs : List V} {ss : List Sl} {ρ : List Slot} {q : Slot}, HasE K B H (q :: pushAll vs ss ρ) σ Γ → HasE K B H (q :: ρ) σ Γ
  | [], [], _, _, h => h
  | [], _ :: _, _, _, h => h
  | _ :: _, [], _, _, h => h
  | v :: vs, s :: ss, ρ, q, h => (drop_mid (vs := vs) (ss := ss) (ρ := (some v, s) :: ρ) h).pop2
theorem px_pair {α β : Type} [Enc α] [Enc β] {x : α} {y : β} {x1} (h : AX X Γ es [.is x, .is y]) : PX X Γ (.Tuple es x1 pos) (.is (x, y)) := ⟨fun B ρ σ H h' Q q => goE (pe_tup paW) (h.run B ρ σ H h' _ fun vs H1 e1 l h1 => by
  obtain ⟨v, w, rfl⟩ : ∃ v w, vs = [v, w] := by
    match vs, l with
    | [v, w], _ => exact ⟨v, w, rfl⟩
  refine ⟨by show 2 ≤ sizeLine; decide, fun p hp => q _ _ (e1.trans (Ex.new hp)) ?_⟩
  refine (HasE.newIs (x := (x, y)) h1 hp fun Hd ed hn ok => ?_).pop2.pop2
  obtain ⟨v', f1, f2⟩ := ok (some v, .is x) (List.mem_append_left _ (pushAll_mem (vs := [v, w]) (ss := [.is x, .is y]) (.inl List.mem_cons_self)))
  obtain ⟨w', g1, g2⟩ := ok (some w, .is y) (List.mem_append_left _ (pushAll_mem (vs := [v, w]) (ss := [.is x, .is y]) (.inl (List.mem_cons_of_mem _ List.mem_cons_self))))
  have f1 : some v = some v' := f1
  have g1 : some w = some w' := g1
  injection f1 with f1
  injection g1 with g1
  subst f1 g1
  have en : Ex Hd (upd Hd p (.tup [v, w])) := Ex.new hn
  exact ⟨p, v, w, rfl, SqT.of upd_same, Enc.mono en f2, Enc.mono en g2⟩)⟩
theorem px_t3 {α β γ : Type} [Enc α] [Enc β] [Enc γ] {x : α} {y : β} {z : γ} {x1} (h : AX X Γ es [.is x, .is y, .is z]) : PX X Γ (.Tuple es x1 pos) (.is (T3.mk x y z)) := ⟨fun B ρ σ H h' Q q => goE (pe_tup paW) (h.run B ρ σ H h' _ fun vs H1 e1 l h1 => by
  obtain ⟨v, w, u, rfl⟩ : ∃ v w u, vs = [v, w, u] := by
    match vs, l with
    | [v, w, u], _ => exact ⟨v, w, u, rfl⟩
  refine ⟨by show 3 ≤ sizeLine; decide, fun p hp => q _ _ (e1.trans (Ex.new hp)) ?_⟩
  refine (HasE.newIs (x := T3.mk x y z) h1 hp fun Hd ed hn ok => ?_).pop2.pop2.pop2
  obtain ⟨v', f1, f2⟩ := ok (some v, .is x) (List.mem_append_left _ (pushAll_mem (vs := [v, w, u]) (ss := [.is x, .is y, .is z]) (.inl List.mem_cons_self)))
  obtain ⟨w', g1, g2⟩ := ok (some w, .is y) (List.mem_append_left _ (pushAll_mem (vs := [v, w, u]) (ss := [.is x, .is y, .is z]) (.inl (List.mem_cons_of_mem _ List.mem_cons_self))))
  obtain ⟨u', k1, k2⟩ := ok (some u, .is z) (List.mem_append_left _ (pushAll_mem (vs := [v, w, u]) (ss := [.is x, .is y, .is z]) (.inl (List.mem_cons_of_mem _ (List.mem_cons_of_mem _ List.mem_cons_self)))))
  have f1 : some v = some v' := f1
  have g1 : some w = some w' := g1
  have k1 : some u = some u' := k1
  injection f1 with f1
  injection g1 with g1
  injection k1 with k1
  subst f1 g1 k1
  have en : Ex Hd (upd Hd p (.tup [v, w, u])) := Ex.new hn
  exact ⟨p, v, w, u, rfl, SqT.of upd_same, Enc.mono en f2, Enc.mono en g2, Enc.mono en k2⟩)⟩
theorem px_B {β : Type} [Sc β] {id : String} {x : Str} {r : List V → Hp → VK → Prop} (z : β) (hc : CallR X (.builtin id) r) (hm : X.mg x = none) (hv : bootBuiltins x = some (.builtin id)) (ha : AX X Γ (e :: es) ss)
    (hr : ∀ B ρ σ H (vs : List V) (Q : VK), vs.length = ss.length → HasE X.K B H (pushAll vs ss ρ) σ Γ → Q (Sc.val z) H → r vs H Q) (hg : Gl X x := by rfl) (hn : x ≠ "__name__" := by decide) (hdb : (x == ("__debug__" : Str)) = false := by decide)
    (he : starEach (e :: es) X.env = (false, eval e X.env) :: starEach es X.env := by rfl) (hpl : (backTo pos (starEach es X.env)).any (·.1) = false := by rfl) : PX X Γ (.Call (.Name x p) (e :: es) [] pos) (.is z) :=
  ⟨fun B ρ σ H h Q q => goE (pe_callB hc hg hm hv paW hn hdb he hpl) (ha.run B ρ σ H h _ fun vs H1 e1 l h1 => hr B ρ σ H1 vs Q l h1 (q _ H1 e1 (h1.popAll.pushSc z)))⟩
theorem px_Ty {β : Type} [Sc β] {T : String} {x : Str} {r : List V → Hp → VK → Prop} (z : β) (hc : CallR X (.type T) r) (hm : X.mg x = none) (hv : bootBuiltins x = some (.type T)) (ha : AX X Γ (e :: es) ss)
    (hr : ∀ B ρ σ H (vs : List V) (Q : VK), vs.length = ss.length → HasE X.K B H (pushAll vs ss ρ) σ Γ → Q (Sc.val z) H → r vs H Q) (hg : Gl X x := by rfl) (hn : x ≠ "__name__" := by decide) (hdb : (x == ("__debug__" : Str)) = false := by decide)
    (he : starEach (e :: es) X.env = (false, eval e X.env) :: starEach es X.env := by rfl) (hpl : (backTo pos (starEach es X.env)).any (·.1) = false := by rfl) : PX X Γ (.Call (.Name x p) (e :: es) [] pos) (.is z) :=
  ⟨fun B ρ σ H h Q q => goE (pe_callTy hc hg hm hv paW hn hdb he hpl) (ha.run B ρ σ H h _ fun vs H1 e1 l h1 => hr B ρ σ H1 vs Q l h1 (q _ H1 e1 (h1.popAll.pushSc z)))⟩
theorem one_of {vs : List V} {s : Sl} (l : vs.length = [s].length) : ∃ v, vs = [v] := match vs, l with | [v], _ => ⟨v, rfl⟩
theorem two_of {vs : List V} {s t : Sl} (l : vs.length = [s, t].length) : ∃ v w, vs = [v, w] := match vs, l with | [v, w], _ => ⟨v, w, rfl⟩
section
variable (hg1 : starEach [a] X.env = (false, eval a X.env) :: starEach [] X.env)
theorem px_len {α : Type} [Enc α] {xs : List α} {s : Sl} (lk : Lk s xs) (hm : X.mg "len" = none) (ha : PX X Γ a s) (hg : Gl X "len" := by rfl) (he : starEach [a] X.env = (false, eval a X.env) :: starEach [] X.env := by rfl) :
    PX X Γ (.Call (.Name "len" p) [a] [] pos) (.is (xs.length : Int)) :=
  px_B _ call_len_seq hm PySem.boot_len (ax_cons ha ax_nil he) (fun B ρ σ H vs Q l h q => by
    obtain ⟨v, rfl⟩ := one_of l
    obtain ⟨a', ws, e1, e2, e3, _⟩ := HasE.topL lk h
    injection e1 with e1
    subst e1
    exact ⟨a', ws, rfl, .inl (SqL.of e2), by rw [e3]; exact q⟩) hg (by decide) (by decide) he rfl
theorem px_lenS {x : List Nat} (hm : X.mg "len" = none) (ha : PX X Γ a (.is x)) (hz : x.length ≤ sizeLine) (hg : Gl X "len" := by rfl) (he : starEach [a] X.env = (false, eval a X.env) :: starEach [] X.env := by rfl) :
    PX X Γ (.Call (.Name "len" p) [a] [] pos) (.is (x.length : Int)) :=
  px_B _ call_len_str hm PySem.boot_len (ax_cons ha ax_nil he) (fun B ρ σ H vs Q l h q => by
    obtain ⟨v, rfl⟩ := one_of l
    have e := topTx h
    injection e with e
    subst e
    exact ⟨mkS x, rfl, by rw [mkS_length]; exact hz, by rw [mkS_length]; exact q⟩) hg (by decide) (by decide) he rfl
theorem px_lenT {α : Type} [Enc α] {x : Tup α} (hm : X.mg "len" = none) (ha : PX X Γ a (.is x)) (hg : Gl X "len" := by rfl) (he : starEach [a] X.env = (false, eval a X.env) :: starEach [] X.env := by rfl) :
    PX X Γ (.Call (.Name "len" p) [a] [] pos) (.is (x.l.length : Int)) :=
  px_B _ call_len_seq hm PySem.boot_len (ax_cons ha ax_nil he) (fun B ρ σ H vs Q l h q => by
    obtain ⟨v, rfl⟩ := one_of l
    obtain ⟨_, Hd, _, h2, _, _, h5, _⟩ := h
    obtain ⟨w, e1, a', ws, e2, e3, e4⟩ := h5 (some v, .is x) List.mem_cons_self
    have e1 : some v = some w := e1
    injection e1 with e1
    subst e1 e2
    exact ⟨a', ws, rfl, .inr (ext h2 e3), by rw [paired_len e4]; exact q⟩) hg (by decide) (by decide) he rfl
theorem px_int1 {x : Int} (hm : X.mg "int" = none) (ha : PX X Γ a (.is x)) (hg : Gl X "int" := by rfl) (he : starEach [a] X.env = (false, eval a X.env) :: starEach [] X.env := by rfl) : PX X Γ (.Call (.Name "int" p) [a] [] pos) (.is x) :=
  px_Ty _ call_int1 hm PyProof.Rows.boot_int (ax_cons ha ax_nil he) (fun B ρ σ H vs Q l h q => by
    obtain ⟨v, rfl⟩ := one_of l
    have e := h.topSc
    injection e with e
    subst e
    exact .inl ⟨x, rfl, q⟩) hg (by decide) (by decide) he rfl
theorem px_intB {x : Bool} (hm : X.mg "int" = none) (ha : PX X Γ a (.is x)) (hg : Gl X "int" := by rfl) (he : starEach [a] X.env = (false, eval a X.env) :: starEach [] X.env := by rfl) : PX X Γ (.Call (.Name "int" p) [a] [] pos) (.is (if x = true then 1 else 0 : Int)) :=
  px_Ty _ call_int1 hm PyProof.Rows.boot_int (ax_cons ha ax_nil he) (fun B ρ σ H vs Q l h q => by
    obtain ⟨v, rfl⟩ := one_of l
    have e := h.topSc
    injection e with e
    subst e
    exact .inr ⟨x, rfl, q⟩) hg (by decide) (by decide) he rfl
theorem px_abs {x : Int} (hm : X.mg "abs" = none) (ha : PX X Γ a (.is x)) (hg : Gl X "abs" := by rfl) (he : starEach [a] X.env = (false, eval a X.env) :: starEach [] X.env := by rfl) : PX X Γ (.Call (.Name "abs" p) [a] [] pos) (.is (if x < 0 then -x else x : Int)) :=
  px_B _ call_abs hm PyProof.Rows.boot_abs (ax_cons ha ax_nil he) (fun B ρ σ H vs Q l h q => by
    obtain ⟨v, rfl⟩ := one_of l
    have e := h.topSc
    injection e with e
    subst e
    exact ⟨x, rfl, q⟩) hg (by decide) (by decide) he rfl
theorem px_min {x y : Int} (hc : X.calm = true) (hm : X.mg "min" = none) (ha : PX X Γ a (.is x)) (hb : PX X Γ b (.is y)) (hg : Gl X "min" := by rfl) (he : starEach [a, b] X.env = (false, eval a X.env) :: starEach [b] X.env := by rfl) (he2 : starEach [b] X.env = (false, eval b X.env) :: starEach [] X.env := by rfl)
    (hpl : (backTo pos (starEach [b] X.env)).any (·.1) = false := by rfl) : PX X Γ (.Call (.Name "min" p) [a, b] [] pos) (.is (if y < x then y else x : Int)) :=
  px_B _ (call_min2 hc) hm PyProof.Rows.boot_min (ax_cons ha (ax_cons hb ax_nil he2) he) (fun B ρ σ H vs Q l h q => by
    obtain ⟨v, w, rfl⟩ := two_of l
    have e := h.topSc
    have e2 := h.swap.topSc
    injection e with e
    injection e2 with e2
    subst e e2
    exact ⟨x, y, rfl, q⟩) hg (by decide) (by decide) he hpl
end
/-- what a def gives back -/
def Retable : Sl → Prop
  | @Sl.arg _ _ _ => False
  | @Sl.ownA _ _ _ _ => False
  | .gen _ _ => False
  | _ => True
def ResOk (K : PySem.W.Frag) (B Hd H : Hp) (o : Option V) (s : Sl) : Prop := SlotOk K B Hd H o s ∧ Retable s
/-- the promise of a def over data: what it is handed, what it gives back; all else stands -/
def spD {ι : Type} (K : PySem.W.Frag) (pre : ι → Prop) (args : ι → List Sl) (res : ι → Sl) : Sp := fun vs H Q _ => ∃ (Hd0 : Hp) (i : ι), ExD K Hd0 H ∧ pre i ∧ vs.length = (args i).length ∧ (∀ p ∈ (vs.map some).zip (args i), SlotOk K H Hd0 H p.1 p.2 ∧ ∀ q, apart p q) ∧
  ∀ v H' Hd', Ex Hd0 Hd' → Ex Hd' H' → Ex H H' → (∀ a, Hd0 a = none → H a ≠ none → Hd' a = none) → ResOk K H Hd' H' (some v) (res i) → Q v H'
/-- a def of the module's that keeps such a promise -/
structure DefOk (P : Program) (w : World) (K : PySem.W.Frag) (mg : Str → Option Value) (base : Heap) (k : Nat) (x : Str) (n : Nat) (sp : Sp) : Prop where
  ex : ∃ (f : Addr) (fd : FuncData) (ps : List Str), FnOk P w K mg base CX0 k f fd ps sp ∧ mg x = some (.ref f) ∧ PySem.W.keepIn K (.ref f) = true ∧ Binds K fd ps [] ∧ ps.length = n
/-- what a caller has, as the callee may take it -/
inductive Fits : List Sl → List Sl → Prop
  | nil : Fits [] []
  | is {α : Type} [Enc α] {x : α} {l m : List Sl} : Fits l m → Fits (.is x :: l) (.is x :: m)
  | arg {α : Type} [Enc α] {s : Sl} {x : List α} {l m : List Sl} (lk : Lk s x) : Fits l m → Fits (s :: l) (.arg x :: m)
theorem Fits.len {l m : List Sl} (h : Fits l m) : l.length = m.length := by
  induction h with
  | nil => rfl
  | is _ ih => simp [ih]
  | arg _ _ ih => simp [ih]
theorem Fits.ok {K : PySem.W.Frag} {B1 Hd H : Hp} (ed : Ex Hd H) {l m : List Sl} (h : Fits l m) : ∀ {vs : List V}, (∀ p ∈ (vs.map some).zip l, SlotOk K B1 Hd H p.1 p.2) → ∀ p ∈ (vs.map some).zip m, SlotOk K H Hd H p.1 p.2 ∧ ∀ q, apart p q := by
  induction h with
  | nil => intro vs f p hp; simp at hp
  | is _ ih =>
    intro vs f p hp
    cases vs with
    | nil => simp at hp
    | cons v vs =>
      rcases List.mem_cons.mp hp with z | z
      · rw [z]
        exact ⟨f _ List.mem_cons_self, fun q => apart_is q⟩
      · exact ih (fun q hq => f q (List.mem_cons_of_mem _ hq)) p z
  | arg lk _ ih =>
    intro vs f p hp
    cases vs with
    | nil => simp at hp
    | cons v vs =>
      rcases List.mem_cons.mp hp with z | z
      · rw [z]
        obtain ⟨a, ws, g1, g2, g3⟩ := lk.ok ed (f _ List.mem_cons_self)
        exact ⟨⟨a, ws, g1, fun z => (by rw [g2] at z; cases z), g2, g3⟩, fun q => apart_arg q⟩
      · exact ih (fun q hq => f q (List.mem_cons_of_mem _ hq)) p z
theorem px_call {ι : Type} {k : Nat} {x : Str} {n : Nat} {pre : ι → Prop} {args : ι → List Sl} {res : ι → Sl} (F : DefOk X.prog X.w X.K X.mg X.base k x n (spD X.K pre args res)) (i : ι) (hp : pre i) (hr : Room k X.A)
    (ha : AX X Γ (e :: es) ss) (fit : Fits ss (args i)) (hg : Gl X x := by rfl) (hdb : (x == ("__debug__" : Str)) = false := by decide) (he : starEach (e :: es) X.env = (false, eval e X.env) :: starEach es X.env := by rfl) (hpl : (backTo pos (starEach es X.env)).any (·.1) = false := by rfl)
    (hx : Passes CX0 X E0 := by exact pass0) {s0 : Sl} (hs0 : res i = s0 := by rfl) : PX X Γ (.Call (.Name x p) (e :: es) [] pos) s0 := by
  subst hs0
  obtain ⟨f, fd, ps, F, hm, hk, hb, _⟩ := F.ex
  refine ⟨fun B ρ σ H h Q q => goE (pe_call F hr hg hm hk hb .nil hx paW hdb he hpl) (ha.run B ρ σ H h _ fun vs H1 e1 l h1 => ?_)⟩
  rw [List.append_nil]
  obtain ⟨zl, Hd, z1, z2, z3, z4, z5, z6⟩ := id h1
  refine ⟨Hd, i, ⟨z2, z1.tab⟩, hp, l.trans fit.len, fit.ok z2 fun r hr => z5 r (List.mem_append_left _ (pushAll_mem (.inl hr))), fun v H' Hd' f1 f2 f3 f4 f5 => q v H' (e1.trans f3) ?_⟩
  refine drop_mid (vs := vs) (ss := ss) ⟨zl, Hd', z1.trans f1, f2, z3.trans f3, fun a' b1 b2 => ?_, fun r hr => ?_, ?_⟩
  · have c : H1 a' ≠ none := fun c => b2 (z3.back c)
    exact f4 a' (z4 a' b1 b2) c
  · rcases List.mem_cons.mp hr with c | c
    · rw [c]
      show SlotOk X.K B.2 Hd' H' (some v) (res i)
      revert f5
      cases res i with
      | no => exact fun _ => trivial
      | is y => exact fun f5 => f5.1
      | bor y => exact fun f5 => f5.1
      | arg y => exact fun f5 => f5.2.elim
      | ownA c y => exact fun f5 => f5.2.elim
      | gen fp Φ => exact fun f5 => f5.2.elim
      | own y =>
        intro f5
        obtain ⟨a', ws, g1, g2, g3, g4, g5⟩ := f5.1
        exact ⟨a', ws, g1, z3.back g2, g3, g4, g5⟩
    · exact (z5 r c).mono f1 f3 fun a' b1 b2 => f4 a' b2 b1
  · refine List.pairwise_cons.mpr ⟨fun r hr a' o1 o2 => ?_, z6⟩
    have o1' : ∃ ys : Σ α : Type, Σ _ : Enc α, List α, res i = @Sl.own ys.1 ys.2.1 ys.2.2 := by
      revert o1
      unfold owns
      cases hres : res i with
      | own ys => exact fun _ => ⟨⟨_, _, ys⟩, rfl⟩
      | no => exact fun z => z.elim
      | is y => exact fun z => z.elim
      | bor y => exact fun z => z.elim
      | arg y => exact fun z => z.elim
      | ownA c y =>
        rw [hres] at f5
        exact f5.2.elim
      | gen fp Φ =>
        rw [hres] at f5
        exact f5.2.elim
    obtain ⟨⟨α, en, ys⟩, hres⟩ := o1'
    rw [hres] at f5 o1
    obtain ⟨b', ws, g1, g2, g3, g4, g5⟩ := f5.1
    have o1 : some v = some (V.ref a') := o1
    have g1 : some v = some (V.ref b') := g1
    rw [o1] at g1
    injection g1 with g1
    injection g1 with g1
    subst g1
    exact owns_ne (z5 r hr) o2 g2 rfl
def ix {α : Type} [Inhabited α] (xs : List α) (i : Int) : α := (atI xs i).getD default
theorem ix_ok {α : Type} [Inhabited α] {xs : List α} {i : Int} (h : -(xs.length : Int) ≤ i ∧ i < xs.length) : atI xs i = some (ix xs i) := by
  unfold ix atI ixN
  by_cases h0 : 0 ≤ i
  · rw [if_pos h0, if_pos h.2]
    have : i.toNat < xs.length := by omega
    simp [this]
  · rw [if_neg h0, if_pos h.1]
    have : (i + (xs.length : Int)).toNat < xs.length := by omega
    simp [this]
theorem atI_paired {α β : Type} {F : α → β → Prop} {l : List α} {m : List β} {i : Int} {y : β} (h : Paired F l m) (e : atI m i = some y) : ∃ x, atI l i = some x ∧ F x y := by
  unfold atI at e ⊢
  rw [paired_len h]
  cases q : ixN m.length i with
  | none => rw [q] at e; simp at e
  | some j =>
    rw [q] at e
    exact paired_get h e
theorem px_ixL {α : Type} [Enc α] [Inhabited α] {xs : List α} {i : Int} {s : Sl} (lk : Lk s xs) (ha : PX X Γ a s) (hb : PX X Γ b (.is i)) (hi : -(xs.length : Int) ≤ i ∧ i < xs.length) (hs : PlainIx b := by exact fun _ _ => rfl) : PX X Γ (.Subscript a b pos) (.is (ix xs i)) :=
  ⟨fun B ρ σ H h Q q => goE (pe_ix ix_list peW peW hs) (ha.run B ρ σ H h _ fun v H1 e1 h1 => hb.run B _ σ H1 h1 _ fun w H2 e2 h2 => by
    have ew := h2.topSc
    injection ew with ew
    subst ew
    have h3 := h2.pop
    obtain ⟨l, Hd, z1, z2, z3, z4, z5, z6⟩ := id h3
    obtain ⟨a', vs, g1, g2, g3⟩ := lk.ok z2 (z5 (some v, s) List.mem_cons_self)
    injection g1 with g1
    subst g1
    obtain ⟨u, k1, k2⟩ := atI_paired g3 (ix_ok hi)
    refine ⟨a', vs, i, u, rfl, rfl, SqL.of g2, k1, q u H2 (e1.trans e2) ?_⟩
    exact (HasE.pop2 ⟨l, Hd, z1, z2, z3, z4, fun r hr => (List.mem_cons.mp hr).elim (fun c => by rw [c]; exact ⟨u, rfl, k2⟩) (z5 r), List.pairwise_cons.mpr ⟨fun r _ => apart_is r, z6⟩⟩))⟩
theorem px_ixT {α : Type} [Enc α] [Inhabited α] {x : Tup α} {i : Int} (ha : PX X Γ a (.is x)) (hb : PX X Γ b (.is i)) (hi : -(x.l.length : Int) ≤ i ∧ i < x.l.length) (hs : PlainIx b := by exact fun _ _ => rfl) : PX X Γ (.Subscript a b pos) (.is (ix x.l i)) :=
  ⟨fun B ρ σ H h Q q => goE (pe_ix ix_tup peW peW hs) (ha.run B ρ σ H h _ fun v H1 e1 h1 => hb.run B _ σ H1 h1 _ fun w H2 e2 h2 => by
    have ew := h2.topSc
    injection ew with ew
    subst ew
    have h3 := h2.pop
    obtain ⟨l, Hd, z1, z2, z3, z4, z5, z6⟩ := id h3
    obtain ⟨v', g0, a', vs, g1, g2, g3⟩ := z5 (some v, .is x) List.mem_cons_self
    have g0 : some v = some v' := g0
    injection g0 with g0
    subst g0 g1
    obtain ⟨u, k1, k2⟩ := atI_paired g3 (ix_ok hi)
    refine ⟨a', vs, i, u, rfl, rfl, ext z2 g2, k1, q u H2 (e1.trans e2) ?_⟩
    exact (HasE.pop2 ⟨l, Hd, z1, z2, z3, z4, fun r hr => (List.mem_cons.mp hr).elim (fun c => by rw [c]; exact ⟨u, rfl, k2⟩) (z5 r), List.pairwise_cons.mpr ⟨fun r _ => apart_is r, z6⟩⟩))⟩
/-- an item of a written tuple, by its place -/
theorem px_proj {τ α : Type} [Enc τ] [Enc α] {x : τ} {y : α} {i : Int} (ha : PX X Γ a (.is x)) (hb : PX X Γ b (.is i))
    (hp : ∀ (Hd : Hp) (v : V), Enc.rep X.K Hd v x → ∃ a' vs u, v = .ref a' ∧ SqT X.K Hd a' vs ∧ atI vs i = some u ∧ Enc.rep X.K Hd u y) (hs : PlainIx b := by exact fun _ _ => rfl) : PX X Γ (.Subscript a b pos) (.is y) :=
  ⟨fun B ρ σ H h Q q => goE (pe_ix ix_tup peW peW hs) (ha.run B ρ σ H h _ fun v H1 e1 h1 => hb.run B _ σ H1 h1 _ fun w H2 e2 h2 => by
    have ew := h2.topSc
    injection ew with ew
    subst ew
    have h3 := h2.pop
    obtain ⟨l, Hd, z1, z2, z3, z4, z5, z6⟩ := id h3
    obtain ⟨v', g0, g1⟩ := z5 (some v, .is x) List.mem_cons_self
    have g0 : some v = some v' := g0
    injection g0 with g0
    subst g0
    obtain ⟨a', vs, u, rfl, k1, k2, k3⟩ := hp Hd v g1
    refine ⟨a', vs, i, u, rfl, rfl, ext z2 k1, k2, q u H2 (e1.trans e2) ?_⟩
    exact (HasE.pop2 ⟨l, Hd, z1, z2, z3, z4, fun r hr => (List.mem_cons.mp hr).elim (fun c => by rw [c]; exact ⟨u, rfl, k3⟩) (z5 r), List.pairwise_cons.mpr ⟨fun r _ => apart_is r, z6⟩⟩))⟩
theorem px_fst {α β : Type} [Enc α] [Enc β] {x : α × β} (ha : PX X Γ a (.is x)) (hb : PX X Γ b (.is (0 : Int))) (hs : PlainIx b := by exact fun _ _ => rfl) : PX X Γ (.Subscript a b pos) (.is x.1) :=
  px_proj ha hb (fun Hd v ⟨a', v1, v2, h1, h2, h3, h4⟩ => ⟨a', _, v1, h1, h2, rfl, h3⟩) hs
theorem px_snd {α β : Type} [Enc α] [Enc β] {x : α × β} (ha : PX X Γ a (.is x)) (hb : PX X Γ b (.is (1 : Int))) (hs : PlainIx b := by exact fun _ _ => rfl) : PX X Γ (.Subscript a b pos) (.is x.2) :=
  px_proj ha hb (fun Hd v ⟨a', v1, v2, h1, h2, h3, h4⟩ => ⟨a', _, v2, h1, h2, rfl, h4⟩) hs
theorem px_t3a {α β γ : Type} [Enc α] [Enc β] [Enc γ] {x : T3 α β γ} (ha : PX X Γ a (.is x)) (hb : PX X Γ b (.is (0 : Int))) (hs : PlainIx b := by exact fun _ _ => rfl) : PX X Γ (.Subscript a b pos) (.is x.a) :=
  px_proj ha hb (fun Hd v ⟨a', v1, v2, v3, h1, h2, h3, h4, h5⟩ => ⟨a', _, v1, h1, h2, rfl, h3⟩) hs
theorem px_ixS {x : List Nat} {i : Int} (ha : PX X Γ a (.is x)) (hb : PX X Γ b (.is i)) (hz : x.length ≤ sizeLine) (hi : -(x.length : Int) ≤ i ∧ i < x.length) (hs : PlainIx b := by exact fun _ _ => rfl) : PX X Γ (.Subscript a b pos) (.is [ix x i]) :=
  ⟨fun B ρ σ H h Q q => goE (pe_ix ix_str peW peW hs) (ha.run B ρ σ H h _ fun v H1 e1 h1 => hb.run B _ σ H1 h1 _ fun w H2 e2 h2 => by
    have ew := h2.topSc
    injection ew with ew
    have ev := topTx h2.swap
    injection ev with ev
    subst ew ev
    exact ⟨mkS x, i, ix x i, rfl, rfl, by rw [mkS_length]; exact hz, ix_ok hi, q _ H2 (e1.trans e2) (pushTx [ix x i] h2.pop.pop)⟩)⟩
/-- xs[lo:hi] -/
def sl {α : Type} (xs : List α) (lo hi : Option Int) : List α := (xs.drop (HT.sIx xs.length 0 lo)).take (HT.sIx xs.length xs.length hi - HT.sIx xs.length 0 lo)
/-- a part of a slice -/
structure OX (X : Cx) (Γ : List Sl) (e : Option Expr) (i : Option Int) : Prop where
  run : ∃ t : TO, PO X e t ∧ ∀ (B : Hp × Hp) (ρ : List Slot) (σ : L2.St) (H : Hp), HasE X.K B H ρ σ Γ → ∀ Q : Option Int → Hp → Prop, (∀ H', Ex H H' → HasE X.K B H' ρ σ Γ → Q i H') → t σ H Q
theorem ox_none : OX X Γ none none := ⟨_, po_none, fun B ρ σ H h Q q => q H (Ex.refl H) h⟩
theorem ox_some {i : Int} (h : PX X Γ e (.is i)) : OX X Γ (some e) (some i) := ⟨_, po_some peW, fun B ρ σ H h' Q q => h.run B ρ σ H h' _ fun v H1 e1 h1 => by
  have ew := h1.topSc
  injection ew with ew
  subst ew
  exact ⟨i, rfl, q H1 e1 h1.pop⟩⟩
theorem px_sl {α : Type} [Enc α] {xs : List α} {s : Sl} {lo hi : Option Expr} {i j : Option Int} (lk : Lk s xs) (ha : PX X Γ a s) (hl : OX X Γ lo i) (hh : OX X Γ hi j) : PX X Γ (.Subscript a (.Slice lo hi none p2) pos) (.own (sl xs i j)) := by
  obtain ⟨tl, pl, kl⟩ := hl.run
  obtain ⟨th, ph, kh⟩ := hh.run
  refine ⟨fun B ρ σ H h Q q => goE (pe_slice sl_list peW pl ph) (ha.run B ρ σ H h _ fun v H1 e1 h1 => kl B _ σ H1 h1 _ fun H2 e2 h2 => kh B _ σ H2 h2 _ fun H3 e3 h3 => ?_)⟩
  obtain ⟨l, Hd, z1, z2, z3, z4, z5, z6⟩ := id h3
  obtain ⟨a', vs, g1, g2, g3⟩ := lk.ok z2 (z5 (some v, s) List.mem_cons_self)
  injection g1 with g1
  subst g1
  refine ⟨a', vs, rfl, SqL.of g2, fun p hp => q _ _ (((e1.trans e2).trans e3).trans (Ex.new hp)) ?_⟩
  refine (HasE.newOwn (xs := sl xs i j) h3 hp fun Hd' ed ok => ?_).pop2
  obtain ⟨a2, vs2, k1, k2, k3⟩ := lk.ok ed (ok (some (V.ref a'), s) List.mem_cons_self)
  injection k1 with k1
  injection k1 with k1
  subst k1
  rw [g2] at k2
  injection k2 with k2
  injection k2 with k2
  subst k2
  unfold cutV sl
  rw [paired_len k3]
  exact paired_take _ (paired_drop _ k3)
theorem px_cat {α : Type} [Enc α] {xs ys : List α} {s t : Sl} (lk : Lk s xs) (lk2 : Lk t ys) (ha : PX X Γ a s) (hb : PX X Γ b t) (hz : xs.length + ys.length ≤ sizeLine) : PX X Γ (.BinOp a .Add b pos) (.own (xs ++ ys)) :=
  ⟨fun B ρ σ H h Q q => goE (pe_op op_cat peW peW) (ha.run B ρ σ H h _ fun v H1 e1 h1 => hb.run B _ σ H1 h1 _ fun w H2 e2 h2 => by
    obtain ⟨l, Hd, z1, z2, z3, z4, z5, z6⟩ := id h2
    obtain ⟨b', ws, k1, k2, k3⟩ := lk2.ok z2 (z5 (some w, t) List.mem_cons_self)
    obtain ⟨a', vs, g1, g2, g3⟩ := lk.ok z2 (z5 (some v, s) (List.mem_cons_of_mem _ List.mem_cons_self))
    injection g1 with g1
    injection k1 with k1
    subst g1 k1
    refine ⟨a', b', vs, ws, rfl, rfl, g2, k2, by rw [paired_len g3, paired_len k3]; exact hz, fun p hp => q _ _ ((e1.trans e2).trans (Ex.new hp)) ?_⟩
    refine (HasE.newOwn (xs := xs ++ ys) h2 hp fun Hd' ed ok => ?_).pop2.pop2
    obtain ⟨b2, ws2, m1, m2, m3⟩ := lk2.ok ed (ok (some (V.ref b'), t) List.mem_cons_self)
    obtain ⟨a2, vs2, n1, n2, n3⟩ := lk.ok ed (ok (some (V.ref a'), s) (List.mem_cons_of_mem _ List.mem_cons_self))
    injection m1 with m1
    injection m1 with m1
    injection n1 with n1
    injection n1 with n1
    subst m1 n1
    rw [k2] at m2
    rw [g2] at n2
    injection m2 with m2
    injection m2 with m2
    injection n2 with n2
    injection n2 with n2
    subst m2 n2
    exact paired_append n3 m3)⟩
/-- list(xs) -/
theorem px_listof {α : Type} [Enc α] {xs : List α} {s : Sl} (lk : Lk s xs) (hm : X.mg "list" = none) (ha : PX X Γ a s) (hg : Gl X "list" := by rfl) (he : starEach [a] X.env = (false, eval a X.env) :: starEach [] X.env := by rfl) :
    PX X Γ (.Call (.Name "list" p) [a] [] pos) (.own xs) :=
  ⟨fun B ρ σ H h Q q => goE (pe_callTy call_list_of hg hm PyProof.Rows.boot_list (pa_cons peW pa_nil he) (by decide) (by decide) he rfl) (ha.run B ρ σ H h _ fun v H1 e1 h1 => by
    obtain ⟨l, Hd, z1, z2, z3, z4, z5, z6⟩ := id h1
    obtain ⟨a', vs, g1, g2, g3⟩ := lk.ok z2 (z5 (some v, s) List.mem_cons_self)
    injection g1 with g1
    subst g1
    refine ⟨a', vs, rfl, .inl (SqL.of g2), fun p hp => q _ _ (e1.trans (Ex.new hp)) ?_⟩
    refine (HasE.newOwn (xs := xs) h1 hp fun Hd' ed ok => ?_).pop2
    obtain ⟨a2, vs2, n1, n2, n3⟩ := lk.ok ed (ok (some (V.ref a'), s) List.mem_cons_self)
    injection n1 with n1
    injection n1 with n1
    subst n1
    rw [g2] at n2
    injection n2 with n2
    injection n2 with n2
    subst n2
    exact n3)⟩
end
end DX
namespace DX
open PySem PySem.Spec PyProof.Rows L2
def Lens (H : Hp) : Prop := ∀ a vs, H a = some (.lst vs) → vs.length ≤ sizeLine
theorem wE_len {X : Cx} {e : Expr} {σ : L2.St} {H : Hp} {Q : VK} (h : wE X e σ H (fun v H' => Lens H' → Q v H')) : wE X e σ H Q := fun pins s I =>
  thn (h pins s I) fun u s1 ⟨v, H1, I1, r, q⟩ => ⟨v, H1, I1, r, q fun a vs e => (I1.hok a _ e).1⟩
structure IX (X : Cx) (Γ : List Sl) (tg iter : Expr) {α : Type} [Enc α] (xs : List α) (P : Prop) : Prop where
  run : ∀ (B : Hp × Hp) (ρ : List Slot) (σ : L2.St) (H : Hp), HasE X.K B H ρ σ Γ → ∀ R : It → Hp → Prop,
    (∀ (J : It) (H1 : Hp) (τ : List Slot), P → Ex H H1 → (∀ p ∈ τ, noBor p) → HasE X.K B H1 (τ ++ ρ) σ Γ →
      (∀ (ρ' : List Slot) (σ' : L2.St) (Γ' : List Sl) (H' : Hp) (i : Nat) (x : α), HasE X.K B H' (ρ' ++ (τ ++ ρ)) σ' Γ' → xs[i]? = some x →
        J.go i H' ∧ ∀ v H'', J.yld i H' v H'' → Ex H' H'' ∧ HasE X.K B H'' ((some v, .is x) :: (ρ' ++ (τ ++ ρ))) σ' Γ') →
      (∀ (ρ' : List Slot) (σ' : L2.St) (Γ' : List Sl) (H' : Hp), HasE X.K B H' (ρ' ++ (τ ++ ρ)) σ' Γ' → J.stop xs.length H') → R J H1) → wI X tg iter σ H R
/-- what a comprehension walks over: also a list that is only borrowed -/
structure IXB (X : Cx) (Γ : List Sl) (tg iter : Expr) {α : Type} [Enc α] (xs : List α) (P : Prop) : Prop where
  run : ∀ (B : Hp × Hp) (ρ : List Slot) (σ : L2.St) (H : Hp), HasE X.K B H ρ σ Γ → ∀ R : It → Hp → Prop,
    (∀ (J : It) (H1 : Hp) (τ : List Slot), P → Ex H H1 → HasE X.K B H1 (τ ++ ρ) σ Γ →
      (∀ (ρ' : List Slot) (σ' : L2.St) (Γ' : List Sl) (H' : Hp) (i : Nat) (x : α), HasE X.K B H' (ρ' ++ (τ ++ ρ)) σ' Γ' → xs[i]? = some x →
        J.go i H' ∧ ∀ v H'', J.yld i H' v H'' → Ex H' H'' ∧ HasE X.K B H'' ((some v, .is x) :: (ρ' ++ (τ ++ ρ))) σ' Γ') →
      (∀ (ρ' : List Slot) (σ' : L2.St) (Γ' : List Sl) (H' : Hp), HasE X.K B H' (ρ' ++ (τ ++ ρ)) σ' Γ' → J.stop xs.length H') → R J H1) → wI X tg iter σ H R
theorem IX.b {X : Cx} {Γ : List Sl} {tg iter : Expr} {α : Type} [Enc α] {xs : List α} {P : Prop} (h : IX X Γ tg iter xs P) : IXB X Γ tg iter xs P :=
  ⟨fun B ρ σ H h' R q => h.run B ρ σ H h' R fun J H1 τ p e _ k => q J H1 τ p e k⟩
section
variable {X : Cx} {Γ : List Sl} {tg iter e a b c : Expr} {es : List Expr} {s : Sl} {pos p : Pos}
theorem HasE.mid {K : PySem.W.Frag} {B : Hp × Hp} {H : Hp} {σ : L2.St} {Γ : List Sl} {ρ' τ ρ : List Slot} {o : Option V} {s : Sl} (h : HasE K B H (ρ' ++ ((o, s) :: τ ++ ρ)) σ Γ) {P : Slot → Prop}
    (f : ∀ Hd, Ex Hd H → SlotOk K B.2 Hd H o s → ∃ q, P q ∧ SlotOk K B.2 Hd H q.1 q.2 ∧ ∀ r, apart q r) : ∃ q, P q ∧ HasE K B H (q :: (ρ' ++ ((o, s) :: τ ++ ρ))) σ Γ := by
  obtain ⟨l, Hd, h1, h2, h3, h4, h5, h6⟩ := h
  obtain ⟨q, k0, k1, k2⟩ := f Hd h2 (h5 (o, s) (List.mem_append_left _ (List.mem_append_right _ (List.mem_cons_self))))
  exact ⟨q, k0, l, Hd, h1, h2, h3, h4, fun r hr => (List.mem_cons.mp hr).elim (fun z => by rw [z]; exact k1) (h5 r), List.pairwise_cons.mpr ⟨fun r _ => k2 r, h6⟩⟩
theorem HasE.midS {K : PySem.W.Frag} {B : Hp × Hp} {H : Hp} {σ : L2.St} {Γ : List Sl} {ρ' τ ρ : List Slot} {o : Option V} {s : Sl} (h : HasE K B H (ρ' ++ ((o, s) :: τ ++ ρ)) σ Γ) : ∃ Hd, Ex Hd H ∧ SlotOk K B.2 Hd H o s := by
  obtain ⟨l, Hd, h1, h2, h3, h4, h5, h6⟩ := h
  exact ⟨Hd, h2, h5 (o, s) (List.mem_append_left _ (List.mem_append_right _ (List.mem_cons_self)))⟩
theorem it_list {α : Type} [Enc α] {xs : List α} (h : PX X Γ iter (@Sl.is (List α) encList xs)) : IX X Γ tg iter xs (xs.length ≤ sizeLine) := ⟨fun B ρ σ H h' R q => goI (pi_list peW) (wE_len (h.run B ρ σ H h' _ fun v H1 e1 h1 len => by
  obtain ⟨a', vs, g1, g2, g3, _⟩ := HasE.topL (.is xs) h1
  injection g1 with g1
  subst g1
  refine ⟨a', rfl, ⟨vs, SqL.of g2⟩, q (Itl X.K a') H1 [(some (.ref a'), .is xs)] (by rw [← g3]; exact len _ _ g2) e1 (fun p hp => by rw [List.mem_singleton.mp hp]; trivial) h1 ?_ ?_⟩
  · intro ρ' σ' Γ' H' i x k hx
    obtain ⟨Hd, ed, ok⟩ := HasE.midS (τ := []) k
    obtain ⟨b', ws, m1, m2, m3⟩ := (Lk.is xs).ok ed ok
    injection m1 with m1
    injection m1 with m1
    subst m1
    obtain ⟨u, n1, n2⟩ := paired_get m3 hx
    refine ⟨⟨ws, u, SqL.of m2, n1⟩, fun v H'' y => ?_⟩
    obtain ⟨y1, y2⟩ := y
    subst y1
    have ev : ws[i]? = some v := y2 ws (SqL.of m2)
    refine ⟨Ex.refl _, ?_⟩
    obtain ⟨q', e', r'⟩ := HasE.mid (τ := []) k (P := fun q => q = (some v, .is x)) fun Hd2 ed2 ok2 => by
      obtain ⟨b2, ws2, m1', m2', m3'⟩ := (Lk.is xs).ok ed2 ok2
      injection m1' with m1'
      injection m1' with m1'
      subst m1'
      rw [m2] at m2'
      injection m2' with m2'
      injection m2' with m2'
      subst m2'
      obtain ⟨u2, n1', n2'⟩ := paired_get m3' hx
      rw [ev] at n1'
      injection n1' with n1'
      subst n1'
      exact ⟨_, rfl, ⟨v, rfl, n2'⟩, fun r => apart_is r⟩
    rw [e'] at r'
    exact r'
  · intro ρ' σ' Γ' H' k
    obtain ⟨Hd, ed, ok⟩ := HasE.midS (τ := []) k
    obtain ⟨b', ws, m1, m2, m3⟩ := (Lk.is xs).ok ed ok
    injection m1 with m1
    injection m1 with m1
    subst m1
    exact ⟨ws, SqL.of m2, by rw [paired_len m3]; exact Nat.le_refl _⟩))⟩
theorem it_listB {α : Type} [Enc α] {xs : List α} (lk : Lk s xs) (h : PX X Γ iter s) : IXB X Γ tg iter xs (xs.length ≤ sizeLine) := ⟨fun B ρ σ H h' R q => goI (pi_list peW) (wE_len (h.run B ρ σ H h' _ fun v H1 e1 h1 len => by
  obtain ⟨a', vs, g1, g2, g3, _⟩ := HasE.topL lk h1
  injection g1 with g1
  subst g1
  refine ⟨a', rfl, ⟨vs, SqL.of g2⟩, q (Itl X.K a') H1 [(some (.ref a'), s)] (by rw [← g3]; exact len _ _ g2) e1 h1 ?_ ?_⟩
  · intro ρ' σ' Γ' H' i x k hx
    obtain ⟨Hd, ed, ok⟩ := HasE.midS (τ := []) k
    obtain ⟨b', ws, m1, m2, m3⟩ := lk.ok ed ok
    injection m1 with m1
    injection m1 with m1
    subst m1
    obtain ⟨u, n1, n2⟩ := paired_get m3 hx
    refine ⟨⟨ws, u, SqL.of m2, n1⟩, fun v H'' y => ?_⟩
    obtain ⟨y1, y2⟩ := y
    subst y1
    have ev : ws[i]? = some v := y2 ws (SqL.of m2)
    refine ⟨Ex.refl _, ?_⟩
    obtain ⟨q', e', r'⟩ := HasE.mid (τ := []) k (P := fun q => q = (some v, .is x)) fun Hd2 ed2 ok2 => by
      obtain ⟨b2, ws2, m1', m2', m3'⟩ := lk.ok ed2 ok2
      injection m1' with m1'
      injection m1' with m1'
      subst m1'
      rw [m2] at m2'
      injection m2' with m2'
      injection m2' with m2'
      subst m2'
      obtain ⟨u2, n1', n2'⟩ := paired_get m3' hx
      rw [ev] at n1'
      injection n1' with n1'
      subst n1'
      exact ⟨_, rfl, ⟨v, rfl, n2'⟩, fun r => apart_is r⟩
    rw [e'] at r'
    exact r'
  · intro ρ' σ' Γ' H' k
    obtain ⟨Hd, ed, ok⟩ := HasE.midS (τ := []) k
    obtain ⟨b', ws, m1, m2, m3⟩ := lk.ok ed ok
    injection m1 with m1
    injection m1 with m1
    subst m1
    exact ⟨ws, SqL.of m2, by rw [paired_len m3]; exact Nat.le_refl _⟩))⟩
def rangeI (lo : Int) (n : Nat) : List Int := (List.range n).map fun (k : Nat) => lo + (k : Int)
theorem rangeI_length (lo : Int) (n : Nat) : (rangeI lo n).length = n := by simp [rangeI]
theorem rangeI_get {lo : Int} {n i : Nat} {x : Int} (h : (rangeI lo n)[i]? = some x) : i < n ∧ x = lo + (i : Int) := by
  have hi : i < n := by
    have := (List.getElem?_eq_some_iff.mp h).1
    rw [rangeI_length] at this
    exact this
  refine ⟨hi, ?_⟩
  unfold rangeI at h
  rw [List.getElem?_map, List.getElem?_range hi] at h
  simpa using h.symm
theorem mem_rangeI {lo : Int} {n : Nat} {x : Int} : x ∈ rangeI lo n ↔ lo ≤ x ∧ x < lo + n := by
  unfold rangeI
  rw [List.mem_map]
  constructor
  · rintro ⟨k, h1, h2⟩
    have := List.mem_range.mp h1
    omega
  · intro h
    exact ⟨(x - lo).toNat, List.mem_range.mpr (by omega), by omega⟩
theorem it_rng {lo : Int} {n : Nat} {P : Prop} (hP : P) (h : ∀ B ρ σ H, HasE X.K B H ρ σ Γ → ∀ R : It → Hp → Prop, (∀ H1, Ex H H1 → HasE X.K B H1 ρ σ Γ → R (Itr lo n) H1) → wI X tg iter σ H R) : IX X Γ tg iter (rangeI lo n) P := ⟨fun B ρ σ H h' R q => h B ρ σ H h' R fun H1 e1 h1 =>
  q (Itr lo n) H1 [] hP e1 (fun p hp => nomatch hp) h1 (fun ρ' σ' Γ' H' i x k hx => by
    obtain ⟨hi, rfl⟩ := rangeI_get hx
    refine ⟨hi, fun v H'' y => ?_⟩
    obtain ⟨y1, y2⟩ := y
    subst y1 y2
    exact ⟨Ex.refl _, HasE.pushSc (lo + (i : Int)) k⟩) (fun ρ' σ' Γ' H' k => by
    rw [rangeI_length]
    exact Nat.le_refl _)⟩
theorem it_range1 {j : Int} (hm : X.mg "range" = none) (h : PX X Γ a (.is j)) (hj : -(2 ^ 62) ≤ j ∧ j < 2 ^ 62) (hg : Gl X "range" := by rfl) (hs : starEach [a] X.env = [(false, eval a X.env)] := by rfl) : IX X Γ tg (.Call (.Name "range" p) [a] [] pos) (rangeI 0 j.toNat) True :=
  it_rng trivial fun B ρ σ H h' R q => goI (pi_range1 hg hm (pa_cons peW pa_nil hs) hs) (h.run B ρ σ H h' _ fun v H1 e1 h1 => by
    have ew := h1.topSc
    injection ew with ew
    subst ew
    exact ⟨j, rfl, hj.1, hj.2, q H1 e1 h1.pop⟩)
/-- fewer things known -/
inductive Wk : List Sl → List Sl → Prop
  | nil : Wk [] []
  | same {s : Sl} {Γ Γ' : List Sl} : Wk Γ Γ' → Wk (s :: Γ) (s :: Γ')
  | drop {s : Sl} {Γ Γ' : List Sl} : Wk Γ Γ' → Wk (s :: Γ) (.no :: Γ')
theorem Wk.refl : ∀ Γ : List Sl, Wk Γ Γ
  | [] => .nil
  | _ :: Γ => .same (Wk.refl Γ)
theorem Wk.len : ∀ {Γ Γ' : List Sl}, Wk Γ Γ' → Γ.length = Γ'.length
  | _, _, .nil => rfl
  | _, _, .same h => by simp [h.len]
  | _, _, .drop h => by simp [h.len]
theorem Wk.mem : ∀ {Γ Γ' : List Sl} {σ : L2.St}, Wk Γ Γ' → ∀ p ∈ σ.zip Γ', p ∈ σ.zip Γ ∨ p.2 = .no
  | _, _, _, .nil, p, h => .inl h
  | _, _, [], .same _, p, h => .inl h
  | _, _, [], .drop _, p, h => .inl h
  | _, _, o :: σ, .same h, p, hp => by
    rcases List.mem_cons.mp hp with z | z
    · rw [z]; exact .inl List.mem_cons_self
    · rcases Wk.mem (σ := σ) h p z with z | z
      · exact .inl (List.mem_cons_of_mem _ z)
      · exact .inr z
  | _, _, o :: σ, .drop h, p, hp => by
    rcases List.mem_cons.mp hp with z | z
    · rw [z]; exact .inr rfl
    · rcases Wk.mem (σ := σ) h p z with z | z
      · exact .inl (List.mem_cons_of_mem _ z)
      · exact .inr z
theorem Wk.pair : ∀ {Γ Γ' : List Sl} {σ : L2.St}, Wk Γ Γ' → (σ.zip Γ).Pairwise apart → (σ.zip Γ').Pairwise apart
  | _, _, _, .nil, h => h
  | _, _, [], .same _, h => h
  | _, _, [], .drop _, h => h
  | _, _, o :: σ, .same w, h => by
    have h' := List.pairwise_cons.mp h
    refine List.pairwise_cons.mpr ⟨fun q hq => ?_, Wk.pair w h'.2⟩
    rcases Wk.mem w q hq with z | z
    · exact h'.1 q z
    · intro a _ x
      unfold owns at x
      rw [z] at x
      exact x
  | _, _, o :: σ, .drop w, h => by
    have h' := List.pairwise_cons.mp h
    exact List.pairwise_cons.mpr ⟨fun q _ => apart_no q, Wk.pair w h'.2⟩
theorem HasE.weak {K : PySem.W.Frag} {B : Hp × Hp} {H : Hp} {ρ : List Slot} {σ : L2.St} {Γ Γ' : List Sl} (w : Wk Γ Γ') (h : HasE K B H ρ σ Γ) : HasE K B H ρ σ Γ' := by
  obtain ⟨l, Hd, h1, h2, h3, h4, h5, h6⟩ := h
  refine ⟨l.trans w.len, Hd, h1, h2, h3, h4, fun p hp => ?_, ?_⟩
  · rcases List.mem_append.mp hp with z | z
    · exact h5 p (List.mem_append_left _ z)
    · rcases w.mem p z with z | z
      · exact h5 p (List.mem_append_right _ z)
      · rw [z]; trivial
  · rw [List.pairwise_append] at h6 ⊢
    refine ⟨h6.1, w.pair h6.2.1, fun p hp q hq => ?_⟩
    rcases w.mem q hq with z | z
    · exact h6.2.2 p hp q z
    · intro a _ x
      unfold owns at x
      rw [z] at x
      exact x
theorem zip_set {α : Type} {β : Type 1} : ∀ (σ : List α) (Γ : List β) (i : Nat) (o : α) (s : β), (σ.set i o).zip (Γ.set i s) = (σ.zip Γ).set i (o, s)
  | [], _, _, _, _ => by simp
  | _ :: _, [], i, _, _ => by cases i <;> simp
  | _ :: _, _ :: _, 0, _, _ => rfl
  | _ :: σ, _ :: Γ, i + 1, o, s => by simp [zip_set σ Γ i o s]
theorem pairwise_set {α : Type 1} {R : α → α → Prop} (symm : ∀ a b, R a b → R b a) {x : α} : ∀ {l : List α} (i : Nat), (x :: l).Pairwise R → (l.set i x).Pairwise R
  | [], _, _ => .nil
  | a :: l, 0, h => by
    have h' := List.pairwise_cons.mp h
    exact List.pairwise_cons.mpr ⟨fun y hy => h'.1 y (List.mem_cons_of_mem _ hy), (List.pairwise_cons.mp h'.2).2⟩
  | a :: l, i + 1, h => by
    have h' := List.pairwise_cons.mp h
    have h2 := List.pairwise_cons.mp h'.2
    refine List.pairwise_cons.mpr ⟨fun y hy => ?_, pairwise_set symm (l := l) i (List.pairwise_cons.mpr ⟨fun y hy => h'.1 y (List.mem_cons_of_mem _ hy), h2.2⟩)⟩
    rcases List.mem_or_eq_of_mem_set hy with z | z
    · exact h2.1 y z
    · rw [z]; exact symm _ _ (h'.1 a List.mem_cons_self)
/-- the top goes into a slot -/
theorem HasE.set {K : PySem.W.Frag} {B : Hp × Hp} {H : Hp} {ρ : List Slot} {σ : L2.St} {Γ : List Sl} {o : Option V} {s : Sl} (i : Nat) (h : HasE K B H ((o, s) :: ρ) σ Γ) : HasE K B H ρ (σ.set i o) (Γ.set i s) := by
  obtain ⟨l, Hd, h1, h2, h3, h4, h5, h6⟩ := h
  refine ⟨by simp [l], Hd, h1, h2, h3, h4, fun p hp => ?_, ?_⟩
  · rw [zip_set] at hp
    rcases List.mem_append.mp hp with z | z
    · exact h5 p (List.mem_cons_of_mem _ (List.mem_append_left _ z))
    · rcases List.mem_or_eq_of_mem_set z with z | z
      · exact h5 p (List.mem_cons_of_mem _ (List.mem_append_right _ z))
      · rw [z]; exact h5 _ List.mem_cons_self
  · rw [zip_set]
    have h7 := List.pairwise_cons.mp h6
    have h8 := List.pairwise_append.mp h7.2
    refine List.pairwise_append.mpr ⟨h8.1, pairwise_set (fun _ _ => apart.symm) i (List.pairwise_cons.mpr ⟨fun y hy => h7.1 y (List.mem_append_right _ hy), h8.2.1⟩), fun p hp q hq => ?_⟩
    rcases List.mem_or_eq_of_mem_set hq with z | z
    · exact h8.2.2 p hp q z
    · rw [z]; exact (h7.1 p (List.mem_append_left _ hp)).symm
/-- a slot is forgotten -/
theorem HasE.clear {K : PySem.W.Frag} {B : Hp × Hp} {H : Hp} {ρ : List Slot} {σ : L2.St} {Γ : List Sl} (i : Nat) (o : Option V) (h : HasE K B H ρ σ Γ) : HasE K B H ρ (σ.set i o) (Γ.set i .no) :=
  HasE.set i (h.push (fun q => apart_no q) fun _ _ _ => trivial)
def wipeΓ (Γ : List Sl) : List Nat → List Sl
  | [] => Γ
  | v :: vs => (wipeΓ Γ vs).set v .no
theorem HasE.wipe {K : PySem.W.Frag} {B : Hp × Hp} {H : Hp} {ρ : List Slot} {σ : L2.St} {Γ : List Sl} (h : HasE K B H ρ σ Γ) : ∀ vs : List Nat, HasE K B H ρ (L2.wipe σ vs) (wipeΓ Γ vs)
  | [] => h
  | v :: vs => (h.wipe vs).clear v none
/-- within a comprehension one's own lists are only read -/
def lend : Sl → Sl
  | @Sl.own _ _ xs => .bor xs
  | @Sl.ownA _ _ _ xs => .bor xs
  | .gen _ _ => .no
  | s => s
theorem lend_ok {K : PySem.W.Frag} {B1 Hd H : Hp} {o : Option V} {s : Sl} (h : SlotOk K B1 Hd H o s) : SlotOk K B1 Hd H o (lend s) := by
  cases s with
  | own xs => obtain ⟨a, vs, g1, g2, g3, g4, g5⟩ := h; exact ⟨a, vs, g1, g4, g5⟩
  | no => exact h
  | is x => exact h
  | bor x => exact h
  | arg x => exact h
  | ownA c xs => obtain ⟨a, vs, g1, g2, g3, g4, g5, _⟩ := h; exact ⟨a, vs, g1, g4, g5⟩
  | gen fp Φ => trivial
theorem lend_apart {o : Option V} {s : Sl} (q : Slot) : apart (o, lend s) q := by
  cases s with
  | own xs => exact apart_bor q
  | no => exact apart_no q
  | is x => exact apart_is q
  | bor x => exact apart_bor q
  | arg x => exact apart_arg q
  | ownA c xs => exact apart_bor q
  | gen fp Φ => exact apart_no q
theorem zip_lend : ∀ {σ : L2.St} {Γ : List Sl} {p : Slot}, p ∈ σ.zip (Γ.map lend) → ∃ q ∈ σ.zip Γ, p = (q.1, lend q.2)
  | [], _, _, h => by simp at h
  | _ :: _, [], _, h => by simp at h
  | o :: σ, s :: Γ, p, h => by
    rcases List.mem_cons.mp h with z | z
    · exact ⟨(o, s), List.mem_cons_self, z⟩
    · obtain ⟨q, h1, h2⟩ := zip_lend z
      exact ⟨q, List.mem_cons_of_mem _ h1, h2⟩
/-- the slots are kept beside, a copy of them goes on -/
theorem HasE.fork {K : PySem.W.Frag} {B : Hp × Hp} {H : Hp} {ρ : List Slot} {σ : L2.St} {Γ : List Sl} (h : HasE K B H ρ σ Γ) : HasE K B H (σ.zip Γ ++ ρ) σ (Γ.map lend) := by
  obtain ⟨l, Hd, h1, h2, h3, h4, h5, h6⟩ := h
  refine ⟨by simp [l], Hd, h1, h2, h3, h4, fun p hp => ?_, ?_⟩
  · rcases List.mem_append.mp hp with z | z
    · rcases List.mem_append.mp z with z | z
      · exact h5 p (List.mem_append_right _ z)
      · exact h5 p (List.mem_append_left _ z)
    · obtain ⟨q, hq, e⟩ := zip_lend z
      rw [e]
      exact lend_ok (h5 q (List.mem_append_right _ hq))
  · have h7 := List.pairwise_append.mp h6
    refine List.pairwise_append.mpr ⟨List.pairwise_append.mpr ⟨h7.2.1, h7.1, fun p hp q hq => (h7.2.2 q hq p hp).symm⟩, ?_, fun p _ q hq => ?_⟩
    · have key : ∀ (l : List Slot), (∀ p ∈ l, ∀ q, apart p q) → l.Pairwise apart := by
        intro l
        induction l with
        | nil => intro _; exact .nil
        | cons p l ih => intro f; exact List.pairwise_cons.mpr ⟨fun q _ => f p List.mem_cons_self q, ih fun r hr => f r (List.mem_cons_of_mem _ hr)⟩
      refine key _ fun p hp q => ?_
      obtain ⟨r, hr, e⟩ := zip_lend hp
      rw [e]
      exact lend_apart q
    · obtain ⟨r, hr, e⟩ := zip_lend hq
      rw [e]
      exact (lend_apart p).symm
theorem HasE.join {K : PySem.W.Frag} {B : Hp × Hp} {H : Hp} {ρ : List Slot} {σ σ2 : L2.St} {Γ Γ2 : List Sl} (l : σ.length = Γ.length) (h : HasE K B H (σ.zip Γ ++ ρ) σ2 Γ2) : HasE K B H ρ σ Γ := by
  obtain ⟨_, Hd, h1, h2, h3, h4, h5, h6⟩ := h
  refine ⟨l, Hd, h1, h2, h3, h4, fun p hp => h5 p (List.mem_append_left _ ?_), ?_⟩
  · rcases List.mem_append.mp hp with z | z
    · exact List.mem_append_right _ z
    · exact List.mem_append_left _ z
  · have h7 := List.pairwise_append.mp (List.pairwise_append.mp h6).1
    exact List.pairwise_append.mpr ⟨h7.2.1, h7.1, fun p hp q hq => (h7.2.2 q hq p hp).symm⟩
/-- .. the top left where it is -/
theorem HasE.join1 {K : PySem.W.Frag} {B : Hp × Hp} {H : Hp} {ρ : List Slot} {σ σ2 : L2.St} {Γ Γ2 : List Sl} {p : Slot} (l : σ.length = Γ.length) (h : HasE K B H (p :: (σ.zip Γ ++ ρ)) σ2 Γ2) : HasE K B H (p :: ρ) σ Γ := by
  refine HasE.join (σ2 := σ2) (Γ2 := Γ2) l ?_
  obtain ⟨l2, Hd, h1, h2, h3, h4, h5, h6⟩ := h
  refine ⟨l2, Hd, h1, h2, h3, h4, fun q hq => h5 q ?_, ?_⟩
  · rcases List.mem_append.mp hq with z | z
    · rcases List.mem_append.mp z with z | z
      · exact List.mem_cons_of_mem _ (List.mem_append_left _ (List.mem_append_left _ z))
      · rcases List.mem_cons.mp z with z | z
        · rw [z]; exact List.mem_cons_self
        · exact List.mem_cons_of_mem _ (List.mem_append_left _ (List.mem_append_right _ z))
    · exact List.mem_cons_of_mem _ (List.mem_append_right _ z)
  · have h7 := List.pairwise_cons.mp h6
    have h8 := List.pairwise_append.mp h7.2
    have h9 := List.pairwise_append.mp h8.1
    refine List.pairwise_append.mpr ⟨List.pairwise_append.mpr ⟨h9.1, List.pairwise_cons.mpr ⟨fun q hq => h7.1 q (List.mem_append_left _ (List.mem_append_right _ hq)), h9.2.1⟩, fun q hq r hr => ?_⟩, h8.2.1, fun q hq r hr => ?_⟩
    · rcases List.mem_cons.mp hr with z | z
      · rw [z]; exact (h7.1 q (List.mem_append_left _ (List.mem_append_left _ hq))).symm
      · exact h9.2.2 q hq r z
    · rcases List.mem_append.mp hq with z | z
      · exact h8.2.2 q (List.mem_append_left _ z) r hr
      · rcases List.mem_cons.mp z with z | z
        · rw [z]; exact h7.1 r (List.mem_append_right _ hr)
        · exact h8.2.2 q (List.mem_append_right _ z) r hr
def wEb (X : Cx) (scope : Scope) (e : Expr) : TE := fun σ H' Q => ∀ (s : Shared) (H : Hp) (C : Addr) (cl : List (Str × Addr)) (fp : List Addr), wE (X.blk s H scope (compEnvC scope cl C X.env) fp) e σ H' Q
def wTb (X : Cx) (scope : Scope) (e : Expr) : TT := fun σ H' Q => ∀ (s : Shared) (H : Hp) (C : Addr) (cl : List (Str × Addr)) (fp : List Addr), wT (X.blk s H scope (compEnvC scope cl C X.env) fp) e σ H' Q
theorem lc_run {α β : Type} [Enc α] [Enc β] {elt : Expr} {scope : Scope} {xs : List α} {P : Prop} {tt : TT} (j : Nat) (g : α → β) (f : α → Bool) (hi : IXB X Γ tg iter xs P) (hz : P → xs.length ≤ sizeLine)
    (ht : ∀ (i : Nat) (x : α), xs[i]? = some x → ∀ (B : Hp × Hp) (ρ : List Slot) (σ : L2.St) (H : Hp), HasE X.K B H ρ σ ((Γ.map lend).set j (.is x)) → ∀ Q : Bool → Hp → Prop, (∀ H', Ex H H' → HasE X.K B H' ρ σ ((Γ.map lend).set j (.is x)) → Q (f x) H') → tt σ H Q)
    (he : ∀ (i : Nat) (x : α), xs[i]? = some x → f x = true → ∀ (s : Shared) (H : Hp) (C : Addr) (cl : List (Str × Addr)) (fp : List Addr), PX (X.blk s H scope (compEnvC scope cl C X.env) fp) ((Γ.map lend).set j (.is x)) elt (.is (g x)))
    (B : Hp × Hp) (ρ : List Slot) (σ : L2.St) (H : Hp) (h : HasE X.K B H ρ σ Γ) (Q : VK) (q : ∀ v H', Ex H H' → HasE X.K B H' ((some v, .own ((xs.filter f).map g)) :: ρ) σ Γ → Q v H') :
    tLc (wI X tg iter) (gName j) tt (wEb X scope elt) [j] σ H Q := by
  refine hi.run B ρ σ H h _ fun J H1 τ hp e1 h1 hgo hstop => fun D hD => ?_
  have hlen := hz hp
  have hl := h.len
  refine ⟨fun i m H' => m = xs.length - i ∧ i ≤ xs.length ∧ Ex H1 H' ∧ HasE X.K B H' ([(some (V.ref D), .own (((xs.take i).filter f).map g))] ++ (τ ++ ρ)) σ Γ, ⟨xs.length, by simp, Nat.zero_le _, Ex.new hD, ?_⟩, ?_⟩
  · exact HasE.newOwn (xs := ([] : List β)) h1 hD fun Hd _ _ => .nil
  · rintro i m H2 ⟨rfl, hin, ex2, k⟩
    by_cases hlt : i < xs.length
    · have hx : xs[i]? = some xs[i] := List.getElem?_eq_getElem hlt
      obtain ⟨g1, g2⟩ := hgo [(some (V.ref D), .own (((xs.take i).filter f).map g))] σ Γ H2 i xs[i] k hx
      refine .inr ⟨g1, fun H' => Ex H1 H' ∧ HasE X.K B H' ([(some (V.ref D), .own (((xs.take (i + 1)).filter f).map g))] ++ (τ ++ ρ)) σ Γ, fun H' p => ⟨xs.length - (i + 1), by omega, rfl, hlt, p.1, p.2⟩, fun x H3 y => ?_⟩
      obtain ⟨e3, k3⟩ := g2 x H3 y
      have ex3 : Ex H1 H3 := ex2.trans e3
      have hw : L2.wipe ((L2.wipe σ [j]).set j (some x)) [j] = L2.wipe σ [j] := by
        show ((σ.set j none).set j (some x)).set j none = σ.set j none
        rw [List.set_set, List.set_set]
      have hσ : (L2.wipe σ [j]).set j (some x) = σ.set j (some x) := by
        show (σ.set j none).set j (some x) = _
        rw [List.set_set]
      have tk : (xs.take (i + 1)) = xs.take i ++ [xs[i]] := by
        rw [List.take_succ, hx]
        rfl
      -- the block's slots, the outer ones beside
      have k4 : HasE X.K B H3 (σ.zip Γ ++ ([(some (V.ref D), .own (((xs.take i).filter f).map g))] ++ (τ ++ ρ))) (σ.set j (some x)) ((Γ.map lend).set j (.is xs[i])) := by
        have a := k3.fork
        obtain ⟨l, Hd, a1, a2, a3, a4, a5, a6⟩ := a
        refine HasE.set j ⟨l, Hd, a1, a2, a3, a4, fun p hp => a5 p ?_, ?_⟩
        · rcases List.mem_append.mp hp with z | z
          · rcases List.mem_cons.mp z with z | z
            · rw [z]; exact List.mem_append_left _ (List.mem_append_right _ List.mem_cons_self)
            · rcases List.mem_append.mp z with z | z
              · exact List.mem_append_left _ (List.mem_append_left _ z)
              · exact List.mem_append_left _ (List.mem_append_right _ (List.mem_cons_of_mem _ z))
          · exact List.mem_append_right _ z
        · have b := List.pairwise_append.mp a6
          have c := List.pairwise_append.mp b.1
          have d := List.pairwise_cons.mp c.2.1
          refine List.pairwise_append.mpr ⟨List.pairwise_cons.mpr ⟨fun r _ => apart_is r, List.pairwise_append.mpr ⟨c.1, d.2, fun p hp q hq => c.2.2 p hp q (List.mem_cons_of_mem _ hq)⟩⟩, b.2.1, fun p hp q hq => ?_⟩
          rcases List.mem_cons.mp hp with z | z
          · rw [z]; exact apart_is q
          · refine b.2.2 p ?_ q hq
            rcases List.mem_append.mp z with z | z
            · exact List.mem_append_left _ z
            · exact List.mem_append_right _ (List.mem_cons_of_mem _ z)
      show L2.wipe ((L2.wipe σ [j]).set j (some x)) [j] = L2.wipe σ [j] ∧ _
      refine ⟨hw, ?_⟩
      rw [hσ]
      refine ht i xs[i] hx B _ _ H3 k4 _ fun H4 e4 k5 => ?_
      cases hf : f xs[i] with
      | false =>
        rw [if_neg Bool.false_ne_true]
        refine ⟨ex3.trans e4, ?_⟩
        rw [tk, List.filter_append, List.map_append]
        have : List.filter f [xs[i]] = [] := by simp [hf]
        rw [this, List.map_nil, List.append_nil]
        exact HasE.join hl k5
      | true =>
        rw [if_pos rfl]
        intro s0 H0 C cl fp
        refine (he i xs[i] hx hf s0 H0 C cl fp).run B _ _ H4 k5 _ fun y' H5 e5 k6 => ?_
        -- y' the new item; the outer slots come back
        have k7 : HasE X.K B H5 ((some y', .is (g xs[i])) :: ([(some (V.ref D), .own (((xs.take i).filter f).map g))] ++ (τ ++ ρ))) σ Γ := HasE.join1 hl k6
        have k8 := k7.swap
        obtain ⟨l, Hd, a1, a2, a3, a4, a5, a6⟩ := id k8
        obtain ⟨b, ws, c1, c2, c3, c4, c5⟩ := a5 _ List.mem_cons_self
        have c1 : some (V.ref D) = some (V.ref b) := c1
        injection c1 with c1
        injection c1 with c1
        subst c1
        have ws_len : ws.length ≤ i := by
          rw [paired_len c5, List.length_map]
          refine Nat.le_trans (List.length_filter_le _ _) ?_
          rw [List.length_take]
          omega
        refine ⟨ws, c4, by omega, (ex3.trans (e4.trans e5)).mut hD, ?_⟩
        rw [tk, List.filter_append, List.map_append]
        have : List.filter f [xs[i]] = [xs[i]] := by simp [hf]
        rw [this]
        refine (HasE.mut (xs' := ((xs.take i).filter f).map g ++ [xs[i]].map g) (vs := ws) k8 (fun p hp lp => ?_) fun Hd' ed ok own => ?_).pop2
        · -- what is only borrowed was there before the new list
          rcases List.mem_append.mp hp with z | z
          · rcases List.mem_cons.mp z with z | z
            · rw [z] at lp; exact lp
            · exact HasE.lent h1 (List.mem_append_left _ z) lp hD
          · exact HasE.lent h1 (List.mem_append_right _ z) lp hD
        · obtain ⟨v', d1, d2⟩ := ok (some y', .is (g xs[i])) List.mem_cons_self
          have d1 : some y' = some v' := d1
          injection d1 with d1
          subst d1
          exact paired_append (own ws c4) (.cons d2 .nil)
    · have e : i = xs.length := by omega
      subst e
      rw [List.take_length] at k
      refine .inl ⟨hstop _ σ Γ H2 k, q _ H2 (e1.trans ex2) ?_⟩
      clear hgo hstop h1 hlt
      induction τ with
      | nil => exact k
      | cons t τ ih => exact ih (HasE.pop2 k)
theorem px_lc0 {α β : Type} [Enc α] [Enc β] {elt : Expr} {scope : Scope} {nm : Str} {xs : List α} {P : Prop} (j : Nat) (g : α → β) (hi : IXB X Γ tg iter xs P) (hz : P → xs.length ≤ sizeLine)
    (htg : ∀ (s : Shared) (H : Hp) (C : Addr) (cl : List (Str × Addr)) (fp : List Addr), PG (X.blk s H scope (compEnvC scope cl C X.env) fp) tg (gName j)) (ok : BlkOk X.N X.env.scope scope [(nm, j)]) (hN : X.N.Nodup) (hc : X.calm = true)
    (he : ∀ (i : Nat) (x : α), xs[i]? = some x → ∀ (s : Shared) (H : Hp) (C : Addr) (cl : List (Str × Addr)) (fp : List Addr), PX (X.blk s H scope (compEnvC scope cl C X.env) fp) ((Γ.map lend).set j (.is x)) elt (.is (g x)))
    (hs : ∀ x, foldedSetIterable iter X.env x = pure x := by intro _; rfl) : PX X Γ (.ListComp elt [⟨tg, iter, [], 0⟩] scope pos) (.own (xs.map g)) :=
  ⟨fun B ρ σ H h Q q => goE (pe_lc (own := [(nm, j)]) (te := wEb X scope elt) hc hN piW ok htg (fun s H C cl fp => pts_nil) (fun s H C cl fp => ⟨fun pins s' σ H' Q I h => h s H C cl fp pins s' I⟩) hs)
    (lc_run j g (fun _ => true) hi hz (fun i x hx B ρ σ H h Q q => q H (Ex.refl H) h) (fun i x hx _ => he i x hx) B ρ σ H h Q fun v H' e k => q v H' e (by rw [List.filter_eq_self.mpr (fun _ _ => rfl)] at k; exact k))⟩
theorem px_lc1 {α β : Type} [Enc α] [Enc β] {elt cnd : Expr} {scope : Scope} {nm : Str} {xs : List α} {P : Prop} (j : Nat) (g : α → β) (f : α → Bool) (hi : IXB X Γ tg iter xs P) (hz : P → xs.length ≤ sizeLine)
    (htg : ∀ (s : Shared) (H : Hp) (C : Addr) (cl : List (Str × Addr)) (fp : List Addr), PG (X.blk s H scope (compEnvC scope cl C X.env) fp) tg (gName j)) (ok : BlkOk X.N X.env.scope scope [(nm, j)]) (hN : X.N.Nodup) (hc : X.calm = true)
    (ht : ∀ (i : Nat) (x : α), xs[i]? = some x → ∀ (s : Shared) (H : Hp) (C : Addr) (cl : List (Str × Addr)) (fp : List Addr), TX (X.blk s H scope (compEnvC scope cl C X.env) fp) ((Γ.map lend).set j (.is x)) cnd (f x))
    (he : ∀ (i : Nat) (x : α), xs[i]? = some x → f x = true → ∀ (s : Shared) (H : Hp) (C : Addr) (cl : List (Str × Addr)) (fp : List Addr), PX (X.blk s H scope (compEnvC scope cl C X.env) fp) ((Γ.map lend).set j (.is x)) elt (.is (g x)))
    (hs : ∀ x, foldedSetIterable iter X.env x = pure x := by intro _; rfl) : PX X Γ (.ListComp elt [⟨tg, iter, [cnd], 0⟩] scope pos) (.own ((xs.filter f).map g)) :=
  ⟨fun B ρ σ H h Q q => goE (pe_lc (own := [(nm, j)]) (tt := wTb X scope cnd) (te := wEb X scope elt) hc hN piW ok htg (fun s H C cl fp => pts_one ⟨fun pins s' σ H' Q I h => h s H C cl fp pins s' I⟩) (fun s H C cl fp => ⟨fun pins s' σ H' Q I h => h s H C cl fp pins s' I⟩) hs)
    (lc_run j g f hi hz (fun i x hx B ρ σ H h Q q s0 H0 C cl fp => (ht i x hx s0 H0 C cl fp).run B ρ σ H h Q q) he B ρ σ H h Q q)⟩
end
end DX
namespace DX
open PySem PySem.Spec PyProof.Rows L2
def wC (X : Cx) : List (List Stmt) → TS
  | [] => tNext
  | b :: k => fun D σ H => wS X b { D with nx := fun σ' H' => wC X k D σ' H' } σ H
abbrev Leaf (M : Type) := (Hp × Hp) → M → Ends → List Slot → Prop
structure SX (X : Cx) {M : Type} (L : Leaf M) (Γ : List Sl) (k : List (List Stmt)) (m : M) : Prop where
  run : ∀ (B : Hp × Hp) (ρ : List Slot) (σ : L2.St) (H : Hp) (D : Ends), (∀ p ∈ ρ, noBor p) → HasE X.K B H ρ σ Γ → L B m D ρ → wC X k D σ H
/-- a value with a name -/
def lt {α β : Type} (x : α) (f : α → β) : β := f x
inductive Out (S R : Type) where
  | go (s : S)
  | brk (s : S)
  | ret (r : R)
def forO {S R α : Type} (step : S → α → Out S R) : S → List α → Out S R
  | s, [] => .go s
  | s, x :: xs => match step s x with
    | .go s' => forO step s' xs
    | .brk s' => .brk s'
    | .ret r => .ret r
def forK {S R α M : Type} (step : S → α → Out S R) (s0 : S) (xs : List α) (m : S → M) (mr : R → M) : M := match forO step s0 xs with
  | .go s => m s
  | .brk s => m s
  | .ret r => mr r
def RetE (K : PySem.W.Frag) (B : Hp × Hp) (H : Hp) (v : V) (s : Sl) : Prop := ∃ Hd, Ex B.1 Hd ∧ Ex Hd H ∧ Ex B.2 H ∧ (∀ a, B.1 a = none → B.2 a ≠ none → Hd a = none) ∧ ResOk K B.2 Hd H (some v) s
def LRet (K : PySem.W.Frag) {R : Type} (res : R → Sl) : Leaf R := fun B m D _ => ∀ v H', RetE K B H' v (res m) → D.rt v H'
def LNx (K : PySem.W.Frag) {S : Type} (Γf : S → List Sl) : Leaf S := fun B m D ρ => ∀ σ' H', HasE K B H' ρ σ' (Γf m) → D.nx σ' H'
def LOut (K : PySem.W.Frag) {S R : Type} (Γf : S → List Sl) (res : R → Sl) : Leaf (Out S R) := fun B m D ρ => match m with
  | .go s => (∀ σ' H', HasE K B H' ρ σ' (Γf s) → D.nx σ' H') ∧ (∀ σ' H', HasE K B H' ρ σ' (Γf s) → D.ct σ' H')
  | .brk s => ∀ σ' H', HasE K B H' ρ σ' (Γf s) → D.bk σ' H'
  | .ret r => ∀ v H', RetE K B H' v (res r) → D.rt v H'
/-- where a leaf takes what is returned -/
def Rets (K : PySem.W.Frag) {M R : Type} (L : Leaf M) (res : R → Sl) (mr : R → M) : Prop := ∀ B r D ρ, L B (mr r) D ρ → ∀ v H', RetE K B H' v (res r) → D.rt v H'
theorem rets_ret {K : PySem.W.Frag} {R : Type} {res : R → Sl} : Rets K (LRet K res) res (fun r => r) := fun B r D ρ h => h
theorem rets_out {K : PySem.W.Frag} {S R : Type} {Γf : S → List Sl} {res : R → Sl} : Rets K (LOut K Γf res) res Out.ret := fun B r D ρ h => h
section
variable {X : Cx} {M : Type} {L : Leaf M} {Γ Γ' : List Sl} {k : List (List Stmt)} {m : M} {st : Stmt} {sts : List Stmt} {e a b c tg iter : Expr} {pos p p' p2 apos cpos : Pos} {s : Sl}
theorem sx_nil (h : SX X L Γ k m) : SX X L Γ ([] :: k) m := ⟨fun B ρ σ H D hb h' l => goSs pss_nil (h.run B ρ σ H D hb h' l)⟩
theorem wC_cons {D : Ends} {σ : L2.St} {H : Hp} (h : w1 X st { D with nx := fun σ' H' => wC X (sts :: k) D σ' H' } σ H) : wC X ((st :: sts) :: k) D σ H := goSs (pss_cons psW pssW) h
theorem sx_weak (w : Wk Γ Γ') (h : SX X L Γ' k m) : SX X L Γ k m := ⟨fun B ρ σ H D hb h' l => h.run B ρ σ H D hb (h'.weak w) l⟩
theorem sx_eq {m' : M} (h : SX X L Γ k m) (e : m = m') : SX X L Γ k m' := e ▸ h
theorem sx_set {α : Type} [Enc α] {x0 : α} {y : Str} {mm : α → M} (i : Nat) (he : PX X Γ e (.is x0)) (hr : ∀ x, x = x0 → SX X L (Γ.set i (.is x)) (sts :: k) (mm x)) (hN : X.N.Nodup) (hi : X.N[i]? = some y := by rfl) (hx : Loc X.env.scope y := by first | exact Or.inl rfl | exact Or.inr rfl)
    (hs : swapsWith e (some (.Name y p')) pos.line X.env = pure false := by rfl) (hf : X.fn y = true ∨ X.env.scope.names.lookup y = some .local := by first | exact .inl rfl | exact .inr rfl) : SX X L Γ ((.Assign [.Name y p'] e pos :: sts) :: k) (lt x0 mm) :=
  ⟨fun B ρ σ H D hb h l => wC_cons (go1 (ps_set hN hi hx peW hs hf) (he.run B ρ σ H h _ fun v H1 e1 h1 => (hr x0 rfl).run B ρ _ H1 D hb (HasE.set i h1) l))⟩
theorem sx_setO {α : Type} [Enc α] {x0 : List α} {y : Str} {mm : List α → M} (i : Nat) (he : PX X Γ e (.own x0)) (hr : ∀ x, x = x0 → SX X L (Γ.set i (.own x)) (sts :: k) (mm x)) (hN : X.N.Nodup) (hi : X.N[i]? = some y := by rfl) (hx : Loc X.env.scope y := by first | exact Or.inl rfl | exact Or.inr rfl)
    (hs : swapsWith e (some (.Name y p')) pos.line X.env = pure false := by rfl) (hf : X.fn y = true ∨ X.env.scope.names.lookup y = some .local := by first | exact .inl rfl | exact .inr rfl) : SX X L Γ ((.Assign [.Name y p'] e pos :: sts) :: k) (lt x0 mm) :=
  ⟨fun B ρ σ H D hb h l => wC_cons (go1 (ps_set hN hi hx peW hs hf) (he.run B ρ σ H h _ fun v H1 e1 h1 => (hr x0 rfl).run B ρ _ H1 D hb (HasE.set i h1) l))⟩
/-- name = [.. for ..], the name a local -/
theorem sx_setLc0 {α β : Type} [Enc α] [Enc β] {elt : Expr} {scope : Scope} {nm y : Str} {xs : List α} {P : Prop} {py spos : Pos} {mm : List β → M} (i j : Nat) (g : α → β) (hi : IXB X Γ tg iter xs P) (hz : P → xs.length ≤ sizeLine)
    (hr : ∀ x, x = xs.map g → SX X L (Γ.set i (.own x)) (sts :: k) (mm x))
    (htg : ∀ (s : Shared) (H : Hp) (C : Addr) (cl : List (Str × Addr)) (fp : List Addr), PG (X.blk s H scope (compEnvC scope cl C X.env) fp) tg (gName j)) (ok : BlkOk X.N X.env.scope scope [(nm, j)]) (hN : X.N.Nodup) (hc : X.calm = true)
    (he : ∀ (i : Nat) (x : α), xs[i]? = some x → ∀ (s : Shared) (H : Hp) (C : Addr) (cl : List (Str × Addr)) (fp : List Addr), PX (X.blk s H scope (compEnvC scope cl C X.env) fp) ((Γ.map lend).set j (.is x)) elt (.is (g x)))
    (hsw : swapsWith (.ListComp elt [⟨tg, iter, [], 0⟩] scope pos) (some (.Name y py)) spos.line X.env = pure true) (hy : X.N[i]? = some y := by rfl) (hyl : X.env.scope.names.lookup y = some .local := by rfl)
    (hs : ∀ x, foldedSetIterable iter X.env x = pure x := by intro _; rfl) : SX X L Γ ((.Assign [.Name y py] (.ListComp elt [⟨tg, iter, [], 0⟩] scope pos) spos :: sts) :: k) (lt (xs.map g) mm) :=
  ⟨fun B ρ σ H D hb h l => wC_cons (go1 (ps_setLc (own := [(nm, j)]) (te := wEb X scope elt) hc hN hy hyl hsw piW ok htg (fun s H C cl fp => pts_nil) (fun s H C cl fp => ⟨fun pins s' σ H' Q I h => h s H C cl fp pins s' I⟩) hs)
    (lc_run j g (fun _ => true) hi hz (fun i x hx B ρ σ H h Q q => q H (Ex.refl H) h) (fun i x hx _ => he i x hx) B ρ σ H h _ fun v H' e k' => (hr _ rfl).run B ρ _ H' D hb (HasE.set i (by rw [List.filter_eq_self.mpr (fun _ _ => rfl)] at k'; exact k')) l))⟩
theorem pairwise_out {α : Type 1} {R : α → α → Prop} (symm : ∀ a b, R a b → R b a) {x y : α} (hy : ∀ q, R y q) : ∀ {l : List α} {i : Nat}, l[i]? = some x → l.Pairwise R → (x :: l.set i y).Pairwise R
  | [], _, h, _ => by simp at h
  | a :: l, 0, h, hp => by
    have e : a = x := by simpa using h
    subst e
    have h' := List.pairwise_cons.mp hp
    exact List.pairwise_cons.mpr ⟨fun q hq => (List.mem_cons.mp hq).elim (fun z => by rw [z]; exact symm _ _ (hy a)) (h'.1 q), List.pairwise_cons.mpr ⟨fun q _ => hy q, h'.2⟩⟩
  | a :: l, i + 1, h, hp => by
    have h' := List.pairwise_cons.mp hp
    have hx : l[i]? = some x := by simpa using h
    have ih := pairwise_out symm hy hx h'.2
    have ih' := List.pairwise_cons.mp ih
    refine List.pairwise_cons.mpr ⟨fun q hq => ?_, List.pairwise_cons.mpr ⟨fun q hq => ?_, ih'.2⟩⟩
    · rcases List.mem_cons.mp hq with z | z
      · rw [z]; exact symm _ _ (h'.1 x (List.mem_of_getElem? hx))
      · exact ih'.1 q z
    · rcases List.mem_or_eq_of_mem_set hq with z | z
      · exact h'.1 q z
      · rw [z]; exact symm _ _ (hy a)
theorem HasE.takeOut {K : PySem.W.Frag} {B : Hp × Hp} {H : Hp} {ρ : List Slot} {σ : L2.St} {Γ : List Sl} {i : Nat} {o : Option V} {s : Sl} (h : HasE K B H ρ σ Γ) (g : Γ[i]? = some s) (ho : σ[i]? = some o) : HasE K B H ((o, s) :: ρ) σ (Γ.set i .no) := by
  obtain ⟨l, Hd, h1, h2, h3, h4, h5, h6⟩ := h
  have hz : (σ.zip Γ)[i]? = some (o, s) := by
    rw [List.getElem?_zip_eq_some]
    exact ⟨ho, g⟩
  have hs : σ.set i o = σ := by
    obtain ⟨hlt, e⟩ := List.getElem?_eq_some_iff.mp ho
    subst e
    exact List.set_getElem_self hlt
  have hz2 : σ.zip (Γ.set i .no) = (σ.zip Γ).set i (o, .no) := by
    rw [← zip_set, hs]
  refine ⟨by simp [l], Hd, h1, h2, h3, h4, fun q hq => ?_, ?_⟩
  · rcases List.mem_cons.mp hq with z | z
    · rw [z]; exact h5 _ (List.mem_append_right _ (List.mem_of_getElem? hz))
    · rcases List.mem_append.mp z with z | z
      · exact h5 q (List.mem_append_left _ z)
      · rw [hz2] at z
        rcases List.mem_or_eq_of_mem_set z with z | z
        · exact h5 q (List.mem_append_right _ z)
        · rw [z]; trivial
  · rw [hz2]
    have h7 := List.pairwise_append.mp h6
    have h8 := List.pairwise_cons.mp (pairwise_out (y := (o, Sl.no)) (fun _ _ => apart.symm) (fun q => apart_no q) hz h7.2.1)
    refine List.pairwise_cons.mpr ⟨fun q hq => ?_, List.pairwise_append.mpr ⟨h7.1, h8.2, fun p hp q hq => ?_⟩⟩
    · rcases List.mem_append.mp hq with z | z
      · exact (h7.2.2 q z _ (List.mem_of_getElem? hz)).symm
      · exact h8.1 q z
    · rcases List.mem_or_eq_of_mem_set hq with z | z
      · exact h7.2.2 p hp q z
      · rw [z]; exact (apart_no p).symm
theorem set_same {α : Type} {σ : List α} {i : Nat} {o : α} (ho : σ[i]? = some o) : σ.set i o = σ := by
  obtain ⟨hlt, e⟩ := List.getElem?_eq_some_iff.mp ho
  subst e
  exact List.set_getElem_self hlt
theorem set_set_sl {Γ : List Sl} {i : Nat} {s t : Sl} : (Γ.set i s).set i t = Γ.set i t := List.set_set ..
theorem HasE.shareAt {K : PySem.W.Frag} {B : Hp × Hp} {H : Hp} {ρ : List Slot} {σ : L2.St} {Γ : List Sl} {i : Nat} {α : Type} [Enc α] {xs : List α} (h : HasE K B H ρ σ Γ) (g : Γ[i]? = some (.own xs)) : HasE K B H ρ σ (Γ.set i (.is xs)) := by
  obtain ⟨o, ho, _⟩ := zip_get h.len g
  have h2 := HasE.set i (h.takeOut g ho).share
  rw [set_same ho, set_set_sl] at h2
  exact h2
theorem sx_share {α : Type} [Enc α] {xs : List α} (i : Nat) (g : Γ[i]? = some (.own xs)) (h : SX X L (Γ.set i (.is xs)) k m) : SX X L Γ k m := ⟨fun B ρ σ H D hb h' l => h.run B ρ σ H D hb (h'.shareAt g) l⟩
def bors : Sl → Bool
  | @Sl.bor _ _ _ => true
  | _ => false
theorem no_lends {ρ : List Slot} {σ : L2.St} {Γ : List Sl} {a : Addr} (hb : ∀ p ∈ ρ, noBor p) (hg : Γ.any bors = false) : ∀ p ∈ ρ ++ σ.zip Γ, ¬ lends p a := fun p hp l => by
  rcases List.mem_append.mp hp with z | z
  · have := hb p z
    obtain ⟨o, s⟩ := p
    cases s with
    | bor x => exact this
    | no => exact l
    | is x => exact l
    | own x => exact l
    | arg x => exact l
    | ownA c x => exact l
    | gen fp Φ => exact l
  · obtain ⟨o, s⟩ := p
    have hm : s ∈ Γ := (List.of_mem_zip z).2
    cases s with
    | bor x =>
      have := List.any_eq_false.mp hg _ hm
      exact this rfl
    | no => exact l
    | is x => exact l
    | own x => exact l
    | arg x => exact l
    | ownA c x => exact l
    | gen fp Φ => exact l
theorem bors_set {Γ : List Sl} {i : Nat} (h : Γ.any bors = false) : (Γ.set i .no).any bors = false := by
  rw [List.any_eq_false] at h ⊢
  intro s hs
  rcases List.mem_or_eq_of_mem_set hs with z | z
  · exact h s z
  · rw [z]; exact fun z => nomatch z
/-- xs.append(e), xs one's own -/
theorem sx_app {α : Type} [Enc α] {xs : List α} {x0 : α} {y : Str} {mm : List α → M} (i : Nat) (g : Γ[i]? = some (.own xs)) (he : PX X Γ e (.is x0)) (hz : xs.length < sizeLine) (hr : ∀ x, x = xs ++ [x0] → SX X L (Γ.set i (.own x)) (sts :: k) (mm x)) (hbo : Γ.any bors = false := by rfl)
    (hi : X.N[i]? = some y := by rfl) (hv : Vis X.env.scope y := by first | exact Or.inl rfl | exact Or.inr (Or.inl rfl) | exact Or.inr (Or.inr rfl))
    (hd : (y == ("__debug__" : Str)) = false := by decide) (hcd : (y == ("__classdict__" : Str)) = false := by decide)
    (hbase : attributeBase (.Name y p) "append" X.env (eval (.Name y p) X.env) = eval (.Name y p) X.env := by rfl)
    (hfew : ((backTo cpos (starEach [e] X.env)).all (fun x => !x.1) && (backToKw cpos (keywordEach [] X.env)).all (fun x => x.1.isSome)
      && decide (([e] : List Expr).length + ([] : List Keyword).length + (if ([] : List Keyword).isEmpty then 0 else 1) < 30)) = true := by rfl)
    (hline : (apos.endLine == cpos.line) = true := by rfl) (hs : starEach [e] X.env = (false, eval e X.env) :: starEach [] X.env := by rfl) (hplain : (backTo cpos (starEach [] X.env)).any (·.1) = false := by rfl)
    (hsw : swapsWith (.Call (.Attribute (.Name y p) "append" apos) [e] [] cpos) none pos.line X.env = pure false := by rfl) :
    SX X L Γ ((.Expr (.Call (.Attribute (.Name y p) "append" apos) [e] [] cpos) pos :: sts) :: k) (lt (xs ++ [x0]) mm) :=
  ⟨fun B ρ σ H D hb h l => wC_cons (go1 (ps_expr (pe_bm PySem.F.plainAttrs_list PySem.F.slot_list_append PySem.F.type_list_append mt_append (pe_var hi hv hd hcd) (pa_cons peW pa_nil hs) hbase hfew hline hs hplain) hsw) (by
    obtain ⟨o, ho, hm⟩ := zip_get h.len g
    obtain ⟨zl, Hd, z1, z2, z3, z4, z5, z6⟩ := id h
    obtain ⟨a, vs, g1, g2, g3, g4, g5⟩ := z5 _ (List.mem_append_right _ hm)
    have g1 : o = some (.ref a) := g1
    subst g1
    refine ⟨.ref a, ho, .inl ⟨rfl, vs, SqL.of g4⟩, ?_⟩
    refine he.run B ρ σ H h _ fun v H1 e1 h1 => ?_
    have g4' : H1 a = some (.lst vs) := e1 _ _ g4
    refine ⟨a, vs, v, rfl, rfl, g4', by rw [paired_len g5]; exact hz, ?_⟩
    have h2 := h1.takeOut g ho
    have h3 := HasE.mut (vs := vs) (vs' := vs ++ [v]) (xs' := xs ++ [x0]) h2 (fun q hq lq => by
      rcases List.mem_append.mp hq with z | z
      · rcases List.mem_cons.mp z with z | z
        · rw [z] at lq; exact lq
        · exact no_lends (σ := σ) (Γ := Γ) hb hbo q (List.mem_append_left _ z) lq
      · exact no_lends (σ := σ) (Γ := Γ.set i .no) hb (bors_set hbo) q (List.mem_append_right _ z) lq) (fun Hd' ed ok own => by
        obtain ⟨v', d1, d2⟩ := ok (some v, .is x0) List.mem_cons_self
        have d1 : some v = some v' := d1
        injection d1 with d1
        subst d1
        exact paired_append (own vs g4') (.cons d2 .nil))
    have h4 := HasE.set i h3.pop2
    rw [set_same ho, set_set_sl] at h4
    exact (hr _ rfl).run B ρ σ _ D hb h4 l))⟩
/-- xs[at] = e, xs one's own -/
theorem sx_put {α : Type} [Enc α] {xs : List α} {x0 : α} {j : Int} {n : Nat} {y : Str} {mm : List α → M} (i : Nat) (g : Γ[i]? = some (.own xs)) (he : PX X Γ e (.is x0)) (hj : PX X Γ b (.is j)) (hn : ixN xs.length j = some n) (hr : ∀ x, x = xs.set n x0 → SX X L (Γ.set i (.own x)) (sts :: k) (mm x)) (hbo : Γ.any bors = false := by rfl)
    (hi : X.N[i]? = some y := by rfl) (hv : Vis X.env.scope y := by first | exact Or.inl rfl | exact Or.inr (Or.inl rfl) | exact Or.inr (Or.inr rfl))
    (hd : (y == ("__debug__" : Str)) = false := by decide) (hcd : (y == ("__classdict__" : Str)) = false := by decide)
    (hsub : PG X (.Subscript (.Name y p) b p2) (gSub (tVar i) (wE X b) rSetL) := by exact pg_sub (pe_var rfl (by first | exact Or.inl rfl | exact Or.inr (Or.inl rfl) | exact Or.inr (Or.inr rfl)) (by decide) (by decide)) peW set_list) (hs : swapsWithSole [.Subscript (.Name y p) b p2] e pos.line X.env = pure false := by rfl) (hw : swappedStores [.Subscript (.Name y p) b p2] e X.env = pure none := by rfl)
    (h1 : (assignEach [.Subscript (.Name y p) b p2] X.env).map (·.2) = [assign (.Subscript (.Name y p) b p2) X.env] := by rfl) :
    SX X L Γ ((.Assign [.Subscript (.Name y p) b p2] e pos :: sts) :: k) (lt (xs.set n x0) mm) :=
  ⟨fun B ρ σ H D hb h l => wC_cons (go1 (ps_asg peW hsub hs hw h1) (by
    refine he.run B ρ σ H h _ fun v H1 e1 h1 => ?_
    obtain ⟨o, ho, hm⟩ := zip_get h1.len g
    obtain ⟨zl, Hd, z1, z2, z3, z4, z5, z6⟩ := id h1
    obtain ⟨a, vs, g1, g2, g3, g4, g5⟩ := z5 _ (List.mem_append_right _ hm)
    have g1 : o = some (.ref a) := g1
    subst g1
    refine ⟨.ref a, ho, ?_⟩
    refine hj.run B _ σ H1 h1 _ fun w H2 e2 h2 => ?_
    have ew := h2.topSc
    injection ew with ew
    subst ew
    have g4' : H2 a = some (.lst vs) := e2 _ _ g4
    refine ⟨a, vs, j, n, rfl, rfl, g4', by rw [paired_len g5]; exact hn, ?_⟩
    have h3 := (h2.pop).takeOut g ho
    have h4 := HasE.mut (vs := vs) (vs' := vs.set n v) (xs' := xs.set n x0) h3 (fun q hq lq => by
      rcases List.mem_append.mp hq with z | z
      · rcases List.mem_cons.mp z with z | z
        · rw [z] at lq; exact lq
        · exact no_lends (σ := σ) (Γ := Γ) hb hbo q (List.mem_append_left _ z) lq
      · exact no_lends (σ := σ) (Γ := Γ.set i .no) hb (bors_set hbo) q (List.mem_append_right _ z) lq) (fun Hd' ed ok own => by
        obtain ⟨v', d1, d2⟩ := ok (some v, .is x0) List.mem_cons_self
        have d1 : some v = some v' := d1
        injection d1 with d1
        subst d1
        exact paired_set d2 n (own vs g4'))
    have h5 := HasE.set i h4.pop2
    rw [set_same ho, set_set_sl] at h5
    exact (hr _ rfl).run B ρ σ _ D hb h5 l))⟩
theorem sx_if {x : Bool} {A B' : List Stmt} {m1 m2 : M} (hc : TX X Γ c x) (h1 : x = true → SX X L Γ (A :: sts :: k) m1) (h2 : x = false → SX X L Γ (B' :: sts :: k) m2) : SX X L Γ ((.If c A B' pos :: sts) :: k) (if x = true then m1 else m2) :=
  ⟨fun B ρ σ H D hb h l => wC_cons (go1 (ps_if ptW pssW pssW) (hc.run B ρ σ H h _ fun H1 e1 h' => by
    cases x with
    | true =>
      rw [if_pos rfl] at l
      rw [if_pos rfl]
      exact (h1 rfl).run B ρ σ H1 D hb h' l
    | false =>
      rw [if_neg Bool.false_ne_true] at l
      rw [if_neg Bool.false_ne_true]
      exact (h2 rfl).run B ρ σ H1 D hb h' l))⟩
/-- an if whose ways come together: s1, s2 what the changed names hold -/
theorem sx_ifj {S : Type} {x : Bool} {A B' : List Stmt} {s1 s2 : S} {mm : S → M} (Γf : S → List Sl) (hc : TX X Γ c x) (h1 : x = true → SX X (LNx X.K Γf) Γ [A] s1) (h2 : x = false → SX X (LNx X.K Γf) Γ [B'] s2) (hr : ∀ s, s = (if x = true then s1 else s2) → SX X L (Γf s) (sts :: k) (mm s)) :
    SX X L Γ ((.If c A B' pos :: sts) :: k) (lt (if x = true then s1 else s2) mm) :=
  ⟨fun B ρ σ H D hb h l => wC_cons (go1 (ps_if ptW pssW pssW) (hc.run B ρ σ H h _ fun H1 e1 h' => by
    have r := hr _ rfl
    unfold lt at l
    cases x with
    | true =>
      rw [if_pos rfl] at l r
      rw [if_pos rfl]
      exact (h1 rfl).run B ρ σ H1 { D with nx := fun σ' H' => wC X (sts :: k) D σ' H' } hb h' fun σ' H' h2 => r.run B ρ σ' H' D hb h2 l
    | false =>
      rw [if_neg Bool.false_ne_true] at l r
      rw [if_neg Bool.false_ne_true]
      exact (h2 rfl).run B ρ σ H1 { D with nx := fun σ' H' => wC X (sts :: k) D σ' H' } hb h' fun σ' H' h3 => r.run B ρ σ' H' D hb h3 l))⟩
theorem sx_endN {S : Type} {Γf : S → List Sl} {s : S} (w : Wk Γ (Γf s)) : SX X (LNx X.K Γf) Γ [] s := ⟨fun B ρ σ H D hb h l => l σ H (h.weak w)⟩
theorem sx_endO {S R : Type} {Γf : S → List Sl} {res : R → Sl} {s : S} (w : Wk Γ (Γf s)) : SX X (LOut X.K Γf res) Γ [] (.go s) := ⟨fun B ρ σ H D hb h l => l.1 σ H (h.weak w)⟩
theorem HasE.ret {K : PySem.W.Frag} {B : Hp × Hp} {H : Hp} {ρ : List Slot} {σ : L2.St} {Γ : List Sl} {v : V} {s : Sl} (h : HasE K B H ((some v, s) :: ρ) σ Γ) (hs : Retable s) : RetE K B H v s := by
  obtain ⟨l, Hd, h1, h2, h3, h4, h5, h6⟩ := h
  exact ⟨Hd, h1.ex, h2, h3, h4, h5 _ List.mem_cons_self, hs⟩
theorem sx_retI {α : Type} [Enc α] {R : Type} {res : R → Sl} {mr : R → M} {x : α} {r : R} (hL : Rets X.K L res mr) (hres : res r = .is x) (he : PX X Γ e (.is x)) : SX X L Γ ((.Return (some e) pos :: sts) :: k) (mr r) :=
  ⟨fun B ρ σ H D hb h l => wC_cons (go1 (ps_ret peW) (he.run B ρ σ H h _ fun v H1 e1 h1 => hL B r D ρ l v H1 (by rw [hres]; exact h1.ret trivial)))⟩
theorem sx_retO {α : Type} [Enc α] {R : Type} {res : R → Sl} {mr : R → M} {x : List α} {r : R} (hL : Rets X.K L res mr) (hres : res r = .own x) (he : PX X Γ e (.own x)) : SX X L Γ ((.Return (some e) pos :: sts) :: k) (mr r) :=
  ⟨fun B ρ σ H D hb h l => wC_cons (go1 (ps_ret peW) (he.run B ρ σ H h _ fun v H1 e1 h1 => hL B r D ρ l v H1 (by rw [hres]; exact h1.ret trivial)))⟩
/-- one's own list is handed out -/
theorem sx_retV {α : Type} [Enc α] {R : Type} {res : R → Sl} {mr : R → M} {x : List α} {r : R} {y : Str} (i : Nat) (g : Γ[i]? = some (.own x)) (hL : Rets X.K L res mr) (hres : res r = .own x) (hN : X.N[i]? = some y := by rfl) (hv : Vis X.env.scope y := by first | exact Or.inl rfl | exact Or.inr (Or.inl rfl) | exact Or.inr (Or.inr rfl))
    (hd : (y == ("__debug__" : Str)) = false := by decide) (hcd : (y == ("__classdict__" : Str)) = false := by decide) : SX X L Γ ((.Return (some (.Name y p)) pos :: sts) :: k) (mr r) :=
  ⟨fun B ρ σ H D hb h l => wC_cons (go1 (ps_ret (pe_var hN hv hd hcd)) (by
    obtain ⟨o, ho, hm⟩ := zip_get h.len g
    have h2 := h.takeOut g ho
    obtain ⟨a, vs, g1, _⟩ := h2.ex.choose_spec.2.2.2.2.1 _ List.mem_cons_self
    have g1 : o = some (.ref a) := g1
    subst g1
    exact ⟨.ref a, ho, hL B r D ρ l _ H (by rw [hres]; exact h2.ret trivial)⟩))⟩
theorem sx_for {S R α : Type} [Enc α] {xs : List α} {P : Prop} {body : List Stmt} {mm : S → M} {mr : R → M} (j : Nat) (Γf : S → List Sl) (res : R → Sl) (step : S → α → Out S R) (s0 : S) (I : Nat → S → Prop) (hi : IX X Γ tg iter xs P) (hg : PG X tg (gName j)) (hst : Wk Γ (Γf s0)) (h0 : I 0 s0)
    (hbd : ∀ (i : Nat) (s : S) (x : α), xs[i]? = some x → I i s → SX X (LOut X.K Γf res) ((Γf s).set j (.is x)) [body] (step s x))
    (hI : ∀ (i : Nat) (s : S) (x : α) (s' : S), xs[i]? = some x → I i s → step s x = .go s' → I (i + 1) s')
    (hret : Rets X.K L res mr) (hrest : ∀ s, (forO step s0 xs = .go s ∧ I xs.length s ∨ forO step s0 xs = .brk s) → SX X L (Γf s) (sts :: k) (mm s))
    (hc : X.calm = true := by rfl) (hp : PassesOwn (model X.prog X.w) X.A X.env X.xe := by first | exact PassesOwn.never | exact PassesOwn.leaving) (hs : ∀ x, foldedSetIterable iter X.env x = pure x := by intro _; rfl) : SX X L Γ ((.For tg iter body [] pos :: sts) :: k) (forK step s0 xs mm mr) := by
  refine ⟨fun B ρ σ H D hb h l => wC_cons (go1 (ps_for hp hc piW hg pssW hs) ?_)⟩
  refine hi.run B ρ σ H h _ fun J H1 τ hP e1 hbt h1 hgo hstop => ?_
  have unτ : ∀ {τ : List Slot} {H' : Hp} {σ' : L2.St} {Γ' : List Sl}, HasE X.K B H' (τ ++ ρ) σ' Γ' → HasE X.K B H' ρ σ' Γ' := by
    intro τ
    induction τ with
    | nil => exact fun h => h
    | cons t τ ih => exact fun h => ih h.pop
  have hbρ : ∀ p ∈ τ ++ ρ, noBor p := fun p hp => (List.mem_append.mp hp).elim (hbt p) (hb p)
  refine ⟨fun i mm' σ' H' => mm' = xs.length - i ∧ i ≤ xs.length ∧ ∃ s, I i s ∧ forO step s0 xs = forO step s (xs.drop i) ∧ HasE X.K B H' (τ ++ ρ) σ' (Γf s), ⟨xs.length, by simp, Nat.zero_le _, s0, h0, rfl, h1.weak hst⟩, ?_⟩
  rintro i mm' σ' H' ⟨rfl, hin, s, hIs, hf, hh⟩
  by_cases hlt : i < xs.length
  · have hx : xs[i]? = some xs[i] := List.getElem?_eq_getElem hlt
    obtain ⟨g1, g2⟩ := hgo [] σ' (Γf s) H' i xs[i] hh hx
    rw [List.drop_eq_getElem_cons hlt] at hf
    refine .inr ⟨g1, fun σ2 H2 => ∃ s', I (i + 1) s' ∧ forO step s0 xs = forO step s' (xs.drop (i + 1)) ∧ HasE X.K B H2 (τ ++ ρ) σ2 (Γf s'), fun σ2 H2 ⟨s', a1, a2, a3⟩ => ⟨xs.length - (i + 1), by omega, rfl, hlt, s', a1, a2, a3⟩, fun v H2 y => ?_⟩
    obtain ⟨e3, k3⟩ := g2 v H2 y
    have hf' : forO step s0 xs = (match step s xs[i] with
      | .go s' => forO step s' (xs.drop (i + 1))
      | .brk s' => .brk s'
      | .ret r => .ret r) := hf
    refine (hbd i s xs[i] hx hIs).run B (τ ++ ρ) _ H2 { D with nx := fun σ2 H2 => ∃ s', I (i + 1) s' ∧ forO step s0 xs = forO step s' (xs.drop (i + 1)) ∧ HasE X.K B H2 (τ ++ ρ) σ2 (Γf s'), ct := fun σ2 H2 => ∃ s', I (i + 1) s' ∧ forO step s0 xs = forO step s' (xs.drop (i + 1)) ∧ HasE X.K B H2 (τ ++ ρ) σ2 (Γf s'), bk := fun σ' H' => wC X (sts :: k) D σ' H' } hbρ (HasE.set j k3) ?_
    cases q : step s xs[i] with
    | go s' =>
      rw [q] at hf'
      have hI' := hI i s xs[i] s' hx hIs q
      exact ⟨fun σ3 H3 h3 => ⟨s', hI', hf', h3⟩, fun σ3 H3 h3 => ⟨s', hI', hf', h3⟩⟩
    | brk s' =>
      rw [q] at hf'
      intro σ3 H3 h3
      refine (hrest s' (.inr hf')).run B ρ σ3 H3 D hb (unτ h3) ?_
      unfold forK at l
      rw [hf'] at l
      exact l
    | ret r =>
      rw [q] at hf'
      intro v3 H3 h3
      unfold forK at l
      rw [hf'] at l
      exact hret B r D ρ l v3 H3 h3
  · have e : i = xs.length := by omega
    subst e
    rw [List.drop_length] at hf
    have hf' : forO step s0 xs = .go s := hf
    refine .inl ⟨hstop [] σ' (Γf s) H' hh, (hrest s (.inl ⟨hf', hIs⟩)).run B ρ σ' H' D hb (unτ hh) ?_⟩
    unfold forK at l
    rw [hf'] at l
    exact l
/-- a for that runs through -/
theorem sx_forF {S α : Type} [Enc α] {xs : List α} {P : Prop} {body : List Stmt} {mm : S → M} (j : Nat) (Γf : S → List Sl) (step : S → α → S) (s0 : S) (I : Nat → S → Prop) (hi : IX X Γ tg iter xs P) (hg : PG X tg (gName j)) (hst : Wk Γ (Γf s0)) (h0 : I 0 s0)
    (hbd : ∀ (i : Nat) (s : S) (x : α), xs[i]? = some x → I i s → SX X (LNx X.K Γf) ((Γf s).set j (.is x)) [body] (step s x))
    (hI : ∀ (i : Nat) (s : S) (x : α), xs[i]? = some x → I i s → I (i + 1) (step s x))
    (hrest : ∀ s, s = xs.foldl step s0 → I xs.length s → SX X L (Γf s) (sts :: k) (mm s))
    (hc : X.calm = true := by rfl) (hp : PassesOwn (model X.prog X.w) X.A X.env X.xe := by first | exact PassesOwn.never | exact PassesOwn.leaving) (hs : ∀ x, foldedSetIterable iter X.env x = pure x := by intro _; rfl) : SX X L Γ ((.For tg iter body [] pos :: sts) :: k) (lt (xs.foldl step s0) mm) := by
  refine ⟨fun B ρ σ H D hb h' l => wC_cons (go1 (ps_for hp hc piW hg pssW hs) ?_)⟩
  refine hi.run B ρ σ H h' _ fun J H1 τ hP e1 hbt h1 hgo hstop => ?_
  have unτ : ∀ {τ : List Slot} {H' : Hp} {σ' : L2.St} {Γ' : List Sl}, HasE X.K B H' (τ ++ ρ) σ' Γ' → HasE X.K B H' ρ σ' Γ' := by
    intro τ
    induction τ with
    | nil => exact fun h => h
    | cons t τ ih => exact fun h => ih h.pop
  have hbρ : ∀ p ∈ τ ++ ρ, noBor p := fun p hp => (List.mem_append.mp hp).elim (hbt p) (hb p)
  refine ⟨fun i mm' σ' H' => mm' = xs.length - i ∧ i ≤ xs.length ∧ I i ((xs.take i).foldl step s0) ∧ HasE X.K B H' (τ ++ ρ) σ' (Γf ((xs.take i).foldl step s0)), ⟨xs.length, by simp, Nat.zero_le _, h0, h1.weak hst⟩, ?_⟩
  rintro i mm' σ' H' ⟨rfl, hin, hIs, hh⟩
  by_cases hlt : i < xs.length
  · have hx : xs[i]? = some xs[i] := List.getElem?_eq_getElem hlt
    obtain ⟨g1, g2⟩ := hgo [] σ' _ H' i xs[i] hh hx
    have tk : (xs.take (i + 1)).foldl step s0 = step ((xs.take i).foldl step s0) xs[i] := by
      rw [List.take_succ, hx, List.foldl_append]
      rfl
    refine .inr ⟨g1, fun σ2 H2 => I (i + 1) ((xs.take (i + 1)).foldl step s0) ∧ HasE X.K B H2 (τ ++ ρ) σ2 (Γf ((xs.take (i + 1)).foldl step s0)), fun σ2 H2 ⟨a1, a2⟩ => ⟨xs.length - (i + 1), by omega, rfl, hlt, a1, a2⟩, fun v H2 y => ?_⟩
    obtain ⟨e3, k3⟩ := g2 v H2 y
    refine (hbd i _ xs[i] hx hIs).run B (τ ++ ρ) _ H2 { D with nx := fun σ2 H2 => I (i + 1) ((xs.take (i + 1)).foldl step s0) ∧ HasE X.K B H2 (τ ++ ρ) σ2 (Γf ((xs.take (i + 1)).foldl step s0)), ct := fun σ2 H2 => I (i + 1) ((xs.take (i + 1)).foldl step s0) ∧ HasE X.K B H2 (τ ++ ρ) σ2 (Γf ((xs.take (i + 1)).foldl step s0)), bk := fun σ' H' => wC X (sts :: k) D σ' H' } hbρ (HasE.set j k3) fun σ3 H3 h3 => ?_
    rw [tk]
    exact ⟨hI i _ xs[i] hx hIs, h3⟩
  · have e : i = xs.length := by omega
    subst e
    rw [List.take_length] at hIs hh
    exact .inl ⟨hstop [] σ' _ H' hh, (hrest _ rfl hIs).run B ρ σ' H' D hb (unτ hh) l⟩
theorem spD_len {ι : Type} {K : PySem.W.Frag} {pre : ι → Prop} {args : ι → List Sl} {res : ι → Sl} {n : Nat} (hn : ∀ i, (args i).length = n) : ∀ vs H Q E, spD K pre args res vs H Q E → vs.length = n := fun vs H Q E ⟨_, i, _, _, l, _⟩ => l.trans (hn i)
theorem zip_append {α : Type} {β : Type 1} : ∀ {a b : List α} {c d : List β}, a.length = c.length → (a ++ b).zip (c ++ d) = a.zip c ++ b.zip d
  | [], _, [], _, _ => rfl
  | [], _, _ :: _, _, h => by simp at h
  | _ :: _, _, [], _, h => by simp at h
  | x :: a, b, y :: c, d, h => by
    show (x, y) :: (a ++ b).zip (c ++ d) = (x, y) :: (a.zip c ++ b.zip d)
    rw [zip_append (by simpa using h)]
theorem defFn {P : Program} {w : World} {K : PySem.W.Frag} {mg : Str → Option Value} {base : Heap} {ι R : Type} {x qual : Str} {st : Stmt} {f : Addr} {fd : FuncData} {N ps : List Str} {kk : Nat} (F : Fun K x qual st f fd) (S : FnScope N ps (defScope st))
    (pre : ι → Prop) (args : ι → List Sl) (res : R → Sl) (mi : ι → R) (hn : ∀ i, (args i).length = ps.length)
    (body : ∀ (i : ι), pre i → ∀ (cdv : Value) (A : Around) (outer : List Env) (s : Shared) (H : Hp) (E : XK), Room kk (A.deeper (envOfC qual (defScope st) s.heap.objs.size f cdv)) →
      SX (cxOf CX0 P w K mg base N qual (defScope st) f cdv A outer s H E).nox (LRet K res) (args i ++ List.replicate (N.length - ps.length) .no) [defBody st] (mi i)) :
    FnOk P w K mg base CX0 (kk + 1) f fd ps (spD K pre args fun i => res (mi i)) := by
  refine F.ok S (spD_len hn) fun cdv A outer s H vs Q E hr h => ?_
  refine ⟨wS _ (defBody st), pssW, ?_⟩
  obtain ⟨Hd0, i, h1, hp, hl, ha, q⟩ := h
  have hN : vs.length = ps.length := hl.trans (hn i)
  have r := (body i hp cdv A outer s H E hr).run (Hd0, H) [] (L2.start N vs) H { nx := fun _ H' => Q .non H', rt := Q } (fun p hp => nomatch hp) ?_ ?_
  · exact r0 r
  · refine ⟨?_, Hd0, ⟨Ex.refl _, h1.tab⟩, h1.ex, Ex.refl _, fun a b _ => b, ?_, ?_⟩
    · unfold L2.start
      simp [hl, hn i, hN]
    · intro p hp
      rw [List.nil_append] at hp
      unfold L2.start at hp
      rw [zip_append (by simp [hl])] at hp
      rcases List.mem_append.mp hp with z | z
      · exact (ha p z).1
      · have := (List.of_mem_zip (show (p.1, p.2) ∈ _ from z)).2
        rw [(List.mem_replicate.mp this).2]
        trivial
    · rw [List.nil_append]
      unfold L2.start
      rw [zip_append (by simp [hl])]
      refine List.pairwise_append.mpr ⟨?_, ?_, fun p hp q' _ => (ha p hp).2 q'⟩
      · exact pw_all fun p hp q' => (ha p hp).2 q'
      · refine pw_all fun p hp q' => ?_
        have := (List.of_mem_zip (show (p.1, p.2) ∈ _ from hp)).2
        obtain ⟨o, s'⟩ := p
        have e : s' = .no := (List.mem_replicate.mp this).2
        subst e
        exact apart_no q'
  · intro v H' hv
    obtain ⟨Hd, a1, a2, a3, a4, a5⟩ := hv
    exact q v H' Hd a1 a2 a3 a4 a5
where
  pw_all {l : List Slot} (h : ∀ p ∈ l, ∀ q, apart p q) : l.Pairwise apart := by
    induction l with
    | nil => exact .nil
    | cons p l ih => exact List.pairwise_cons.mpr ⟨fun q _ => h p List.mem_cons_self q, ih fun r hr => h r (List.mem_cons_of_mem _ hr)⟩
  r0 {X : Cx} {b : List Stmt} {D : Ends} {σ : L2.St} {H : Hp} (h : wC X [b] D σ H) : wS X b D σ H := h
theorem defOk {P : Program} {w : World} {K : PySem.W.Frag} {mg : Str → Option Value} {base : Heap} {ι R : Type} {x fnm qual : Str} {st : Stmt} {f : Addr} {fd : FuncData} {N ps : List Str} {kk : Nat} (F : Fun K fnm qual st f fd) (hm : mg x = some (.ref f)) (S : FnScope N ps (defScope st)) (bd : Binds K fd ps [])
    (pre : ι → Prop) (args : ι → List Sl) (res : R → Sl) (mi : ι → R) (hn : ∀ i, (args i).length = ps.length)
    (body : ∀ (i : ι), pre i → ∀ (cdv : Value) (A : Around) (outer : List Env) (s : Shared) (H : Hp) (E : XK), Room kk (A.deeper (envOfC qual (defScope st) s.heap.objs.size f cdv)) →
      SX (cxOf CX0 P w K mg base N qual (defScope st) f cdv A outer s H E).nox (LRet K res) (args i ++ List.replicate (N.length - ps.length) .no) [defBody st] (mi i)) :
    DefOk P w K mg base (kk + 1) x ps.length (spD K pre args fun i => res (mi i)) :=
  ⟨f, fd, ps, defFn F S pre args res mi hn body, hm, F.kp, bd, rfl⟩
end
end DX
namespace DX
open PySem PySem.Spec PyProof.Rows L2
/-- the law's own argument -/
structure Scr where
  l : List Int
instance encScr : Enc Scr where
  rep := fun K H v x => ∃ a, v = .ref a ∧ SqL K H a (x.l.map V.int)
  mono := fun e ⟨a, h1, h2⟩ => ⟨a, h1, exl e h2⟩
section
variable {X : Cx} {Γ : List Sl} {e a b c : Expr} {es : List Expr} {s : Sl} {pos p p1 p2 p3 : Pos}
theorem topScr {B : Hp × Hp} {H : Hp} {ρ : List Slot} {σ : L2.St} {x : Scr} {o : Option V} (h : HasE X.K B H ((o, .is x) :: ρ) σ Γ) : ∃ a, o = some (.ref a) ∧ SqL X.K H a (x.l.map V.int) := by
  obtain ⟨_, Hd, _, h2, _, _, h5, _⟩ := h
  obtain ⟨w, e1, a', e2, e3⟩ := h5 (o, .is x) List.mem_cons_self
  have e1 : o = some w := e1
  exact ⟨a', by rw [e1, e2], exl h2 e3⟩
theorem px_lenScr {x : Scr} (hm : X.mg "len" = none) (ha : PX X Γ a (.is x)) (hg : Gl X "len" := by rfl) (he : starEach [a] X.env = (false, eval a X.env) :: starEach [] X.env := by rfl) :
    PX X Γ (.Call (.Name "len" p) [a] [] pos) (.is (x.l.length : Int)) :=
  px_B _ call_len_seq hm PySem.boot_len (ax_cons ha ax_nil he) (fun B ρ σ H vs Q l h q => by
    obtain ⟨v, rfl⟩ := one_of l
    obtain ⟨a', e1, e2⟩ := topScr h
    injection e1 with e1
    subst e1
    exact ⟨a', _, rfl, .inl e2, by rw [List.length_map]; exact q⟩) hg (by decide) (by decide) he rfl
theorem px_ixScr {x : Scr} {i : Int} (ha : PX X Γ a (.is x)) (hb : PX X Γ b (.is i)) (hi : -(x.l.length : Int) ≤ i ∧ i < x.l.length) (hs : PlainIx b := by exact fun _ _ => rfl) : PX X Γ (.Subscript a b pos) (.is (ix x.l i)) :=
  ⟨fun B ρ σ H h Q q => goE (pe_ix ix_list peW peW hs) (ha.run B ρ σ H h _ fun v H1 e1 h1 => hb.run B _ σ H1 h1 _ fun w H2 e2 h2 => by
    have ew := h2.topSc
    injection ew with ew
    subst ew
    obtain ⟨a', g1, g2⟩ := topScr h2.pop
    injection g1 with g1
    subst g1
    have k1 : atI (x.l.map V.int) i = some (.int (ix x.l i)) := by
      have k := ix_ok hi
      unfold atI at k ⊢
      rw [List.length_map]
      cases q : ixN x.l.length i with
      | none => rw [q] at k; cases k
      | some j =>
        rw [q] at k
        have k : x.l[j]? = some (ix x.l i) := k
        show (x.l.map V.int)[j]? = _
        rw [List.getElem?_map, k]
        rfl
    exact ⟨a', _, i, _, rfl, rfl, g2, k1, q _ H2 (e1.trans e2) (h2.pop.pop.pushSc (ix x.l i))⟩)⟩
def repL {α : Type} (xs : List α) (k : Int) : List α := (List.replicate k.toNat xs).flatten
def repT (x : List Nat) (k : Int) : List Nat := (List.replicate k.toNat x).flatten
theorem paired_rep {α β : Type} {F : α → β → Prop} {l : List α} {m : List β} (h : Paired F l m) : ∀ k : Nat, Paired F (List.replicate k l).flatten (List.replicate k m).flatten
  | 0 => .nil
  | k + 1 => by
    rw [List.replicate_succ, List.replicate_succ, List.flatten_cons, List.flatten_cons]
    exact paired_append h (paired_rep h k)
theorem px_rep {α : Type} [Enc α] {xs : List α} {k : Int} {s : Sl} (lk : Lk s xs) (ha : PX X Γ a s) (hb : PX X Γ b (.is k)) (hk : -(2 ^ 63) ≤ k ∧ k < 2 ^ 63 ∧ xs.length * k.toNat ≤ sizeLine) : PX X Γ (.BinOp a .Mult b pos) (.own (repL xs k)) :=
  ⟨fun B ρ σ H h Q q => goE (pe_op op_rep peW peW) (ha.run B ρ σ H h _ fun v H1 e1 h1 => hb.run B _ σ H1 h1 _ fun w H2 e2 h2 => by
    have ew := h2.topSc
    injection ew with ew
    subst ew
    have h3 := h2.pop
    obtain ⟨l, Hd, z1, z2, z3, z4, z5, z6⟩ := id h3
    obtain ⟨a', vs, g1, g2, g3⟩ := lk.ok z2 (z5 (some v, s) List.mem_cons_self)
    injection g1 with g1
    subst g1
    refine ⟨a', k, vs, rfl, rfl, g2, hk.1, hk.2.1, by rw [paired_len g3]; exact hk.2.2, fun p hp => q _ _ ((e1.trans e2).trans (Ex.new hp)) ?_⟩
    refine (HasE.newOwn (xs := repL xs k) h3 hp fun Hd' ed ok => ?_).pop2
    obtain ⟨a2, vs2, n1, n2, n3⟩ := lk.ok ed (ok (some (V.ref a'), s) List.mem_cons_self)
    injection n1 with n1
    injection n1 with n1
    subst n1
    rw [g2] at n2
    injection n2 with n2
    injection n2 with n2
    subst n2
    exact paired_rep n3 k.toNat)⟩
theorem ixN_nn {n : Nat} {i : Int} (h0 : 0 ≤ i) (h1 : i < n) : ixN n i = some i.toNat := by
  unfold ixN
  rw [if_pos h0, if_pos h1]
theorem ix_nn {α : Type} [Inhabited α] {xs : List α} {i : Int} (h0 : 0 ≤ i) (h1 : i < xs.length) : xs[i.toNat]? = some (ix xs i) := by
  have h := ix_ok (xs := xs) (i := i) ⟨by omega, h1⟩
  unfold atI at h
  rw [ixN_nn h0 h1] at h
  exact h
end
end DX
namespace DX
open PySem PySem.Spec PyProof.Rows L2
def IsV {α : Type} [Enc α] (x : α) (v : V) : Prop := ∀ (K : PySem.W.Frag) (Hd : Hp) (w : V), Enc.rep K Hd w x → w = v
theorem isV_sc {α : Type} [Sc α] (x : α) : IsV x (Sc.val x) := fun _ _ _ h => h
theorem isV_tx (x : List Nat) : IsV x (V.str (mkS x)) := fun _ _ _ h => h
section
variable {X : Cx} {M : Type} {L : Leaf M} {Γ Γ' : List Sl} {k : List (List Stmt)} {m : M} {sts : List Stmt} {e a b c tg iter : Expr} {es : List Expr} {s : Sl} {pos p p1 p2 p3 : Pos}
theorem topV {α : Type} [Enc α] {x : α} {v : V} {B : Hp × Hp} {H : Hp} {ρ : List Slot} {σ : L2.St} {o : Option V} (hx : IsV x v) (h : HasE X.K B H ((o, .is x) :: ρ) σ Γ) : o = some v := by
  obtain ⟨l, Hd, h1, h2, h3, h4, h5, h6⟩ := h
  obtain ⟨w, e1, e2⟩ := h5 (o, .is x) List.mem_cons_self
  have e1 : o = some w := e1
  rw [e1, hx _ _ _ e2]
theorem tx_chain {α β γ : Type} [Enc α] [Enc β] [Enc γ] {op op' : CmpOp} {r r' : R2} {x : α} {y : β} {z : γ} {vx vy vz : V} (z1 z2 : Bool) (ho : OpR X (compareOp op) r) (ho' : OpR X (compareOp op') r') (hx : IsV x vx) (hy : IsV y vy) (hz : IsV z vz)
    (hr : ∀ H (Q : VK), Q (.bl z1) H → r vx vy H Q) (hr' : ∀ H (Q : VK), Q (.bl z2) H → r' vy vz H Q) (ha : PX X Γ a (.is x)) (hb : PX X Γ b (.is y)) (hc : PX X Γ c (.is z))
    (hm : lastMarks [op, op'] [b, c] = false := by with_unfolding_all rfl) : TX X Γ (.Compare a [op, op'] [b, c] pos) (z1 && z2) :=
  ⟨fun B ρ σ H h Q q => goT (pt_chain ho ho' peW peW peW hm) (ha.run B ρ σ H h _ fun v H1 e1 h1 => hb.run B _ σ H1 h1 _ fun w H2 e2 h2 => by
    have ew := topV hy h2
    have ev := topV hx h2.swap
    injection ew with ew
    injection ev with ev
    subst ew ev
    refine hr _ _ ⟨z1, rfl, ?_⟩
    cases z1 with
    | true =>
      rw [if_pos rfl]
      refine hc.run B _ σ H2 h2 _ fun u H3 e3 h3 => ?_
      have eu := topV hz h3
      injection eu with eu
      subst eu
      exact hr' _ _ ⟨z2, rfl, q H3 ((e1.trans e2).trans e3) h3.pop.pop.pop⟩
    | false =>
      rw [if_neg Bool.false_ne_true]
      exact ⟨false, rfl, q H2 (e1.trans e2) h2.pop.pop⟩)⟩
theorem px_chain {α β γ : Type} [Enc α] [Enc β] [Enc γ] {op op' : CmpOp} {r r' : R2} {x : α} {y : β} {z : γ} {vx vy vz : V} (z1 z2 : Bool) (ho : OpR X (compareOp op) r) (ho' : OpR X (compareOp op') r') (hx : IsV x vx) (hy : IsV y vy) (hz : IsV z vz)
    (hr : ∀ H (Q : VK), Q (.bl z1) H → r vx vy H Q) (hr' : ∀ H (Q : VK), Q (.bl z2) H → r' vy vz H Q) (ha : PX X Γ a (.is x)) (hb : PX X Γ b (.is y)) (hc : PX X Γ c (.is z))
    (hm : lastMarks [op, op'] [b, c] = false := by with_unfolding_all rfl) : PX X Γ (.Compare a [op, op'] [b, c] pos) (.is (z1 && z2)) :=
  ⟨fun B ρ σ H h Q q => goE (pe_chain ho ho' peW peW peW hm) (ha.run B ρ σ H h _ fun v H1 e1 h1 => hb.run B _ σ H1 h1 _ fun w H2 e2 h2 => by
    have ew := topV hy h2
    have ev := topV hx h2.swap
    injection ew with ew
    injection ev with ev
    subst ew ev
    refine hr _ _ ⟨z1, rfl, ?_⟩
    cases z1 with
    | true =>
      rw [if_pos rfl]
      refine hc.run B _ σ H2 h2 _ fun u H3 e3 h3 => ?_
      have eu := topV hz h3
      injection eu with eu
      subst eu
      exact hr' _ _ (q _ H3 ((e1.trans e2).trans e3) (h3.pop.pop.pop.pushSc z2))
    | false =>
      rw [if_neg Bool.false_ne_true]
      exact q _ H2 (e1.trans e2) (h2.pop.pop.pushSc false))⟩
/-- x <= y of texts -/
def leT (x y : List Nat) : Bool := !decide (y < x)
theorem rs_le {x y : List Nat} : ∀ H (Q : VK), Q (.bl (leT x y)) H → (fun x y H Q => ∃ i j, x = V.str i ∧ y = V.str j ∧ Q (.bl (!decide (j.cps.toList < i.cps.toList))) H) (V.str (mkS x)) (V.str (mkS y)) H Q := fun _ _ q => ⟨_, _, rfl, rfl, q⟩
theorem px_niT {x : Nat} {y : List Nat} (ha : PX X Γ a (.is [x])) (hb : PX X Γ b (.is y)) (hm : behindInMarks .NotIn b = false := by rfl) : PX X Γ (.Compare a [.NotIn] [b] pos) (.is (!decide (x ∈ y))) := px_cmpS _ op_notIn_sign hm (fun _ _ q => ⟨x, mkS y, rfl, rfl, q⟩) ha hb
theorem sx_ifT {x : Bool} {A B' : List Stmt} (hc : TX X Γ c x) (h1 : SX X L Γ (A :: sts :: k) m) (hx : x = true := by rfl) : SX X L Γ ((.If c A B' pos :: sts) :: k) m :=
  ⟨fun B ρ σ H D hb h l => wC_cons (go1 (ps_if ptW pssW pssW) (hc.run B ρ σ H h _ fun H1 e1 h' => by
    rw [if_pos hx]
    exact h1.run B ρ σ H1 D hb h' l))⟩
theorem sx_ifF {x : Bool} {A B' : List Stmt} (hc : TX X Γ c x) (h1 : SX X L Γ (B' :: sts :: k) m) (hx : x = false := by rfl) : SX X L Γ ((.If c A B' pos :: sts) :: k) m :=
  ⟨fun B ρ σ H D hb h l => wC_cons (go1 (ps_if ptW pssW pssW) (hc.run B ρ σ H h _ fun H1 e1 h' => by
    rw [if_neg (by rw [hx]; exact Bool.false_ne_true)]
    exact h1.run B ρ σ H1 D hb h' l))⟩
class DEnc (α : Type) [Enc α] where
  encD : α → PyData
  toDp : ∀ {K : PySem.W.Frag} {H : Hp} {v : V} {x : α}, Enc.rep K H v x → Dp K H v (encD x)
open DEnc (encD)
instance : DEnc Int := ⟨PyData.int, fun {K H v x} h => by
  have h : v = V.int x := h
  subst h; exact .int x⟩
instance : DEnc Bool := ⟨PyData.bool, fun {K H v x} h => by
  have h : v = V.bl x := h
  subst h; exact .bl x⟩
instance : DEnc Unit := ⟨fun _ => PyData.none, fun {K H v x} h => by
  have h : v = V.non := h
  subst h; exact .non⟩
instance : DEnc (List Nat) := ⟨fun x => PyData.str (mkS x), fun {K H v x} h => by
  have h : v = V.str (mkS x) := h
  subst h; exact .str _⟩
theorem dpAll_of {α : Type} [Enc α] [DEnc α] {K : PySem.W.Frag} {H : Hp} : ∀ {vs : List V} {xs : List α}, Paired (Enc.rep K H) vs xs → DpAll K H vs (xs.map encD)
  | _, _, .nil => .nil
  | _, _, .cons r t => .cons (DEnc.toDp r) (dpAll_of t)
instance dencList {α : Type} [Enc α] [DEnc α] : @DEnc (List α) encList := @DEnc.mk (List α) encList (fun xs => PyData.list (xs.map encD)) (fun {K H v x} ⟨a, vs, h1, h2, h3⟩ => by
  subst h1
  exact .lst (SqL.of h2) (dpAll_of h3))
instance {α β : Type} [Enc α] [DEnc α] [Enc β] [DEnc β] : DEnc (α × β) := ⟨fun x => PyData.tuple [encD x.1, encD x.2], fun {K H v x} ⟨a, v1, v2, h1, h2, h3, h4⟩ => by
  subst h1
  exact .tup h2 (.cons (DEnc.toDp h3) (.cons (DEnc.toDp h4) .nil))⟩
instance {α β γ : Type} [Enc α] [DEnc α] [Enc β] [DEnc β] [Enc γ] [DEnc γ] : DEnc (T3 α β γ) := ⟨fun x => PyData.tuple [encD x.a, encD x.b, encD x.c], fun {K H v x} ⟨a, v1, v2, v3, h1, h2, h3, h4, h5⟩ => by
  subst h1
  exact .tup h2 (.cons (DEnc.toDp h3) (.cons (DEnc.toDp h4) (.cons (DEnc.toDp h5) .nil)))⟩
instance {α : Type} [Enc α] [DEnc α] : DEnc (Tup α) := ⟨fun x => PyData.tuple (x.l.map encD), fun {K H v x} ⟨a, vs, h1, h2, h3⟩ => by
  subst h1
  exact .tup h2 (dpAll_of h3)⟩
instance : DEnc PyData := ⟨id, fun h => h⟩
theorem px_toD {α : Type} [Enc α] [DEnc α] {x : α} (h : PX X Γ e (.is x)) : PX X Γ e (.is (encD x)) := ⟨fun B ρ σ H h' Q q => h.run B ρ σ H h' Q fun v H1 e1 h1 => q v H1 e1 (by
  obtain ⟨l, Hd, z1, z2, z3, z4, z5, z6⟩ := h1
  have z7 := List.pairwise_cons.mp z6
  refine ⟨l, Hd, z1, z2, z3, z4, fun p hp => ?_, List.pairwise_cons.mpr ⟨fun q _ => apart_is q, z7.2⟩⟩
  rcases List.mem_cons.mp hp with z | z
  · rw [z]
    obtain ⟨w, f1, f2⟩ := z5 _ List.mem_cons_self
    exact ⟨w, f1, DEnc.toDp f2⟩
  · exact z5 p (List.mem_cons_of_mem _ z))⟩
mutual
def same : PyData → PyData → Bool
  | .none, .none => true
  | .bool a, .bool b => a == b
  | .int a, .int b => a == b
  | .str a, .str b => a == b
  | .list a, .list b => sameAll a b
  | .tuple a, .tuple b => sameAll a b
  | _, _ => false
def sameAll : List PyData → List PyData → Bool
  | [], [] => true
  | x :: xs, y :: ys => same x y && sameAll xs ys
  | _, _ => false
end
mutual
/-- no dict in it, so deep at most -/
def flatD : Nat → PyData → Bool
  | n + 1, .list a => decide (a.length ≤ 1000000) && flatAll n a
  | n + 1, .tuple a => decide (a.length ≤ 1000000) && flatAll n a
  | _ + 1, .dict _ => false
  | _ + 1, _ => true
  | 0, _ => false
def flatAll : Nat → List PyData → Bool
  | _, [] => true
  | n, x :: xs => flatD n x && flatAll n xs
end
theorem flatAll_mem : ∀ {n : Nat} {ds : List PyData} {d : PyData}, flatAll n ds = true → d ∈ ds → flatD n d = true
  | n, x :: xs, d, h, hm => by
    unfold flatAll at h
    have h' := Bool.and_eq_true_iff.mp h
    rcases List.mem_cons.mp hm with z | z
    · rw [z]; exact h'.1
    · exact flatAll_mem h'.2 z
def tyName : PyData → String
  | .none => "NoneType"
  | .bool _ => "bool"
  | .int _ => "int"
  | .str _ => "str"
  | .list _ => "list"
  | .tuple _ => "tuple"
  | .dict _ => "dict"
theorem dp_ty {K : PySem.W.Frag} {H : Hp} {v : V} {d : PyData} (h : Dp K H v d) : TyX K H v (.type (tyName d)) := by
  cases h with
  | non => exact .base .non
  | bl b => exact .base (.bl b)
  | int i => exact .base (.int i)
  | str x => exact .base (.str x)
  | lst hs _ =>
    rcases hs with (h | ⟨o, h⟩) | ⟨o, its, n, hk, hc, _⟩
    · exact .base (.lst h)
    · exact .base (.frz h)
    · exact .kList hk hc
  | tup hs _ =>
    rcases hs with (h | ⟨o, h⟩) | ⟨o, its, n, hk, hc, _⟩
    · exact .base (.tup h)
    · exact .fTuple h
    · exact .kTuple hk hc
theorem topD {B : Hp × Hp} {H : Hp} {ρ : List Slot} {σ : L2.St} {d : PyData} {o : Option V} (h : HasE X.K B H ((o, .is d) :: ρ) σ Γ) : ∃ v, o = some v ∧ Dp X.K H v d := by
  obtain ⟨l, Hd, h1, h2, h3, h4, h5, h6⟩ := h
  obtain ⟨w, e1, e2⟩ := h5 (o, .is d) List.mem_cons_self
  exact ⟨w, e1, dp_mono h2 e2⟩
theorem px_isD {d : PyData} {x : Str} (ty T : String) (z : Bool) (ha : PX X Γ a (.is d)) (hm : X.mg "isinstance" = none) (hm2 : X.mg x = none) (ht : tyName d = ty := by rfl) (hk : kitB ty T = some z := by first | decide +kernel | (simp only [tyName]; decide +kernel)) (hv : bootBuiltins x = some (.type T) := by decide +kernel) (hg : Gl X "isinstance" := by rfl) (hg2 : Gl X x := by rfl)
    (he : starEach [a, .Name x p2] X.env = (false, eval a X.env) :: starEach [.Name x p2] X.env := by rfl) (he2 : starEach [.Name x p2] X.env = (false, eval (.Name x p2) X.env) :: starEach [] X.env := by rfl)
    (hpl : (backTo pos (starEach [.Name x p2] X.env)).any (·.1) = false := by rfl) (hn : x ≠ "__name__" := by decide) (hd : (x == ("__debug__" : Str)) = false := by decide) : PX X Γ (.Call (.Name "isinstance" p) [a, .Name x p2] [] pos) (.is z) :=
  ⟨fun B ρ σ H h Q q => goE (pe_callB call_isi hg hm PyProof.Rows.boot_isinstance (pa_cons peW (pa_cons (pe_bltn (v := .ty T) hg2 hm2 hv rfl hn hd) pa_nil he2) he) (by decide) (by decide) he hpl) (ha.run B ρ σ H h _ fun v H1 e1 h1 => by
    obtain ⟨w, f1, f2⟩ := topD h1
    injection f1 with f1
    subst f1
    exact ⟨v, .ty T, .type (tyName d), .type T, z, rfl, .ty T, dp_ty f2, kit_ty (by rw [ht]; exact hk), q _ H1 e1 (h1.pop.pushSc z)⟩)⟩
/-- is None, of data -/
def isNoneD : PyData → Bool
  | .none => true
  | _ => false
theorem dp_none {K : PySem.W.Frag} {H : Hp} {v : V} {d : PyData} (h : Dp K H v d) : decide (v = V.non) = isNoneD d := by
  cases h <;> simp [isNoneD]
theorem px_isND {d : PyData} {j : Nat} (ha : PX X Γ a (.is d)) : PX X Γ (.Compare a [.Is] [.Constant .none j p2] pos) (.is (isNoneD d)) :=
  ⟨fun B ρ σ H h Q q => goE (pe_cmp (pc_isN peW)) (ha.run B ρ σ H h _ fun v H1 e1 h1 => by
    obtain ⟨w, f1, f2⟩ := topD h1
    injection f1 with f1
    subst f1
    show Q (.bl (decide (v = .non))) H1
    rw [dp_none f2]
    exact q _ H1 e1 (h1.pop.pushSc (isNoneD d)))⟩
theorem tx_isND {d : PyData} {j : Nat} (ha : PX X Γ a (.is d)) : TX X Γ (.Compare a [.Is] [.Constant .none j p2] pos) (isNoneD d) :=
  ⟨fun B ρ σ H h Q q => goT (pt_cmp (pc_isN peW)) (ha.run B ρ σ H h _ fun v H1 e1 h1 => by
    obtain ⟨w, f1, f2⟩ := topD h1
    injection f1 with f1
    subst f1
    refine ⟨_, rfl, ?_⟩
    rw [dp_none f2]
    exact q H1 e1 h1.pop)⟩
/-- two plain things of one kind compared -/
theorem px_eqD0 {d e' : PyData} {vd ve : V} (z : Bool) (hd : ∀ K H v, Dp K H v d → v = vd) (he : ∀ K H v, Dp K H v e' → v = ve) (hs : scal vd ve = true) (hz : decide (vd = ve) = z) (ha : PX X Γ a (.is d)) (hb : PX X Γ b (.is e')) : PX X Γ (.Compare a [.Eq] [b] pos) (.is z) :=
  ⟨fun B ρ σ H h Q q => goE (pe_cmpR op_eq peW peW (nomark _)) (ha.run B ρ σ H h _ fun v H1 e1 h1 => hb.run B _ σ H1 h1 _ fun w H2 e2 h2 => by
    obtain ⟨w', f1, f2⟩ := topD h2
    obtain ⟨v', g1, g2⟩ := topD h2.swap
    injection f1 with f1
    injection g1 with g1
    subst f1 g1
    have := hd _ _ _ g2
    have := he _ _ _ f2
    subst v w
    exact ⟨hs, by rw [hz]; exact q _ H2 (e1.trans e2) (h2.pop.pop.pushSc z)⟩)⟩
theorem px_lenD {d : PyData} {ds : List PyData} (hd : d = .list ds ∨ d = .tuple ds) (hm : X.mg "len" = none) (ha : PX X Γ a (.is d)) (hg : Gl X "len" := by rfl) (he : starEach [a] X.env = (false, eval a X.env) :: starEach [] X.env := by rfl) :
    PX X Γ (.Call (.Name "len" p) [a] [] pos) (.is (ds.length : Int)) :=
  px_B _ call_len_seq hm PySem.boot_len (ax_cons ha ax_nil he) (fun B ρ σ H vs Q l h q => by
    obtain ⟨v, rfl⟩ := one_of l
    obtain ⟨w, f1, f2⟩ := topD h
    injection f1 with f1
    subst f1
    rcases hd with rfl | rfl
    · cases f2 with
      | lst hs hd => exact ⟨_, _, rfl, .inl hs, by rw [dpAll_len hd]; exact q⟩
    · cases f2 with
      | tup hs hd => exact ⟨_, _, rfl, .inr hs, by rw [dpAll_len hd]; exact q⟩) hg (by decide) (by decide) he rfl
where dpAll_len {K : PySem.W.Frag} {H : Hp} : ∀ {vs : List V} {ds : List PyData}, DpAll K H vs ds → vs.length = ds.length
  | _, _, .nil => rfl
  | _, _, .cons _ t => by simp [dpAll_len t]
theorem dpAll_get {K : PySem.W.Frag} {H : Hp} : ∀ {vs : List V} {ds : List PyData} {i : Nat} {d : PyData}, DpAll K H vs ds → ds[i]? = some d → ∃ v, vs[i]? = some v ∧ Dp K H v d
  | _, _, _, _, .nil, h => by simp at h
  | _, _, 0, d, .cons r _, h => by
    simp at h
    subst h
    exact ⟨_, rfl, r⟩
  | _, _, i + 1, d, .cons _ t, h => by
    obtain ⟨v, h1, h2⟩ := dpAll_get (i := i) (d := d) t (by simpa using h)
    exact ⟨v, by simpa using h1, h2⟩
theorem px_ixD {d x : PyData} {ds : List PyData} {i : Int} {n : Nat} (hd : d = .list ds ∨ d = .tuple ds) (hn : ds[n]? = some x) (hi : i = (n : Int)) (ha : PX X Γ a (.is d)) (hb : PX X Γ b (.is i)) (hs : PlainIx b := by exact fun _ _ => rfl) : PX X Γ (.Subscript a b pos) (.is x) :=
  ⟨fun B ρ σ H h Q q => goE (pe_ix ix_seq peW peW hs) (ha.run B ρ σ H h _ fun v H1 e1 h1 => hb.run B _ σ H1 h1 _ fun w H2 e2 h2 => by
    have ew := h2.topSc
    injection ew with ew
    subst ew hi
    have h3 := h2.pop
    obtain ⟨l, Hd, z1, z2, z3, z4, z5, z6⟩ := id h3
    obtain ⟨v', g1, g2⟩ := z5 _ List.mem_cons_self
    have g1 : some v = some v' := g1
    injection g1 with g1
    subst g1
    have g2 : Dp X.K Hd v d := g2
    have key : ∀ u, Dp X.K Hd u x → HasE X.K B H2 ((some u, .is x) :: ρ) σ Γ := fun u hu => HasE.pop2 (q := (some v, .is d)) ⟨l, Hd, z1, z2, z3, z4, fun r hr => (List.mem_cons.mp hr).elim (fun c => by rw [c]; exact ⟨u, rfl, hu⟩) (z5 r), List.pairwise_cons.mpr ⟨fun r _ => apart_is r, z6⟩⟩
    rcases hd with rfl | rfl
    · cases g2 with
      | lst hs hd =>
        obtain ⟨u, k1, k2⟩ := dpAll_get hd hn
        exact .inl ⟨_, _, n, u, rfl, rfl, exl z2 hs, atI_nat k1, q u H2 (e1.trans e2) (key u k2)⟩
    · cases g2 with
      | tup hs hd =>
        obtain ⟨u, k1, k2⟩ := dpAll_get hd hn
        exact .inr (.inl ⟨_, _, n, u, rfl, rfl, ext z2 hs, atI_nat k1, q u H2 (e1.trans e2) (key u k2)⟩))⟩
theorem forO_cons {S R α : Type} {step : S → α → Out S R} {s : S} {x : α} {xs : List α} : forO step s (x :: xs) = match step s x with
    | .go s' => forO step s' xs
    | .brk s' => .brk s'
    | .ret r => .ret r := by
  rw [forO]
  all_goals (cases step s x <;> rfl)
/-- the loop over the items of two data -/
def sameStep (gs ds : List PyData) (_ : Unit) (k : Int) : Out Unit Bool := if (!same ((gs[k.toNat]?).getD .none) ((ds[k.toNat]?).getD .none)) = true then .ret false else .go ()
theorem same_loop (G D : List PyData) : ∀ (gs ds : List PyData) (k : Nat), gs.length = ds.length → G.drop k = gs → D.drop k = ds → forO (sameStep G D) () (rangeI (k : Int) ds.length) = if sameAll gs ds = true then .go () else .ret false
  | [], [], k, _, _, _ => by
    show _ = if true = true then _ else _
    rw [if_pos rfl]
    rfl
  | [], _ :: _, _, h, _, _ => by simp at h
  | _ :: _, [], _, h, _, _ => by simp at h
  | x :: gs, y :: ds, k, h, hg, hd => by
    have e1 : G[k]? = some x := by
      have : (G.drop k)[0]? = some x := by rw [hg]; rfl
      simpa using this
    have e2 : D[k]? = some y := by
      have : (D.drop k)[0]? = some y := by rw [hd]; rfl
      simpa using this
    have g2 : G.drop (k + 1) = gs := by
      rw [← List.tail_drop, hg]
      rfl
    have d2 : D.drop (k + 1) = ds := by
      rw [← List.tail_drop, hd]
      rfl
    have er : rangeI (k : Int) (y :: ds).length = (k : Int) :: rangeI ((k + 1 : Nat) : Int) ds.length := by
      unfold rangeI
      rw [List.length_cons, List.range_succ_eq_map, List.map_cons, List.map_map]
      congr 1
      · simp
        intro a _
        omega
    rw [er]
    rw [forO_cons]
    have es : sameStep G D () (k : Int) = if (!same x y) = true then .ret false else .go () := by
      unfold sameStep
      rw [show ((k : Int)).toNat = k from rfl, e1, e2]
      rfl
    rw [es]
    have ih := same_loop G D gs ds (k + 1) (by simpa using h) g2 d2
    have eq : sameAll (x :: gs) (y :: ds) = (same x y && sameAll gs ds) := by rw [sameAll]
    rw [eq]
    cases hxy : same x y with
    | true =>
      rw [if_neg (by simp)]
      show forO (sameStep G D) () _ = _
      rw [ih, Bool.true_and]
    | false =>
      rw [if_pos (by simp), Bool.false_and, if_neg (by simp)]
theorem sameAll_len : ∀ {gs ds : List PyData}, sameAll gs ds = true → gs.length = ds.length
  | [], [], _ => rfl
  | [], _ :: _, h => by unfold sameAll at h; cases h
  | _ :: _, [], h => by unfold sameAll at h; cases h
  | x :: gs, y :: ds, h => by
    unfold sameAll at h
    have h' := Bool.and_eq_true_iff.mp h
    simp [sameAll_len h'.2]
theorem same_fin (gs ds : List PyData) : (if (!decide ((gs.length : Int) = (ds.length : Int))) = true then false else forK (sameStep gs ds) () (rangeI 0 ((ds.length : Int)).toNat) (fun _ => true) (fun r => r)) = sameAll gs ds := by
  by_cases h : gs.length = ds.length
  · have h1 : (gs.length : Int) = (ds.length : Int) := by omega
    rw [if_neg (by simp [h1])]
    have e := same_loop gs ds gs ds 0 h rfl rfl
    unfold forK
    have e' : forO (sameStep gs ds) () (rangeI 0 ((ds.length : Int)).toNat) = if sameAll gs ds = true then .go () else .ret false := e
    rw [e']
    cases sameAll gs ds <;> rfl
  · have h1 : ¬ (gs.length : Int) = (ds.length : Int) := by omega
    rw [if_pos (by simp [h1])]
    cases e : sameAll gs ds with
    | false => rfl
    | true => exact absurd (sameAll_len e) h
/-- on data that know themselves it is equality -/
class DInj (α : Type) [Enc α] [DEnc α] where
  inj : ∀ (x y : α), same (encD x) (encD y) = true ↔ x = y
instance : DInj Int := ⟨fun x y => by
  show same (.int x) (.int y) = true ↔ _
  unfold same
  simp⟩
instance : DInj Bool := ⟨fun x y => by
  show same (.bool x) (.bool y) = true ↔ _
  unfold same
  simp⟩
instance : DInj Unit := ⟨fun x y => by
  show same .none .none = true ↔ _
  unfold same
  simp⟩
instance : DInj (List Nat) := ⟨fun x y => by
  show same (.str (mkS x)) (.str (mkS y)) = true ↔ _
  unfold same
  constructor
  · intro h
    exact mkS_inj (by simpa using h)
  · intro h
    subst h
    simp⟩
theorem sameAll_inj {α : Type} [Enc α] [DEnc α] [DInj α] : ∀ (xs ys : List α), sameAll (xs.map encD) (ys.map encD) = true ↔ xs = ys
  | [], [] => by simp [sameAll]
  | [], _ :: _ => by simp [sameAll]
  | _ :: _, [] => by simp [sameAll]
  | x :: xs, y :: ys => by
    rw [List.map_cons, List.map_cons]
    unfold sameAll
    rw [Bool.and_eq_true_iff, DInj.inj x y, sameAll_inj xs ys]
    simp
instance dinjList {α : Type} [Enc α] [DEnc α] [DInj α] : @DInj (List α) encList dencList := @DInj.mk (List α) encList dencList fun xs ys => by
  show same (.list (xs.map encD)) (.list (ys.map encD)) = true ↔ _
  unfold same
  exact sameAll_inj xs ys
instance {α : Type} [Enc α] [DEnc α] [DInj α] : DInj (Tup α) := ⟨fun xs ys => by
  show same (.tuple (xs.l.map encD)) (.tuple (ys.l.map encD)) = true ↔ _
  unfold same
  rw [sameAll_inj xs.l ys.l]
  cases xs; cases ys
  simp⟩
instance {α β : Type} [Enc α] [DEnc α] [DInj α] [Enc β] [DEnc β] [DInj β] : DInj (α × β) := ⟨fun x y => by
  show same (.tuple [encD x.1, encD x.2]) (.tuple [encD y.1, encD y.2]) = true ↔ _
  unfold same
  simp only [sameAll, Bool.and_true, Bool.and_eq_true_iff, DInj.inj]
  cases x; cases y
  simp⟩
instance {α β γ : Type} [Enc α] [DEnc α] [DInj α] [Enc β] [DEnc β] [DInj β] [Enc γ] [DEnc γ] [DInj γ] : DInj (T3 α β γ) := ⟨fun x y => by
  show same (.tuple [encD x.a, encD x.b, encD x.c]) (.tuple [encD y.a, encD y.b, encD y.c]) = true ↔ _
  unfold same
  simp only [sameAll, Bool.and_true, Bool.and_eq_true_iff, DInj.inj]
  cases x; cases y
  simp⟩
theorem same_refl {α : Type} [Enc α] [DEnc α] [DInj α] (x : α) : same (encD x) (encD x) = true := (DInj.inj x x).mpr rfl
end
end DX
namespace DX
open PySem PySem.Spec PyProof.Rows L2
open DEnc (encD)
inductive FitsS : List Sl → List Sl → Prop
  | nil : FitsS [] []
  | is {α : Type} [Enc α] {x : α} {l m : List Sl} : FitsS l m → FitsS (.is x :: l) (.is x :: m)
  | lk {α : Type} [Enc α] {s : Sl} {x : List α} {l m : List Sl} (lk : Lk s x) : FitsS l m → FitsS (s :: l) (@Sl.is (List α) encList x :: m)
  | lkD {α : Type} [Enc α] [DEnc α] {s : Sl} {x : List α} {l m : List Sl} (lk : Lk s x) : FitsS l m → FitsS (s :: l) (.is (@encD (List α) encList dencList x) :: m)
  | arg {α : Type} [Enc α] {s : Sl} {x : List α} {l m : List Sl} (lk : Lk s x) : FitsS l m → FitsS (s :: l) (.arg x :: m)
theorem FitsS.len {l m : List Sl} (h : FitsS l m) : l.length = m.length := by
  induction h with
  | nil => rfl
  | is _ ih => simp [ih]
  | lk _ _ ih => simp [ih]
  | lkD _ _ ih => simp [ih]
  | arg _ _ ih => simp [ih]
theorem FitsS.ok {K : PySem.W.Frag} {B1 Hd H : Hp} (ed : Ex Hd H) {l m : List Sl} (h : FitsS l m) : ∀ {vs : List V}, (∀ p ∈ (vs.map some).zip l, SlotOk K B1 Hd H p.1 p.2) → ∀ p ∈ (vs.map some).zip m, SlotOk K H H H p.1 p.2 ∧ ∀ q, apart p q := by
  induction h with
  | nil => intro vs f p hp; simp at hp
  | is _ ih =>
    intro vs f p hp
    cases vs with
    | nil => simp at hp
    | cons v vs =>
      rcases List.mem_cons.mp hp with z | z
      · rw [z]
        obtain ⟨w, g1, g2⟩ := f _ List.mem_cons_self
        exact ⟨⟨w, g1, Enc.mono ed g2⟩, fun q => apart_is q⟩
      · exact ih (fun q hq => f q (List.mem_cons_of_mem _ hq)) p z
  | lk lk _ ih =>
    intro vs f p hp
    cases vs with
    | nil => simp at hp
    | cons v vs =>
      rcases List.mem_cons.mp hp with z | z
      · rw [z]
        obtain ⟨a, ws, g1, g2, g3⟩ := lk.ok ed (f _ List.mem_cons_self)
        exact ⟨⟨.ref a, g1, a, ws, rfl, g2, PairedMono ed g3⟩, fun q => apart_is q⟩
      · exact ih (fun q hq => f q (List.mem_cons_of_mem _ hq)) p z
  | lkD lk _ ih =>
    intro vs f p hp
    cases vs with
    | nil => simp at hp
    | cons v vs =>
      rcases List.mem_cons.mp hp with z | z
      · rw [z]
        obtain ⟨a, ws, g1, g2, g3⟩ := lk.ok ed (f _ List.mem_cons_self)
        exact ⟨⟨.ref a, g1, Dp.lst (SqL.of g2) (dpAll_of (PairedMono ed g3))⟩, fun q => apart_is q⟩
      · exact ih (fun q hq => f q (List.mem_cons_of_mem _ hq)) p z
  | arg lk _ ih =>
    intro vs f p hp
    cases vs with
    | nil => simp at hp
    | cons v vs =>
      rcases List.mem_cons.mp hp with z | z
      · rw [z]
        obtain ⟨a, ws, g1, g2, g3⟩ := lk.ok ed (f _ List.mem_cons_self)
        exact ⟨⟨a, ws, g1, fun z => (by rw [g2] at z; cases z), g2, PairedMono ed g3⟩, fun q => apart_arg q⟩
      · exact ih (fun q hq => f q (List.mem_cons_of_mem _ hq)) p z
section
variable {X : Cx} {M : Type} {L : Leaf M} {Γ Γ' : List Sl} {k : List (List Stmt)} {m : M} {sts : List Stmt} {e a b c tg iter : Expr} {es : List Expr} {s : Sl} {ss : List Sl} {pos p p1 p2 p3 : Pos}
theorem callV {ι : Type} {k : Nat} {x : Str} {n : Nat} {pre : ι → Prop} {args : ι → List Sl} {res : ι → Sl} (F : DefOk X.prog X.w X.K X.mg X.base k x n (spD X.K pre args res)) (i : ι) (hp : pre i) (hr : Room k X.A)
    (ha : AX X Γ (e :: es) ss) (fit : FitsS ss (args i)) {α : Type} [Enc α] {z : α} {vz : V} (hz : IsV z vz) (hs0 : res i = .is z) (hg : Gl X x) (hdb : (x == ("__debug__" : Str)) = false) (he : starEach (e :: es) X.env = (false, eval e X.env) :: starEach es X.env) (hpl : (backTo pos (starEach es X.env)).any (·.1) = false)
    (hx : Passes CX0 X E0) (B : Hp × Hp) (ρ : List Slot) (σ : L2.St) (H : Hp) (h : HasE X.K B H ρ σ Γ) (Q : VK) (q : ∀ H', Ex H H' → HasE X.K B H' ρ σ Γ → Q vz H') : wE X (.Call (.Name x p) (e :: es) [] pos) σ H Q := by
  obtain ⟨f, fd, ps, F, hm, hk, hb, _⟩ := F.ex
  refine goE (pe_call F hr hg hm hk hb .nil hx paW hdb he hpl) (ha.run B ρ σ H h _ fun vs H1 e1 l h1 => ?_)
  rw [List.append_nil]
  obtain ⟨zl, Hd, z1, z2, z3, z4, z5, z6⟩ := id h1
  refine ⟨H1, i, ⟨Ex.refl _, h1.tabs⟩, hp, l.trans fit.len, fit.ok z2 fun r hr => z5 r (List.mem_append_left _ (pushAll_mem (.inl hr))), fun v H' Hd' f1 f2 f3 f4 f5 => ?_⟩
  have f5 := f5.1
  rw [hs0] at f5
  obtain ⟨w, g1, g2⟩ := f5
  injection g1 with g1
  subst g1
  have := hz _ _ _ g2
  subst this
  exact q H' (e1.trans f3) (h1.popAll.grow f3)
theorem px_callS {ι : Type} {k : Nat} {x : Str} {n : Nat} {pre : ι → Prop} {args : ι → List Sl} {res : ι → Sl} {α : Type} [Sc α] {z : α} (F : DefOk X.prog X.w X.K X.mg X.base k x n (spD X.K pre args res)) (i : ι) (hp : pre i) (hr : Room k X.A)
    (ha : AX X Γ (e :: es) ss) (fit : FitsS ss (args i)) (hs0 : res i = .is z := by rfl) (hg : Gl X x := by rfl) (hdb : (x == ("__debug__" : Str)) = false := by decide) (he : starEach (e :: es) X.env = (false, eval e X.env) :: starEach es X.env := by rfl) (hpl : (backTo pos (starEach es X.env)).any (·.1) = false := by rfl)
    (hx : Passes CX0 X E0 := by exact pass0) : PX X Γ (.Call (.Name x p) (e :: es) [] pos) (.is z) :=
  ⟨fun B ρ σ H h Q q => callV F i hp hr ha fit (isV_sc z) hs0 hg hdb he hpl hx B ρ σ H h Q fun H' e' h' => q _ H' e' (h'.pushSc z)⟩
theorem px_callT {ι : Type} {k : Nat} {x : Str} {n : Nat} {pre : ι → Prop} {args : ι → List Sl} {res : ι → Sl} {z : List Nat} (F : DefOk X.prog X.w X.K X.mg X.base k x n (spD X.K pre args res)) (i : ι) (hp : pre i) (hr : Room k X.A)
    (ha : AX X Γ (e :: es) ss) (fit : FitsS ss (args i)) (hs0 : res i = .is z := by rfl) (hg : Gl X x := by rfl) (hdb : (x == ("__debug__" : Str)) = false := by decide) (he : starEach (e :: es) X.env = (false, eval e X.env) :: starEach es X.env := by rfl) (hpl : (backTo pos (starEach es X.env)).any (·.1) = false := by rfl)
    (hx : Passes CX0 X E0 := by exact pass0) : PX X Γ (.Call (.Name x p) (e :: es) [] pos) (.is z) :=
  ⟨fun B ρ σ H h Q q => callV F i hp hr ha fit (isV_tx z) hs0 hg hdb he hpl hx B ρ σ H h Q fun H' e' h' => q _ H' e' (pushTx z h')⟩
theorem px_globE {i : Int} {y : Str} (hm : ∃ t : Tok, X.mg y = some (.int i t)) (hg : Gl X y := by rfl) (hd : (y == ("__debug__" : Str)) = false := by decide) : PX X Γ (.Name y p) (.is i) := by
  obtain ⟨t, hm⟩ := hm
  exact px_globI hg hm hd
end
theorem lt_ind {α β : Type} {P : β → Prop} {x : α} {f : α → β} (h : ∀ v, v = x → P (f v)) : P (lt x f) := h x rfl
theorem foldl_grow {S α β : Type} (step : List β × S → α → List β × S) (P : α → β → Prop) : ∀ (xs : List α), (∀ s x, x ∈ xs → ∃ y, (step s x).1 = s.1 ++ [y] ∧ P x y) → ∀ s0, ∃ ys, (xs.foldl step s0).1 = s0.1 ++ ys ∧ Paired P xs ys
  | [], _, s0 => ⟨[], by simp, .nil⟩
  | x :: xs, h, s0 => by
    obtain ⟨y, h1, h2⟩ := h s0 x List.mem_cons_self
    obtain ⟨ys, h3, h4⟩ := foldl_grow step P xs (fun s x hx => h s x (List.mem_cons_of_mem _ hx)) (step s0 x)
    exact ⟨y :: ys, by rw [List.foldl_cons, h3, h1]; simp, .cons h2 h4⟩
theorem foldl_grow0 {S α β : Type} (step : List β × S → α → List β × S) (P : α → β → Prop) (xs : List α) (h : ∀ s x, x ∈ xs → ∃ y, (step s x).1 = s.1 ++ [y] ∧ P x y) (s0 : S) : Paired P xs (xs.foldl step ([], s0)).1 := by
  obtain ⟨ys, h1, h2⟩ := foldl_grow step P xs h ([], s0)
  rw [h1]
  exact h2
theorem ix_all {α : Type} [Inhabited α] {xs : List α} {i : Int} (P : α → Prop) (h : ∀ x ∈ xs, P x) (hi : -(xs.length : Int) ≤ i ∧ i < xs.length) : P (ix xs i) := by
  have e := ix_ok hi
  unfold atI at e
  cases q : ixN xs.length i with
  | none => rw [q] at e; cases e
  | some j =>
    rw [q] at e
    exact h _ (List.mem_of_getElem? e)
theorem sIx_some {n d : Nat} {i : Int} (h : 0 ≤ i) : HT.sIx n d (some i) = min i.toNat n := by
  have e : i = (i.toNat : Int) := by omega
  rw [e]
  exact HT.sIx_nat n d i.toNat
theorem sl_from {α : Type} {xs : List α} {i : Int} (h : 0 ≤ i) : sl xs (some i) none = xs.drop i.toNat := by
  unfold sl
  rw [sIx_some h, HT.sIx_none]
  by_cases h2 : i.toNat ≤ xs.length
  · rw [Nat.min_eq_left h2, List.take_of_length_le (by simp)]
  · rw [Nat.min_eq_right (by omega), List.drop_of_length_le (by omega : xs.length ≤ i.toNat)]
    simp
theorem sl_to {α : Type} {xs : List α} {i : Int} (h : 0 ≤ i) : sl xs none (some i) = xs.take i.toNat := by
  unfold sl
  rw [sIx_some h, HT.sIx_none, Nat.sub_zero, List.drop_zero]
  by_cases h2 : i.toNat ≤ xs.length
  · rw [Nat.min_eq_left h2]
  · rw [Nat.min_eq_right (by omega), List.take_length, List.take_of_length_le (by omega)]
theorem sl_mid {α : Type} {xs : List α} {i j : Int} (h : 0 ≤ i) (hj : 0 ≤ j) : sl xs (some i) (some j) = (xs.drop i.toNat).take (j.toNat - i.toNat) := by
  unfold sl
  rw [sIx_some h, sIx_some hj]
  by_cases h1 : i.toNat ≤ xs.length
  · rw [Nat.min_eq_left h1]
    by_cases h2 : j.toNat ≤ xs.length
    · rw [Nat.min_eq_left h2]
    · rw [Nat.min_eq_right (by omega), List.take_of_length_le (by simp), List.take_of_length_le (by simp; omega)]
  · have h3 : xs.length ≤ i.toNat := by omega
    rw [Nat.min_eq_right h3, List.drop_of_length_le h3, List.drop_of_length_le (Nat.le_refl _)]
    simp
theorem repL_length {α : Type} (xs : List α) (k : Int) : (repL xs k).length = k.toNat * xs.length := by
  unfold repL
  simp
theorem repT_length (x : List Nat) (k : Int) : (repT x k).length = k.toNat * x.length := by
  unfold repT
  simp
theorem mem_repL {α : Type} {xs : List α} {k : Int} {x : α} (h : x ∈ repL xs k) : x ∈ xs := by
  unfold repL at h
  obtain ⟨l, h1, h2⟩ := List.mem_flatten.mp h
  rw [(List.mem_replicate.mp h1).2] at h2
  exact h2
theorem mem_sl {α : Type} {xs : List α} {i j : Option Int} {x : α} (h : x ∈ sl xs i j) : x ∈ xs := List.mem_of_mem_drop (List.mem_of_mem_take h)
theorem sl_length_le {α : Type} (xs : List α) (i j : Option Int) : (sl xs i j).length ≤ xs.length := by
  unfold sl
  rw [List.length_take, List.length_drop]
  omega
end DX
namespace DX
open PySem PySem.Spec PyProof.Rows L2
open DEnc (encD)
def keyT (x : List Nat) : Key := .inr (mkS x)
end DX
namespace DX
open PySem PySem.Spec PyProof.Rows L2
open DEnc (encD)
inductive Pay where
  | no
  | int (f : Str) (i : Int)
  | txt (f : Str) (x : List Nat)
structure PErr where
  nm : Str
  pay : Pay
abbrev Res (α : Type) := Except PErr α
def payOk (H : Hp) (d : Option Addr) : Pay → Prop
  | .no => d = none
  | .int f i => ∃ a, d = some a ∧ H a = some (.xd [(f, .int i)])
  | .txt f x => ∃ a, d = some a ∧ H a = some (.xd [(f, .str (mkS x))])
theorem payOk.mono {H H' : Hp} {d : Option Addr} {p : Pay} (e : Ex H H') (h : payOk H d p) : payOk H' d p := by
  cases p with
  | no => exact h
  | int f i => obtain ⟨a, h1, h2⟩ := h; exact ⟨a, h1, e _ _ h2⟩
  | txt f i => obtain ⟨a, h1, h2⟩ := h; exact ⟨a, h1, e _ _ h2⟩
def IsErr (mg : Str → Option Value) (H0 H : Hp) (cls : Value) (d : Option Addr) (e : PErr) : Prop := mg e.nm = some cls ∧ payOk H d e.pay ∧ ∀ a, d = some a → H0 a = none
theorem IsErr.back {mg : Str → Option Value} {H0 H1 H : Hp} {cls : Value} {d : Option Addr} {e : PErr} (x : Ex H0 H1) (h : IsErr mg H1 H cls d e) : IsErr mg H0 H cls d e := ⟨h.1, h.2.1, fun a ha => x.back (h.2.2 a ha)⟩
def spX {ι R : Type} (K : PySem.W.Frag) (mg : Str → Option Value) (pre : ι → Prop) (args : ι → List Sl) (res : R → Sl) (m : ι → Res R) : Sp := fun vs H Q E => ∃ (Hd0 : Hp) (i : ι), ExD K Hd0 H ∧ pre i ∧ vs.length = (args i).length ∧ (∀ p ∈ (vs.map some).zip (args i), SlotOk K H Hd0 H p.1 p.2 ∧ ∀ q, apart p q) ∧
  match m i with
  | .ok r => ∀ v H' Hd', Ex Hd0 Hd' → Ex Hd' H' → Ex H H' → (∀ a, Hd0 a = none → H a ≠ none → Hd' a = none) → ResOk K H Hd' H' (some v) (res r) → Q v H'
  | .error e => ∀ cls d H', Ex H H' → IsErr mg H H' cls d e → E cls d H'
structure DefOkX (P : Program) (w : World) (K : PySem.W.Frag) (mg : Str → Option Value) (base : Heap) (k : Nat) (x : Str) (n : Nat) (sp : Sp) : Prop where
  ex : ∃ (f : Addr) (fd : FuncData) (ps : List Str), FnOk P w K mg base (L2.CX P w) k f fd ps sp ∧ mg x = some (.ref f) ∧ PySem.W.keepIn K (.ref f) = true ∧ Binds K fd ps [] ∧ ps.length = n
section
variable {X : Cx} {Γ : List Sl} {e a b c : Expr} {es : List Expr} {s : Sl} {ss : List Sl} {pos p apos cpos p2 p3 : Pos}
theorem callXV {ι R : Type} {k : Nat} {x : Str} {n : Nat} {pre : ι → Prop} {args : ι → List Sl} {res : R → Sl} {m : ι → Res R} {r : R} (F : DefOkX X.prog X.w X.K X.mg X.base k x n (spX X.K X.mg pre args res m)) (i : ι) (hp : pre i) (hm0 : m i = .ok r) (hr : Room k X.A)
    (ha : AX X Γ (e :: es) ss) (fit : FitsS ss (args i)) {α : Type} [Enc α] {z : α} {vz : V} (hz : IsV z vz) (hs0 : res r = .is z) (hg : Gl X x) (hdb : (x == ("__debug__" : Str)) = false) (he : starEach (e :: es) X.env = (false, eval e X.env) :: starEach es X.env) (hpl : (backTo pos (starEach es X.env)).any (·.1) = false)
    (B : Hp × Hp) (ρ : List Slot) (σ : L2.St) (H : Hp) (h : HasE X.K B H ρ σ Γ) (Q : VK) (q : ∀ H', Ex H H' → HasE X.K B H' ρ σ Γ → Q vz H') : wE X (.Call (.Name x p) (e :: es) [] pos) σ H Q := by
  obtain ⟨f, fd, ps, F, hm, hk, hb, _⟩ := F.ex
  refine goE (pe_callS (E := WE fun _ _ _ _ => False) F hr hg hm hk hb (fun σ => passAt takes0 σ) paW hdb he hpl) (ha.run B ρ σ H h _ fun vs H1 e1 l h1 => ?_)
  obtain ⟨zl, Hd, z1, z2, z3, z4, z5, z6⟩ := id h1
  refine ⟨H1, i, ⟨Ex.refl _, h1.tabs⟩, hp, l.trans fit.len, fit.ok z2 fun r hr => z5 r (List.mem_append_left _ (pushAll_mem (.inl hr))), ?_⟩
  rw [hm0]
  refine fun v H' Hd' f1 f2 f3 f4 f5 => ?_
  have f5 := f5.1
  rw [hs0] at f5
  obtain ⟨w, g1, g2⟩ := f5
  injection g1 with g1
  subst g1
  have := hz _ _ _ g2
  subst this
  exact q H' (e1.trans f3) (h1.popAll.grow f3)
theorem px_callXS {ι R : Type} {k : Nat} {x : Str} {n : Nat} {pre : ι → Prop} {args : ι → List Sl} {res : R → Sl} {m : ι → Res R} {r : R} {α : Type} [Sc α] {z : α} (F : DefOkX X.prog X.w X.K X.mg X.base k x n (spX X.K X.mg pre args res m)) (i : ι) (hp : pre i) (hm0 : m i = .ok r) (hr : Room k X.A)
    (ha : AX X Γ (e :: es) ss) (fit : FitsS ss (args i)) (hs0 : res r = .is z := by rfl) (hg : Gl X x := by rfl) (hdb : (x == ("__debug__" : Str)) = false := by decide) (he : starEach (e :: es) X.env = (false, eval e X.env) :: starEach es X.env := by rfl) (hpl : (backTo pos (starEach es X.env)).any (·.1) = false := by rfl) :
    PX X Γ (.Call (.Name x p) (e :: es) [] pos) (.is z) :=
  ⟨fun B ρ σ H h Q q => callXV F i hp hm0 hr ha fit (isV_sc z) hs0 hg hdb he hpl B ρ σ H h Q fun H' e' h' => q _ H' e' (h'.pushSc z)⟩
structure PXr (X : Cx) (W : L2.WX) (Γ : List Sl) (e : Expr) (err : PErr) : Prop where
  run : ∀ (B : Hp × Hp) (ρ : List Slot) (σ : L2.St) (H : Hp), HasE X.K B H ρ σ Γ → (∀ cls d H', Ex H H' → IsErr X.mg H H' cls d err → W cls d σ H') → ∀ Q : VK, wE X e σ H Q
structure AXr (X : Cx) (W : L2.WX) (Γ : List Sl) (es : List Expr) (err : PErr) : Prop where
  run : ∀ (B : Hp × Hp) (ρ : List Slot) (σ : L2.St) (H : Hp), HasE X.K B H ρ σ Γ → (∀ cls d H', Ex H H' → IsErr X.mg H H' cls d err → W cls d σ H') → ∀ Q : List V → Hp → Prop, wA X es σ H Q
variable {W : L2.WX} {err : PErr}
theorem pxr_call {ι R : Type} {k : Nat} {x : Str} {n : Nat} {pre : ι → Prop} {args : ι → List Sl} {res : R → Sl} {m : ι → Res R} (tk : Takes X W) (F : DefOkX X.prog X.w X.K X.mg X.base k x n (spX X.K X.mg pre args res m)) (i : ι) (hp : pre i) (hm0 : m i = .error err) (hr : Room k X.A)
    (ha : AX X Γ (e :: es) ss) (fit : FitsS ss (args i)) (hg : Gl X x := by rfl) (hdb : (x == ("__debug__" : Str)) = false := by decide) (he : starEach (e :: es) X.env = (false, eval e X.env) :: starEach es X.env := by rfl) (hpl : (backTo pos (starEach es X.env)).any (·.1) = false := by rfl) :
    PXr X W Γ (.Call (.Name x p) (e :: es) [] pos) err := by
  obtain ⟨f, fd, ps, F, hm, hk, hb, _⟩ := F.ex
  refine ⟨fun B ρ σ H h w Q => goE (pe_callS (E := WE W) F hr hg hm hk hb (fun σ => passAt tk σ) paW hdb he hpl) (ha.run B ρ σ H h _ fun vs H1 e1 l h1 => ?_)⟩
  obtain ⟨zl, Hd, z1, z2, z3, z4, z5, z6⟩ := id h1
  refine ⟨H1, i, ⟨Ex.refl _, h1.tabs⟩, hp, l.trans fit.len, fit.ok z2 fun r hr => z5 r (List.mem_append_left _ (pushAll_mem (.inl hr))), ?_⟩
  rw [hm0]
  exact fun cls d H' ex ie => w cls d H' (e1.trans ex) (ie.back e1)
theorem axr_head (h : PXr X W Γ e err) (hs : starEach (e :: es) X.env = (false, eval e X.env) :: starEach es X.env := by rfl) : AXr X W Γ (e :: es) err :=
  ⟨fun B ρ σ H h' w Q => goA (pa_cons peW paW hs) (h.run B ρ σ H h' w _)⟩
theorem axr_tail (h : PX X Γ e s) (t : AXr X W Γ es err) (hs : starEach (e :: es) X.env = (false, eval e X.env) :: starEach es X.env := by rfl) : AXr X W Γ (e :: es) err :=
  ⟨fun B ρ σ H h' w Q => goA (pa_cons peW paW hs) (h.run B ρ σ H h' _ fun v H1 e1 h1 => t.run B _ σ H1 h1 (fun cls d H' ex ie => w cls d H' (e1.trans ex) (ie.back e1)) _)⟩
theorem pxr_tup {x1} (h : AXr X W Γ es err) : PXr X W Γ (.Tuple es x1 pos) err := ⟨fun B ρ σ H h' w Q => goE (pe_tup paW) (h.run B ρ σ H h' w _)⟩
end
def LX (K : PySem.W.Frag) (mg : Str → Option Value) {R : Type} (res : R → Sl) (W : L2.WX) : Leaf (Res R) := fun B m D _ => match m with
  | .ok r => ∀ v H', RetE K B H' v (res r) → D.rt v H'
  | .error e => ∀ cls d σ H', Ex B.2 H' → IsErr mg B.2 H' cls d e → W cls d σ H'
def LOutG (K : PySem.W.Frag) {S R : Type} (Γf : S → List Sl) (L0 : Leaf R) : Leaf (Out S R) := fun B m D ρ => match m with
  | .go s => (∀ σ' H', HasE K B H' ρ σ' (Γf s) → D.nx σ' H') ∧ (∀ σ' H', HasE K B H' ρ σ' (Γf s) → D.ct σ' H')
  | .brk s => ∀ σ' H', HasE K B H' ρ σ' (Γf s) → D.bk σ' H'
  | .ret r => L0 B r D ρ
/-- what is returned goes to L0 -/
def Rts {M R : Type} (L : Leaf M) (L0 : Leaf R) (mr : R → M) : Prop := ∀ B r (D D' : Ends) ρ ρ', D'.rt = D.rt → L B (mr r) D ρ → L0 B r D' ρ'
def Errs (mg : Str → Option Value) {M : Type} (L : Leaf M) (W : L2.WX) (me : PErr → M) : Prop := ∀ B e D ρ, L B (me e) D ρ → ∀ cls d σ H', Ex B.2 H' → IsErr mg B.2 H' cls d e → W cls d σ H'
theorem rts_D {K : PySem.W.Frag} {R : Type} {res : R → Sl} : Rts (LRet K res) (LRet K res) (fun r => r) := fun B r D D' ρ ρ' h l => by
  intro v H' q
  rw [h]
  exact l v H' q
theorem errs_X {K : PySem.W.Frag} {mg : Str → Option Value} {R : Type} {res : R → Sl} {W : L2.WX} : Errs mg (LX K mg res W) W Except.error := fun B e D ρ l => l
theorem errs_outG {K : PySem.W.Frag} {mg : Str → Option Value} {S M : Type} {Γf : S → List Sl} {L0 : Leaf M} {W : L2.WX} {me : PErr → M} (h : Errs mg L0 W me) : Errs mg (LOutG K Γf L0) W (fun e => Out.ret (me e)) := fun B e D ρ l => h B e D ρ l
def exK {R M : Type} (Y : Res R) (f : PErr → M) (g : R → M) : M := match Y with
  | .error e => f e
  | .ok r => g r
theorem HasE.exB {K : PySem.W.Frag} {B : Hp × Hp} {H : Hp} {ρ : List Slot} {σ : L2.St} {Γ : List Sl} (h : HasE K B H ρ σ Γ) : Ex B.2 H := by
  obtain ⟨_, _, _, _, z, _⟩ := h
  exact z
section
variable {X : Cx} {M : Type} {L : Leaf M} {Γ Γ' : List Sl} {k : List (List Stmt)} {m : M} {st : Stmt} {sts : List Stmt} {e a b c tg iter : Expr} {es : List Expr} {pos p p' p2 apos cpos : Pos} {s : Sl} {W : L2.WX} {err : PErr} {me : PErr → M}
/-- a class that may be raised: what the text's facts say of it -/
structure EC (K : PySem.W.Frag) (mg : Str → Option Value) (x : Str) (C : Addr) : Prop where
  gC : mg x = some (.ref C)
  kC : PySem.W.keepIn K (.ref C) = true
  b : PySem.W.subIn K (.ref C) (.type "BaseException") = some true
  t : PySem.W.typeIn K (.ref C) = some (.type "type")
structure EC0 (K : PySem.W.Frag) (mg : Str → Option Value) (x : Str) (C : Addr) : Prop extends EC K mg x C where
  q : PySem.W.excIn K C [.type "ValueError", .type "Exception", .type "BaseException", .type "object"] "ValueError.__new__" = true
theorem sx_raise0 {x m0 : Str} {C : Addr} {j : Nat} (hE : Errs X.mg L W me) (tk : Takes X W) (c : EC0 X.K X.mg x C) (hc : X.calm = true := by rfl) (hg : Gl X x := by rfl) (hdb : (x == ("__debug__" : Str)) = false := by decide) :
    SX X L Γ ((.Raise (some (.Call (.Name x p) [.Constant (.str m0) j p2] [] cpos)) none pos :: sts) :: k) (me ⟨x, .no⟩) :=
  ⟨fun B ρ σ H D hb h l => wC_cons (go1 (ps_raise hc tk (pmk_own PySem.F.excBase_ValueError c.q c.gC c.kC (raises_own c.b c.t) hg hdb)) (hE B ⟨x, .no⟩ D ρ l _ _ σ H h.exB ⟨c.gC, rfl, fun a z => (nomatch z)⟩))⟩
theorem sx_endG {S R : Type} {Γf : S → List Sl} {L0 : Leaf R} {s : S} (w : Wk Γ (Γf s)) : SX X (LOutG X.K Γf L0) Γ [] (.go s) := ⟨fun B ρ σ H D hb h l => l.1 σ H (h.weak w)⟩
theorem sx_brkG {S R : Type} {Γf : S → List Sl} {L0 : Leaf R} {s : S} (w : Wk Γ (Γf s)) : SX X (LOutG X.K Γf L0) Γ ((.Break pos :: sts) :: k) (.brk s) := ⟨fun B ρ σ H D hb h l => wC_cons (go1 ps_break (l σ H (h.weak w)))⟩
theorem sx_forG {S R α : Type} [Enc α] {xs : List α} {P : Prop} {body : List Stmt} {mm : S → M} {mr : R → M} {L0 : Leaf R} (j : Nat) (Γf : S → List Sl) (step : S → α → Out S R) (s0 : S) (I : Nat → S → Prop) (hi : IX X Γ tg iter xs P) (hg : PG X tg (gName j)) (hst : Wk Γ (Γf s0)) (h0 : I 0 s0)
    (hbd : ∀ (i : Nat) (s : S) (x : α), xs[i]? = some x → I i s → SX X (LOutG X.K Γf L0) ((Γf s).set j (.is x)) [body] (step s x))
    (hI : ∀ (i : Nat) (s : S) (x : α) (s' : S), xs[i]? = some x → I i s → step s x = .go s' → I (i + 1) s')
    (hret : Rts L L0 mr) (hrest : ∀ s, (forO step s0 xs = .go s ∧ I xs.length s ∨ forO step s0 xs = .brk s) → SX X L (Γf s) (sts :: k) (mm s))
    (hc : X.calm = true := by rfl) (hp : PassesOwn (model X.prog X.w) X.A X.env X.xe := by first | exact PassesOwn.never | exact PassesOwn.leaving) (hs : ∀ x, foldedSetIterable iter X.env x = pure x := by intro _; rfl) : SX X L Γ ((.For tg iter body [] pos :: sts) :: k) (forK step s0 xs mm mr) := by
  refine ⟨fun B ρ σ H D hb h l => wC_cons (go1 (ps_for hp hc piW hg pssW hs) ?_)⟩
  refine hi.run B ρ σ H h _ fun J H1 τ hP e1 hbt h1 hgo hstop => ?_
  have unτ : ∀ {τ : List Slot} {H' : Hp} {σ' : L2.St} {Γ' : List Sl}, HasE X.K B H' (τ ++ ρ) σ' Γ' → HasE X.K B H' ρ σ' Γ' := by
    intro τ
    induction τ with
    | nil => exact fun h => h
    | cons t τ ih => exact fun h => ih h.pop
  have hbρ : ∀ p ∈ τ ++ ρ, noBor p := fun p hp => (List.mem_append.mp hp).elim (hbt p) (hb p)
  refine ⟨fun i mm' σ' H' => mm' = xs.length - i ∧ i ≤ xs.length ∧ ∃ s, I i s ∧ forO step s0 xs = forO step s (xs.drop i) ∧ HasE X.K B H' (τ ++ ρ) σ' (Γf s), ⟨xs.length, by simp, Nat.zero_le _, s0, h0, rfl, h1.weak hst⟩, ?_⟩
  rintro i mm' σ' H' ⟨rfl, hin, s, hIs, hf, hh⟩
  by_cases hlt : i < xs.length
  · have hx : xs[i]? = some xs[i] := List.getElem?_eq_getElem hlt
    obtain ⟨g1, g2⟩ := hgo [] σ' (Γf s) H' i xs[i] hh hx
    rw [List.drop_eq_getElem_cons hlt] at hf
    refine .inr ⟨g1, fun σ2 H2 => ∃ s', I (i + 1) s' ∧ forO step s0 xs = forO step s' (xs.drop (i + 1)) ∧ HasE X.K B H2 (τ ++ ρ) σ2 (Γf s'), fun σ2 H2 ⟨s', a1, a2, a3⟩ => ⟨xs.length - (i + 1), by omega, rfl, hlt, s', a1, a2, a3⟩, fun v H2 y => ?_⟩
    obtain ⟨e3, k3⟩ := g2 v H2 y
    have hf' : forO step s0 xs = (match step s xs[i] with
      | .go s' => forO step s' (xs.drop (i + 1))
      | .brk s' => .brk s'
      | .ret r => .ret r) := hf
    refine (hbd i s xs[i] hx hIs).run B (τ ++ ρ) _ H2 { D with nx := fun σ2 H2 => ∃ s', I (i + 1) s' ∧ forO step s0 xs = forO step s' (xs.drop (i + 1)) ∧ HasE X.K B H2 (τ ++ ρ) σ2 (Γf s'), ct := fun σ2 H2 => ∃ s', I (i + 1) s' ∧ forO step s0 xs = forO step s' (xs.drop (i + 1)) ∧ HasE X.K B H2 (τ ++ ρ) σ2 (Γf s'), bk := fun σ' H' => wC X (sts :: k) D σ' H' } hbρ (HasE.set j k3) ?_
    cases q : step s xs[i] with
    | go s' =>
      rw [q] at hf'
      have hI' := hI i s xs[i] s' hx hIs q
      exact ⟨fun σ3 H3 h3 => ⟨s', hI', hf', h3⟩, fun σ3 H3 h3 => ⟨s', hI', hf', h3⟩⟩
    | brk s' =>
      rw [q] at hf'
      intro σ3 H3 h3
      refine (hrest s' (.inr hf')).run B ρ σ3 H3 D hb (unτ h3) ?_
      unfold forK at l
      rw [hf'] at l
      exact l
    | ret r =>
      rw [q] at hf'
      unfold forK at l
      rw [hf'] at l
      exact hret B r D _ ρ _ rfl l
  · have e : i = xs.length := by omega
    subst e
    rw [List.drop_length] at hf
    have hf' : forO step s0 xs = .go s := hf
    refine .inl ⟨hstop [] σ' (Γf s) H' hh, (hrest s (.inl ⟨hf', hIs⟩)).run B ρ σ' H' D hb (unτ hh) ?_⟩
    unfold forK at l
    rw [hf'] at l
    exact l
/-- a caught exception, as a value -/
structure ExA where
  a : Addr
instance : Sc ExA := ⟨fun x => V.ref x.a⟩
/-- a class, as a value -/
structure ClA where
  v : V
instance : Sc ClA := ⟨fun x => x.v⟩
theorem px_cls {y : Str} {C : Addr} (hm : X.mg y = some (.ref C)) (hg : Gl X y := by rfl) (hd : (y == ("__debug__" : Str)) = false := by decide) : PX X Γ (.Name y p) (.is (ClA.mk (.ref C))) :=
  ⟨fun B ρ σ H h Q q => goE (pe_glob (v := .ref C) hg hm rfl hd) (q _ H (Ex.refl H) (h.pushSc (ClA.mk (.ref C))))⟩
theorem px_clsB {y : Str} {T : String} (hm : X.mg y = none) (hv : bootBuiltins y = some (.type T)) (hg : Gl X y := by rfl) (hn : y ≠ "__name__" := by decide) (hd : (y == ("__debug__" : Str)) = false := by decide) : PX X Γ (.Name y p) (.is (ClA.mk (.ty T))) :=
  ⟨fun B ρ σ H h Q q => goE (pe_bltn (v := .ty T) hg hm hv rfl hn hd) (q _ H (Ex.refl H) (h.pushSc (ClA.mk (.ty T))))⟩
end
end DX
namespace DX
open PySem PySem.Spec PyProof.Rows L2
open DEnc (encD)
section
variable {X : Cx} {Γ : List Sl} {e a b c : Expr} {es : List Expr} {s : Sl} {ss : List Sl} {pos p p1 p2 p3 apos cpos : Pos}
theorem paired_cls {K : PySem.W.Frag} {Hd : Hp} : ∀ {vs : List V} {cs : List ClA}, Paired (Enc.rep K Hd) vs cs → vs = cs.map (·.v)
  | _, _, .nil => rfl
  | _, _, .cons r t => by
    rw [paired_cls t]
    have r : _ = _ := r
    rw [r]
    rfl
structure PC (X : Cx) (Γ : List Sl) (e : Expr) {α : Type} [Enc α] (x : α) : Prop where
  run : ∀ (B : Hp × Hp) (ρ : List Slot) (σ : L2.St) (H : Hp), HasE X.K B H ρ σ Γ → ∀ Q : VK, (∀ v H', Ex H H' → Enc.rep X.K H' v x → HasE X.K B H' ρ σ Γ → Q v H') → wE X e σ H Q
structure AC (X : Cx) (Γ : List Sl) (es : List Expr) (args : List Sl) : Prop where
  run : ∀ (B : Hp × Hp) (ρ : List Slot) (σ : L2.St) (H : Hp), HasE X.K B H ρ σ Γ → ∀ Q : List V → Hp → Prop, (∀ vs H', Ex H H' → vs.length = args.length → (∀ p ∈ (vs.map some).zip args, SlotOk X.K H' H' H' p.1 p.2 ∧ ∀ q, apart p q) → HasE X.K B H' ρ σ Γ → Q vs H') → wA X es σ H Q
theorem pc_of {α : Type} [Enc α] {x : α} (h : PX X Γ e (.is x)) : PC X Γ e x := ⟨fun B ρ σ H h' Q q => h.run B ρ σ H h' _ fun v H1 e1 h1 => by
  obtain ⟨l, Hd, z1, z2, z3, z4, z5, z6⟩ := id h1
  obtain ⟨w, f1, f2⟩ := z5 _ List.mem_cons_self
  have f1 : some v = some w := f1
  injection f1 with f1
  subst f1
  exact q v H1 e1 (Enc.mono z2 f2) h1.pop⟩
theorem pc_lk {α : Type} [Enc α] {xs : List α} (lk : Lk s xs) (h : PX X Γ e s) : @PC X Γ e (List α) encList xs := @PC.mk X Γ e (List α) encList xs (fun B ρ σ H h' Q q => h.run B ρ σ H h' _ fun v H1 e1 h1 => by
  obtain ⟨l, Hd, z1, z2, z3, z4, z5, z6⟩ := id h1
  obtain ⟨a', vs, g1, g2, g3⟩ := lk.ok z2 (z5 _ List.mem_cons_self)
  injection g1 with g1
  subst g1
  exact q _ H1 e1 ⟨a', vs, rfl, g2, PairedMono z2 g3⟩ h1.pop)
theorem pc_D {α : Type} [Enc α] [DEnc α] {x : α} (h : PC X Γ e x) : PC X Γ e (encD x) := ⟨fun B ρ σ H h' Q q => h.run B ρ σ H h' _ fun v H1 e1 r h1 => q v H1 e1 (DEnc.toDp r) h1⟩
theorem ac_nil : AC X Γ [] [] := ⟨fun B ρ σ H h Q q => goA pa_nil (q [] H (Ex.refl H) rfl (fun p hp => nomatch hp) h)⟩
theorem ac_cons {α : Type} [Enc α] {x : α} (h : PC X Γ e x) (t : AC X Γ es ss) (hb : ∀ K H H' o, Ex H H' → (∀ p ∈ [(o : Option V)].zip [Sl.is x], SlotOk K H H H p.1 p.2) → True := by intros; trivial) (hs : starEach (e :: es) X.env = (false, eval e X.env) :: starEach es X.env := by rfl) : AC X Γ (e :: es) (.is x :: ss) :=
  ⟨fun B ρ σ H h' Q q => goA (pa_cons peW paW hs) (h.run B ρ σ H h' _ fun v H1 e1 r h1 => t.run B ρ σ H1 h1 _ fun vs H2 e2 l ok h2 => q (v :: vs) H2 (e1.trans e2) (by simp [l]) (fun p hp => by
    rcases List.mem_cons.mp hp with z | z
    · rw [z]
      exact ⟨⟨v, rfl, Enc.mono e2 r⟩, fun q => apart_is q⟩
    · exact ok p z) h2)⟩
theorem callC {ι : Type} {k : Nat} {x : Str} {n : Nat} {pre : ι → Prop} {args : ι → List Sl} {res : ι → Sl} (F : DefOk X.prog X.w X.K X.mg X.base k x n (spD X.K pre args res)) (i : ι) (hp : pre i) (hr : Room k X.A)
    (ha : AC X Γ (e :: es) (args i)) {α : Type} [Enc α] {z : α} {vz : V} (hz : IsV z vz) (hs0 : res i = .is z) (hg : Gl X x) (hdb : (x == ("__debug__" : Str)) = false) (he : starEach (e :: es) X.env = (false, eval e X.env) :: starEach es X.env) (hpl : (backTo pos (starEach es X.env)).any (·.1) = false)
    (hx : Passes CX0 X E0) (B : Hp × Hp) (ρ : List Slot) (σ : L2.St) (H : Hp) (h : HasE X.K B H ρ σ Γ) (Q : VK) (q : ∀ H', Ex H H' → HasE X.K B H' ρ σ Γ → Q vz H') : wE X (.Call (.Name x p) (e :: es) [] pos) σ H Q := by
  obtain ⟨f, fd, ps, F, hm, hk, hb, _⟩ := F.ex
  refine goE (pe_call F hr hg hm hk hb .nil hx paW hdb he hpl) (ha.run B ρ σ H h _ fun vs H1 e1 l ok h1 => ?_)
  rw [List.append_nil]
  refine ⟨H1, i, ⟨Ex.refl _, h1.tabs⟩, hp, l, ok, fun v H' Hd' f1 f2 f3 f4 f5 => ?_⟩
  have f5 := f5.1
  rw [hs0] at f5
  obtain ⟨w, g1, g2⟩ := f5
  injection g1 with g1
  subst g1
  have := hz _ _ _ g2
  subst this
  exact q H' (e1.trans f3) (h1.grow f3)
theorem px_callC {ι : Type} {k : Nat} {x : Str} {n : Nat} {pre : ι → Prop} {args : ι → List Sl} {res : ι → Sl} {α : Type} [Sc α] {z : α} (F : DefOk X.prog X.w X.K X.mg X.base k x n (spD X.K pre args res)) (i : ι) (hp : pre i) (hr : Room k X.A)
    (ha : AC X Γ (e :: es) (args i)) (hs0 : res i = .is z := by rfl) (hg : Gl X x := by rfl) (hdb : (x == ("__debug__" : Str)) = false := by decide) (he : starEach (e :: es) X.env = (false, eval e X.env) :: starEach es X.env := by rfl) (hpl : (backTo pos (starEach es X.env)).any (·.1) = false := by rfl)
    (hx : Passes CX0 X E0 := by exact pass0) : PX X Γ (.Call (.Name x p) (e :: es) [] pos) (.is z) :=
  ⟨fun B ρ σ H h Q q => callC F i hp hr ha (isV_sc z) hs0 hg hdb he hpl hx B ρ σ H h Q fun H' e' h' => q _ H' e' (h'.pushSc z)⟩
end
/-- a tuple of a text and the list at a -/
structure TR where
  t : List Nat
  a : Addr
instance encTR : Enc TR where
  rep := fun K H v x => ∃ p, v = .ref p ∧ SqT K H p [.str (mkS x.t), .ref x.a]
  mono := fun e ⟨p, h1, h2⟩ => ⟨p, h1, ext e h2⟩
def TOk (K : PySem.W.Frag) (B Hd H : Hp) (v : V) (t : List Nat) {α : Type} [Enc α] (xs : List α) : Prop := ∃ a, SlotOk K B Hd H (some v) (.is (TR.mk t a)) ∧ SlotOk K B Hd H (some (.ref a)) (.ownA a xs)
def TRet (K : PySem.W.Frag) {α β : Type} [Enc α] [Enc β] (t : List Nat) (B : Hp × Hp) (m : Sum (List α) β) (v : V) (H : Hp) : Prop := ∃ Hd, Ex B.1 Hd ∧ Ex Hd H ∧ Ex B.2 H ∧ (∀ a, B.1 a = none → B.2 a ≠ none → Hd a = none) ∧ (match m with
    | .inl xs => TOk K B.2 Hd H v t xs
    | .inr b => SlotOk K B.2 Hd H (some v) (.is b))
def LT (K : PySem.W.Frag) {α β : Type} [Enc α] [Enc β] (t : List Nat) : Leaf (Sum (List α) β) := fun B m D _ => ∀ v H', TRet K t B m v H' → D.rt v H'
end DX
namespace DX
open PySem PySem.Spec PyProof.Rows L2
section
variable {P : Program} {w : World} {K : PySem.W.Frag} {mg : Str → Option Value} {base : Heap}
theorem pw_all {l : List Slot} (h : ∀ p ∈ l, ∀ q, apart p q) : l.Pairwise apart := by
  induction l with
  | nil => exact .nil
  | cons p l ih => exact List.pairwise_cons.mpr ⟨fun q _ => h p List.mem_cons_self q, ih fun r hr => h r (List.mem_cons_of_mem _ hr)⟩
theorem start_has {Hd0 H : Hp} {vs : List V} {args : List Sl} {N ps : List Str} (h1 : ExD K Hd0 H) (hl : vs.length = args.length) (hn : args.length = ps.length) (ha : ∀ p ∈ (vs.map some).zip args, SlotOk K H Hd0 H p.1 p.2 ∧ ∀ q, apart p q) :
    HasE K (Hd0, H) H [] (L2.start N vs) (args ++ List.replicate (N.length - ps.length) .no) := by
  refine ⟨?_, Hd0, ⟨Ex.refl _, h1.tab⟩, h1.ex, Ex.refl _, fun a b _ => b, ?_, ?_⟩
  · unfold L2.start
    simp [hl, hn]
  · intro p hp
    rw [List.nil_append] at hp
    unfold L2.start at hp
    rw [zip_append (by simp [hl])] at hp
    rcases List.mem_append.mp hp with z | z
    · exact (ha p z).1
    · have := (List.of_mem_zip (show (p.1, p.2) ∈ _ from z)).2
      rw [(List.mem_replicate.mp this).2]
      trivial
  · rw [List.nil_append]
    unfold L2.start
    rw [zip_append (by simp [hl])]
    refine List.pairwise_append.mpr ⟨?_, ?_, fun p hp q' _ => (ha p hp).2 q'⟩
    · exact pw_all fun p hp q' => (ha p hp).2 q'
    · refine pw_all fun p hp q' => ?_
      have := (List.of_mem_zip (show (p.1, p.2) ∈ _ from hp)).2
      obtain ⟨o, s'⟩ := p
      have e : s' = .no := (List.mem_replicate.mp this).2
      subst e
      exact apart_no q'
theorem r0w {X : Cx} {b : List Stmt} {D : Ends} {σ : L2.St} {H : Hp} (h : wC X [b] D σ H) : wS X b D σ H := h
end
end DX
namespace DX
open PySem PySem.Spec PyProof.Rows L2
section
variable {X : Cx} {Γ : List Sl} {a b : Expr} {pos : Pos} {x y : List Nat}
theorem px_one (ha : PX X Γ a (.is x)) (h : x = [x.headD 0]) : PX X Γ a (.is [x.headD 0]) := by rw [← h]; exact ha
theorem px_niT1 (ha : PX X Γ a (.is x)) (hb : PX X Γ b (.is y)) (h : x = [x.headD 0]) (hm : behindInMarks .NotIn b = false := by rfl) : PX X Γ (.Compare a [.NotIn] [b] pos) (.is (!decide (x.headD 0 ∈ y))) := px_niT (px_one ha h) hb hm
end
end DX
namespace DX
open PySem PySem.Spec PyProof.Rows L2
theorem px_powC {X : Cx} {Γ : List Sl} {a b : Expr} {pos : Pos} {x y z : Int} (ha : PX X Γ a (.is x)) (hb : PX X Γ b (.is y)) (hc : CPow x y) (hz : x ^ y.toNat = z) : PX X Γ (.BinOp a .Pow b pos) (.is z) := hz ▸ px_pow ha hb hc
end DX
namespace DX
open PySem PySem.Spec PyProof.Rows L2
theorem exK_ok {R M : Type} {Y : Res R} {f : PErr → M} {g : R → M} {r : R} (h : Y = .ok r) : exK Y f g = g r := by rw [h]; rfl
theorem exK_er {R M : Type} {Y : Res R} {f : PErr → M} {g : R → M} {r : PErr} (h : Y = .error r) : exK Y f g = f r := by rw [h]; rfl
end DX
namespace DX
theorem forK_go {S R α M : Type} {step : S → α → Out S R} {s s' : S} {xs : List α} {m : S → M} {mr : R → M} (e : forO step s xs = .go s') : forK step s xs m mr = m s' := by
  unfold forK
  rw [e]
theorem forK_ret {S R α M : Type} {step : S → α → Out S R} {s : S} {r : R} {xs : List α} {m : S → M} {mr : R → M} (e : forO step s xs = .ret r) : forK step s xs m mr = mr r := by
  unfold forK
  rw [e]
end DX
namespace DX
open PySem PySem.Spec PyProof.Rows L2
theorem kit_ref {K : PySem.W.Frag} {D C : Addr} (h1 : PySem.W.isClsIn K C = true) (h2 : PySem.W.typeIn K (.ref C) = some (.type "type")) (h3 : PySem.W.subIn K (.ref D) (.ref C) = some true) : PySem.W.kitOne K (.ref D) (.ref C) = some true := by
  unfold PySem.W.kitOne
  split
  · rfl
  · unfold PySem.W.kitCls
    have h1 : (PySem.W.clsIn K C).isSome = true := h1
    dsimp only
    rw [if_pos (by rw [h1, h2]; rfl)]
    exact h3
theorem kit_refN {K : PySem.W.Frag} {D C : Addr} (h1 : PySem.W.isClsIn K C = true) (h2 : PySem.W.typeIn K (.ref C) = some (.type "type")) (h3 : PySem.W.subIn K (.ref D) (.ref C) = some false) (h4 : (Value.ref D == Value.ref C) = false) : PySem.W.kitOne K (.ref D) (.ref C) = some false := by
  unfold PySem.W.kitOne
  rw [if_neg (by rw [h4]; exact Bool.false_ne_true)]
  unfold PySem.W.kitCls
  have h1 : (PySem.W.clsIn K C).isSome = true := h1
  dsimp only
  rw [if_pos (by rw [h1, h2]; rfl)]
  exact h3
theorem kit_VE {K : PySem.W.Frag} {D : Addr} {b : Bool} (h3 : PySem.W.subIn K (.ref D) (.type "ValueError") = some b) : PySem.W.kitOne K (.ref D) (.type "ValueError") = some b := by
  unfold PySem.W.kitOne
  rw [if_neg (fun h => by have := beq_iff_eq.mp h; cases this)]
  unfold PySem.W.kitCls
  dsimp only
  rw [if_pos (show PySem.W.kitMeta "ValueError" = true by decide +kernel)]
  exact h3
theorem kany_cons {K : PySem.W.Frag} {t c : Value} {cs : List Value} (h : PySem.W.kitOne K t c = some false) (hr : PySem.W.kitAny K t cs = some false) : PySem.W.kitAny K t (c :: cs) = some false := kitAny_cons h (fun _ => hr) (fun z => nomatch z)
end DX
namespace DX
open PySem PySem.Spec PyProof.Rows L2
open DEnc (encD)
def optV : Option Int → V
  | none => .non
  | some i => .int i
instance : Sc (Option Int) := ⟨optV⟩
def optD : Option Int → PyData
  | none => .none
  | some i => .int i
instance : DEnc (Option Int) := ⟨optD, fun {K H v x} h => by
  have h : v = optV x := h
  subst h
  cases x with
  | none => exact .non
  | some i => exact .int i⟩
instance : DInj (Option Int) := ⟨fun x y => by
  show same (optD x) (optD y) = true ↔ _
  cases x <;> cases y <;> simp [optD, same]⟩
section
variable {X : Cx} {Γ : List Sl} {e a b c : Expr} {es : List Expr} {s : Sl} {ss : List Sl} {pos p p1 p2 p3 apos cpos : Pos}
theorem px_some {i : Int} (h : PX X Γ e (.is i)) : PX X Γ e (.is (some i : Option Int)) := ⟨fun B ρ σ H h' Q q => h.run B ρ σ H h' _ fun v H1 e1 h1 => q v H1 e1 (by
  have ev := h1.topSc
  rw [ev]
  exact h1.pop.pushSc (some i : Option Int))⟩
theorem px_noneO (h : PX X Γ e (.is ())) : PX X Γ e (.is (none : Option Int)) := ⟨fun B ρ σ H h' Q q => h.run B ρ σ H h' _ fun v H1 e1 h1 => q v H1 e1 (by
  have ev := h1.topSc
  rw [ev]
  exact h1.pop.pushSc (none : Option Int))⟩
theorem px_un {o : Option Int} (h : PX X Γ e (.is o)) (hs : o.isNone = false) : PX X Γ e (.is (o.getD 0)) := by
  cases o with
  | none => cases hs
  | some i => exact ⟨fun B ρ σ H h' Q q => h.run B ρ σ H h' _ fun v H1 e1 h1 => q v H1 e1 (by
      have ev := h1.topSc
      rw [ev]
      exact h1.pop.pushSc i)⟩
theorem tx_list {α : Type} [Enc α] {xs : List α} (lk : Lk s xs) (ha : PX X Γ a s) (he : ∀ whole, isTrue a X.env whole = (do let v ← whole; standAt a.pos; holding [v] (truthy v)) := by intro _; rfl) : TX X Γ a (!xs.isEmpty) :=
  ⟨fun B ρ σ H h Q q => goT (pt_truth peW he) (ha.run B ρ σ H h _ fun v H1 e1 h1 => by
    obtain ⟨l, Hd, z1, z2, z3, z4, z5, z6⟩ := id h1
    obtain ⟨a', vs, g1, g2, g3⟩ := lk.ok z2 (z5 _ List.mem_cons_self)
    injection g1 with g1
    subst g1
    refine ⟨!vs.isEmpty, .inl ⟨vs, SqL.of g2, rfl⟩, ?_⟩
    have : vs.isEmpty = xs.isEmpty := by
      have := paired_len g3
      cases vs <;> cases xs <;> simp_all
    rw [this]
    exact q H1 e1 h1.pop)⟩
theorem px_tupleof {α : Type} [Enc α] {xs : List α} (lk : Lk s xs) (hm : X.mg "tuple" = none) (ha : PX X Γ a s) (hg : Gl X "tuple" := by rfl) (he : starEach [a] X.env = (false, eval a X.env) :: starEach [] X.env := by rfl) :
    PX X Γ (.Call (.Name "tuple" p) [a] [] pos) (.is (Tup.mk xs)) :=
  ⟨fun B ρ σ H h Q q => goE (pe_callTy call_tuple_of hg hm (by decide +kernel) (pa_cons peW pa_nil he) (by decide) (by decide) he rfl) (ha.run B ρ σ H h _ fun v H1 e1 h1 => by
    obtain ⟨l, Hd, z1, z2, z3, z4, z5, z6⟩ := id h1
    obtain ⟨a', vs, g1, g2, g3⟩ := lk.ok z2 (z5 _ List.mem_cons_self)
    injection g1 with g1
    subst g1
    refine ⟨a', vs, rfl, .inl ⟨SqL.of g2, fun t ht => q _ _ (e1.trans (Ex.new ht)) ?_⟩⟩
    refine (HasE.newIs (x := Tup.mk xs) h1 ht fun Hd' ed hn ok => ?_).pop2
    obtain ⟨a2, vs2, k1, k2, k3⟩ := lk.ok ed (ok _ List.mem_cons_self)
    injection k1 with k1
    injection k1 with k1
    subst k1
    rw [g2] at k2
    injection k2 with k2
    injection k2 with k2
    subst k2
    exact ⟨t, vs, rfl, SqT.of upd_same, PairedMono (Ex.new hn) k3⟩)⟩
end
inductive Phr where
  | put (c : List Nat)
  | copy (s l : Int)
abbrev tPut : List Nat := [112, 117, 116]
abbrev tCopy : List Nat := [99, 111, 112, 121]
def Phr.tag : Phr → List Nat
  | .put _ => tPut
  | .copy _ _ => tCopy
def Phr.let : Phr → List Nat
  | .put c => c
  | .copy _ _ => []
def Phr.start : Phr → Int
  | .put _ => 0
  | .copy s _ => s
def Phr.len : Phr → Int
  | .put _ => 0
  | .copy _ l => l
instance : Inhabited Phr := ⟨.put []⟩
def Phr.reps : Phr → List V
  | .put c => [.str (mkS tPut), .str (mkS c)]
  | .copy s l => [.str (mkS tCopy), .int s, .int l]
instance encPhr : Enc Phr where
  rep := fun K H v x => ∃ a, v = .ref a ∧ SqT K H a x.reps
  mono := fun e ⟨a, h1, h2⟩ => ⟨a, h1, ext e h2⟩
instance : DEnc Phr := ⟨fun x => match x with
  | .put c => .tuple [.str (mkS tPut), .str (mkS c)]
  | .copy s l => .tuple [.str (mkS tCopy), .int s, .int l], fun {K H v x} ⟨a, h1, h2⟩ => by
  subst h1
  cases x with
  | put c => exact .tup h2 (.cons (.str _) (.cons (.str _) .nil))
  | copy s l => exact .tup h2 (.cons (.str _) (.cons (.int _) (.cons (.int _) .nil)))⟩
theorem same_str (x y : List Nat) : same (.str (mkS x)) (.str (mkS y)) = decide (x = y) := by
  have h : same (encD x) (encD y) = true ↔ x = y := DInj.inj x y
  by_cases e : x = y
  · rw [decide_eq_true e]; exact h.mpr e
  · rw [decide_eq_false e]
    cases q : same (.str (mkS x)) (.str (mkS y)) with
    | false => rfl
    | true => exact absurd (h.mp q) e
theorem same_int (x y : Int) : same (.int x) (.int y) = decide (x = y) := by
  have h : same (encD x) (encD y) = true ↔ x = y := DInj.inj x y
  by_cases e : x = y
  · rw [decide_eq_true e]; exact h.mpr e
  · rw [decide_eq_false e]
    cases q : same (.int x) (.int y) with
    | false => rfl
    | true => exact absurd (h.mp q) e
instance : DInj Phr := ⟨fun x y => by
  cases x with
  | put c =>
    cases y with
    | put d =>
      show same (.tuple [.str (mkS tPut), .str (mkS c)]) (.tuple [.str (mkS tPut), .str (mkS d)]) = true ↔ _
      unfold same
      simp only [sameAll, same_str, Bool.and_true, Bool.and_eq_true_iff]
      simp
    | copy s l =>
      show same (.tuple [.str (mkS tPut), .str (mkS c)]) (.tuple [.str (mkS tCopy), .int s, .int l]) = true ↔ _
      unfold same
      simp only [sameAll, same_str]
      simp
  | copy s l =>
    cases y with
    | put d =>
      show same (.tuple [.str (mkS tCopy), .int s, .int l]) (.tuple [.str (mkS tPut), .str (mkS d)]) = true ↔ _
      unfold same
      simp only [sameAll, same_str]
      simp
    | copy t m =>
      show same (.tuple [.str (mkS tCopy), .int s, .int l]) (.tuple [.str (mkS tCopy), .int t, .int m]) = true ↔ _
      unfold same
      simp only [sameAll, same_str, same_int, Bool.and_true, Bool.and_eq_true_iff]
      simp⟩
end DX
namespace DX
open PySem PySem.Spec PyProof.Rows L2
open DEnc (encD)
section
variable {X : Cx} {M : Type} {L : Leaf M} {Γ Γ' : List Sl} {k : List (List Stmt)} {m : M} {st : Stmt} {sts : List Stmt} {e a b c tg iter : Expr} {es : List Expr} {pos p p' p2 apos cpos tpos : Pos} {s : Sl}
theorem lastIx {α : Type} [Inhabited α] {xs : List α} (h : 0 < xs.length) : xs[xs.length - 1]? = some (ix xs (-1)) := by
  have e := ix_ok (xs := xs) (i := -1) ⟨by omega, by omega⟩
  unfold atI ixN at e
  rw [if_neg (by decide), if_pos (by omega)] at e
  have e2 : ((-1 : Int) + (xs.length : Int)).toNat = xs.length - 1 := by omega
  have e : xs[((-1 : Int) + (xs.length : Int)).toNat]? = some (ix xs (-1)) := e
  rw [e2] at e
  exact e
theorem paired_dropLast {α β : Type} {F : α → β → Prop} : ∀ {l : List α} {m : List β}, Paired F l m → Paired F l.dropLast m.dropLast
  | _, _, .nil => .nil
  | _, _, .cons r .nil => .nil
  | _, _, .cons r (.cons q t) => .cons r (paired_dropLast (.cons q t))
/-- y2 = y.pop(), y one's own list -/
theorem sx_pop {α : Type} [Enc α] [Inhabited α] {xs : List α} {y y2 : Str} {mm : List α → α → M} (i j : Nat) (g : Γ[i]? = some (.own xs)) (hz : 0 < xs.length) (hr : ∀ x v, x = xs.dropLast → v = ix xs (-1) → SX X L ((Γ.set i (.own x)).set j (.is v)) (sts :: k) (mm x v)) (hN : X.N.Nodup) (hbo : Γ.any bors = false := by rfl)
    (hi : X.N[i]? = some y := by rfl) (hj : X.N[j]? = some y2 := by rfl) (hv : Vis X.env.scope y := by first | exact Or.inl rfl | exact Or.inr (Or.inl rfl) | exact Or.inr (Or.inr rfl)) (hx : Loc X.env.scope y2 := by first | exact Or.inl rfl | exact Or.inr rfl)
    (hd : (y == ("__debug__" : Str)) = false := by decide) (hcd : (y == ("__classdict__" : Str)) = false := by decide)
    (hbase : attributeBase (.Name y p) "pop" X.env (eval (.Name y p) X.env) = eval (.Name y p) X.env := by rfl) (hline : (apos.endLine == cpos.line) = true := by rfl)
    (hs : swapsWith (.Call (.Attribute (.Name y p) "pop" apos) [] [] cpos) (some (.Name y2 p')) pos.line X.env = pure false := by rfl) (hf : X.fn y2 = true ∨ X.env.scope.names.lookup y2 = some .local := by first | exact .inl rfl | exact .inr rfl) :
    SX X L Γ ((.Assign [.Name y2 p'] (.Call (.Attribute (.Name y p) "pop" apos) [] [] cpos) pos :: sts) :: k) (lt xs.dropLast fun x => lt (ix xs (-1)) fun v => mm x v) :=
  ⟨fun B ρ σ H D hb h l => wC_cons (go1 (ps_set hN hj hx (pe_bm0 PySem.F.plainAttrs_list PySem.F.slot_list_pop PySem.F.type_list_pop mt_pop (pe_var hi hv hd hcd) hbase hline) hs hf) (by
    obtain ⟨o, ho, hm⟩ := zip_get h.len g
    have h1 := h.takeOut g ho
    obtain ⟨a, vs, g1, g2, g3, g4⟩ := HasE.topL (.own xs) h1
    subst g1
    obtain ⟨v, f1, f2⟩ := g4 (xs.length - 1) (ix xs (-1)) (lastIx hz)
    have f1' : vs[vs.length - 1]? = some v := by rw [g3]; exact f1
    refine ⟨.ref a, ho, .inl ⟨rfl, vs, SqL.of g2⟩, a, vs, v, rfl, rfl, g2, f1', ?_⟩
    have h3 := HasE.mut (vs := vs) (vs' := vs.dropLast) (xs' := xs.dropLast) f2.swap (fun q hq lq => by
      rcases List.mem_append.mp hq with z | z
      · rcases List.mem_cons.mp z with z | z
        · rw [z] at lq; exact lq
        · exact no_lends (σ := σ) (Γ := Γ) hb hbo q (List.mem_append_left _ z) lq
      · exact no_lends (σ := σ) (Γ := Γ.set i .no) hb (bors_set hbo) q (List.mem_append_right _ z) lq) (fun Hd' ed ok own => paired_dropLast (own vs g2))
    have h4 := HasE.set i h3
    rw [set_same ho, set_set_sl] at h4
    exact (hr _ _ rfl rfl).run B ρ _ _ D hb (HasE.set j h4) l))⟩
structure GX (X : Cx) (tg : Expr) {α : Type} [Enc α] (put : List Sl → α → List Sl) : Prop where
  ex : ∃ g : TG, PG X tg g ∧ ∀ (B : Hp × Hp) (ρ : List Slot) (σ : L2.St) (H : Hp) (Γ : List Sl) (v : V) (x : α), HasE X.K B H ((some v, .is x) :: ρ) σ Γ → ∀ Q : L2.St → Hp → Prop, (∀ σ', HasE X.K B H ρ σ' (put Γ x) → Q σ' H) → g v σ H Q
theorem gx_name {α : Type} [Enc α] {y : Str} (j : Nat) (hN : X.N.Nodup) (hi : X.N[j]? = some y := by rfl) (hx : Loc X.env.scope y := by first | exact Or.inl rfl | exact Or.inr rfl) (hf : X.fn y = true ∨ X.env.scope.names.lookup y = some .local := by first | exact .inl rfl | exact .inr rfl) : GX X (.Name y pos) (fun Γ (x : α) => Γ.set j (.is x)) :=
  ⟨gName j, pg_name hN hi hx hf, fun B ρ σ H Γ v x h Q q => q _ (HasE.set j h)⟩
theorem gx_pair {α β : Type} [Enc α] [Enc β] {t1 t2 : Expr} {kk : Nat} {put1 : List Sl → α → List Sl} {put2 : List Sl → β → List Sl} (h1 : GX X t1 put1) (h2 : GX X t2 put2) (hc : X.calm = true := by rfl)
    (hn : (assignEach [t1, t2] X.env).length = 2 := by rfl) (hst : (assignEach [t1, t2] X.env).findIdx? (·.1) = none := by rfl)
    (hs1 : (assignEach [t1, t2] X.env).map (·.2) = assign t1 X.env :: (assignEach [t2] X.env).map (·.2) := by rfl) (hs2 : (assignEach [t2] X.env).map (·.2) = assign t2 X.env :: (assignEach [] X.env).map (·.2) := by rfl) :
    GX X (.Tuple [t1, t2] kk pos) (fun Γ (x : α × β) => put2 (put1 Γ x.1) x.2) := by
  obtain ⟨g1, p1, k1⟩ := h1.ex
  obtain ⟨g2, p2, k2⟩ := h2.ex
  refine ⟨gTup X.K 2 (gCons g1 (gCons g2 gNil)), pg_tup hc (pgs_cons p1 (pgs_cons p2 pgs_nil hs2) hs1) hn hst, fun B ρ σ H Γ v x h Q q => ?_⟩
  obtain ⟨l, Hd, z1, z2, z3, z4, z5, z6⟩ := id h
  obtain ⟨w, f1, t, v1, v2, f2, f3, f4, f5⟩ := z5 _ List.mem_cons_self
  have f1 : some v = some w := f1
  injection f1 with f1
  subst f1 f2
  refine ⟨t, [v1, v2], rfl, ext z2 f3, rfl, v1, [v2], rfl, ?_⟩
  have hh : HasE X.K B H ((some v1, .is x.1) :: (some v2, .is x.2) :: ρ) σ Γ := by
    have z7 := List.pairwise_cons.mp z6
    refine ⟨l, Hd, z1, z2, z3, z4, fun p hp => ?_, List.pairwise_cons.mpr ⟨fun q _ => apart_is q, List.pairwise_cons.mpr ⟨fun q _ => apart_is q, z7.2⟩⟩⟩
    rcases List.mem_cons.mp hp with z | z
    · rw [z]; exact ⟨v1, rfl, f4⟩
    · rcases List.mem_cons.mp z with z | z
      · rw [z]; exact ⟨v2, rfl, f5⟩
      · exact z5 p (List.mem_cons_of_mem _ z)
  refine k1 B _ σ H Γ v1 x.1 hh _ fun σ1 hh1 => ?_
  refine ⟨v2, [], rfl, ?_⟩
  refine k2 B ρ σ1 H _ v2 x.2 hh1 _ fun σ2 hh2 => ?_
  exact ⟨rfl, q σ2 hh2⟩
/-- a for that may be left, any target -/
theorem sx_forGT {S R α : Type} [Enc α] {xs : List α} {P : Prop} {body : List Stmt} {mm : S → M} {mr : R → M} {L0 : Leaf R} (put : List Sl → α → List Sl) (Γf : S → List Sl) (step : S → α → Out S R) (s0 : S) (I : Nat → S → Prop) (hi : IX X Γ tg iter xs P) (hg : GX X tg put) (hst : Wk Γ (Γf s0)) (h0 : I 0 s0)
    (hbd : ∀ (i : Nat) (s : S) (x : α), xs[i]? = some x → I i s → SX X (LOutG X.K Γf L0) (put (Γf s) x) [body] (step s x))
    (hI : ∀ (i : Nat) (s : S) (x : α) (s' : S), xs[i]? = some x → I i s → step s x = .go s' → I (i + 1) s')
    (hret : Rts L L0 mr) (hrest : ∀ s, (forO step s0 xs = .go s ∧ I xs.length s ∨ forO step s0 xs = .brk s) → SX X L (Γf s) (sts :: k) (mm s))
    (hc : X.calm = true := by rfl) (hp : PassesOwn (model X.prog X.w) X.A X.env X.xe := by first | exact PassesOwn.never | exact PassesOwn.leaving) (hs : ∀ x, foldedSetIterable iter X.env x = pure x := by intro _; rfl) : SX X L Γ ((.For tg iter body [] pos :: sts) :: k) (forK step s0 xs mm mr) := by
  obtain ⟨g, pg, kg⟩ := hg.ex
  refine ⟨fun B ρ σ H D hb h l => wC_cons (go1 (ps_for hp hc piW pg pssW hs) ?_)⟩
  refine hi.run B ρ σ H h _ fun J H1 τ hP e1 hbt h1 hgo hstop => ?_
  have unτ : ∀ {τ : List Slot} {H' : Hp} {σ' : L2.St} {Γ' : List Sl}, HasE X.K B H' (τ ++ ρ) σ' Γ' → HasE X.K B H' ρ σ' Γ' := by
    intro τ
    induction τ with
    | nil => exact fun h => h
    | cons t τ ih => exact fun h => ih h.pop
  have hbρ : ∀ p ∈ τ ++ ρ, noBor p := fun p hp => (List.mem_append.mp hp).elim (hbt p) (hb p)
  refine ⟨fun i mm' σ' H' => mm' = xs.length - i ∧ i ≤ xs.length ∧ ∃ s, I i s ∧ forO step s0 xs = forO step s (xs.drop i) ∧ HasE X.K B H' (τ ++ ρ) σ' (Γf s), ⟨xs.length, by simp, Nat.zero_le _, s0, h0, rfl, h1.weak hst⟩, ?_⟩
  rintro i mm' σ' H' ⟨rfl, hin, s, hIs, hf, hh⟩
  by_cases hlt : i < xs.length
  · have hx : xs[i]? = some xs[i] := List.getElem?_eq_getElem hlt
    obtain ⟨g1, g2⟩ := hgo [] σ' (Γf s) H' i xs[i] hh hx
    rw [List.drop_eq_getElem_cons hlt] at hf
    refine .inr ⟨g1, fun σ2 H2 => ∃ s', I (i + 1) s' ∧ forO step s0 xs = forO step s' (xs.drop (i + 1)) ∧ HasE X.K B H2 (τ ++ ρ) σ2 (Γf s'), fun σ2 H2 ⟨s', a1, a2, a3⟩ => ⟨xs.length - (i + 1), by omega, rfl, hlt, s', a1, a2, a3⟩, fun v H2 y => ?_⟩
    obtain ⟨e3, k3⟩ := g2 v H2 y
    have hf' : forO step s0 xs = (match step s xs[i] with
      | .go s' => forO step s' (xs.drop (i + 1))
      | .brk s' => .brk s'
      | .ret r => .ret r) := hf
    refine kg B (τ ++ ρ) σ' H2 _ v xs[i] k3 _ fun σ3 k4 => ?_
    refine (hbd i s xs[i] hx hIs).run B (τ ++ ρ) _ H2 { D with nx := fun σ2 H2 => ∃ s', I (i + 1) s' ∧ forO step s0 xs = forO step s' (xs.drop (i + 1)) ∧ HasE X.K B H2 (τ ++ ρ) σ2 (Γf s'), ct := fun σ2 H2 => ∃ s', I (i + 1) s' ∧ forO step s0 xs = forO step s' (xs.drop (i + 1)) ∧ HasE X.K B H2 (τ ++ ρ) σ2 (Γf s'), bk := fun σ' H' => wC X (sts :: k) D σ' H' } hbρ k4 ?_
    cases q : step s xs[i] with
    | go s' =>
      rw [q] at hf'
      have hI' := hI i s xs[i] s' hx hIs q
      exact ⟨fun σ3 H3 h3 => ⟨s', hI', hf', h3⟩, fun σ3 H3 h3 => ⟨s', hI', hf', h3⟩⟩
    | brk s' =>
      rw [q] at hf'
      intro σ3 H3 h3
      refine (hrest s' (.inr hf')).run B ρ σ3 H3 D hb (unτ h3) ?_
      unfold forK at l
      rw [hf'] at l
      exact l
    | ret r =>
      rw [q] at hf'
      unfold forK at l
      rw [hf'] at l
      exact hret B r D _ ρ _ rfl l
  · have e : i = xs.length := by omega
    subst e
    rw [List.drop_length] at hf
    have hf' : forO step s0 xs = .go s := hf
    refine .inl ⟨hstop [] σ' (Γf s) H' hh, (hrest s (.inl ⟨hf', hIs⟩)).run B ρ σ' H' D hb (unτ hh) ?_⟩
    unfold forK at l
    rw [hf'] at l
    exact l
def enumI {α : Type} (xs : List α) : List (Int × α) := (List.range xs.length).zipWith (fun (i : Nat) x => ((i : Int), x)) xs
theorem enumI_get {α : Type} {xs : List α} {i : Nat} {p : Int × α} (h : (enumI xs)[i]? = some p) : p.1 = (i : Int) ∧ xs[i]? = some p.2 := by
  unfold enumI at h
  rw [List.getElem?_zipWith] at h
  cases q : xs[i]? with
  | none => rw [q] at h; split at h <;> simp_all
  | some x =>
    have hl := (List.getElem?_eq_some_iff.mp q).1
    rw [q, List.getElem?_range hl] at h
    have h : some ((i : Int), x) = some p := h
    injection h with h
    subst h
    exact ⟨rfl, rfl⟩
theorem enumI_length {α : Type} (xs : List α) : (enumI xs).length = xs.length := by
  unfold enumI
  simp
theorem it_enum {α : Type} [Enc α] {xs : List α} {elts : List Expr} {kk : Nat} (hm : X.mg "enumerate" = none) (h : PX X Γ a (@Sl.is (List α) encList xs)) (hg : Gl X "enumerate" := by rfl) (hs : starEach [a] X.env = [(false, eval a X.env)] := by rfl) :
    IX X Γ (.Tuple elts kk tpos) (.Call (.Name "enumerate" p) [a] [] pos) (enumI xs) True := ⟨fun B ρ σ H h' R q => goI (pi_enum hg hm (pa_cons peW pa_nil hs) hs) (h.run B ρ σ H h' _ fun v H1 e1 h1 => by
  obtain ⟨a', vs, g1, g2, g3, _⟩ := HasE.topL (.is xs) h1
  injection g1 with g1
  subst g1
  refine ⟨a', vs, rfl, SqL.of g2, q (Ite X.K a') H1 [(some (.ref a'), .is xs)] trivial e1 (fun p hp => by rw [List.mem_singleton.mp hp]; trivial) h1 ?_ ?_⟩
  · intro ρ' σ' Γ' H' i x k hx
    obtain ⟨hx1, hx2⟩ := enumI_get hx
    obtain ⟨Hd, ed, ok⟩ := HasE.midS (τ := []) k
    obtain ⟨b', ws, m1, m2, m3⟩ := (Lk.is xs).ok ed ok
    injection m1 with m1
    injection m1 with m1
    subst m1
    obtain ⟨u, n1, n2⟩ := paired_get m3 hx2
    refine ⟨⟨ws, u, SqL.of m2, n1⟩, fun v H'' y => ?_⟩
    obtain ⟨T, z, y1, y2, y3, y4⟩ := y
    subst y1 y3
    have ev : ws[i]? = some z := y4 ws (SqL.of m2)
    refine ⟨Ex.new y2, ?_⟩
    refine HasE.newIs (x := x) k y2 fun Hd2 ed2 hn2 ok2 => ?_
    obtain ⟨b2, ws2, m1', m2', m3'⟩ := (Lk.is xs).ok ed2 (ok2 (some (.ref a'), .is xs) (List.mem_append_left _ (List.mem_append_right _ List.mem_cons_self)))
    injection m1' with m1'
    injection m1' with m1'
    subst m1'
    rw [m2] at m2'
    injection m2' with m2'
    injection m2' with m2'
    subst m2'
    obtain ⟨u2, n1', n2'⟩ := paired_get m3' hx2
    rw [ev] at n1'
    injection n1' with n1'
    subst n1'
    exact ⟨T, .int (i : Nat), z, rfl, SqT.of upd_same, by show V.int _ = V.int _; rw [hx1], Enc.mono (Ex.new hn2) n2'⟩
  · intro ρ' σ' Γ' H' k
    obtain ⟨Hd, ed, ok⟩ := HasE.midS (τ := []) k
    obtain ⟨b', ws, m1, m2, m3⟩ := (Lk.is xs).ok ed ok
    injection m1 with m1
    injection m1 with m1
    subst m1
    exact ⟨ws, SqL.of m2, by rw [paired_len m3, enumI_length]; exact Nat.le_refl _⟩)⟩
end
end DX
namespace DX
open PySem PySem.Spec PyProof.Rows L2
open DEnc (encD)
/-- the class of that name -/
abbrev ClsAt (K : PySem.W.Frag) (x : Str) (C : Addr) : Prop := PySem.W.nsIn K mainGlobals x = some (some (.ref C))
theorem clsAt_eq {K : PySem.W.Frag} {x : Str} {C D : Addr} (h : ClsAt K x C) (g : ClsAt K x D) : C = D := by
  have : some (some (Value.ref C)) = some (some (Value.ref D)) := h.symm.trans g
  injection this with this
  injection this with this
  injection this
/-- values that are objects of one class with these attributes -/
class Ob (α : Type) [Enc α] where
  cls : Str
  fields : List Str
  get : ∀ {K : PySem.W.Frag} {H : Hp} {v : V} {x : α}, Enc.rep K H v x → ∃ a C dx fs, v = .ref a ∧ ClsAt K cls C ∧ H a = some (.ins C dx fs) ∧ fs.map (·.1) = fields
theorem lookup_none {m : Str} : ∀ {fs : List (Str × V)}, (fs.map (·.1)).contains m = false → fs.lookup m = none
  | [], _ => rfl
  | (g, v) :: r, h => by
    rw [List.map_cons, List.contains_cons, Bool.or_eq_false_iff] at h
    unfold List.lookup
    rw [h.1]
    exact lookup_none h.2
structure MethOk (P : Program) (w : World) (K : PySem.W.Frag) (mg : Str → Option Value) (base : Heap) (k : Nat) (cls m : Str) (n : Nat) (sp : Sp) : Prop where
  ex : ∃ (C f : Addr) (fd : FuncData) (ps : List Str), ClsAt K cls C ∧ Cls K C ∧ Meth K C m f ∧ FnOk P w K mg base CX0 k f fd ps sp ∧ Binds K fd ps [] ∧ ps.length = n
section
variable {X : Cx} {Γ : List Sl} {e a b c o : Expr} {es : List Expr} {s : Sl} {ss : List Sl} {pos p p1 p2 p3 apos cpos : Pos}
theorem px_attr {α β : Type} [Enc α] [Enc β] {x : α} {y : β} {f cls : Str} {C : Addr} (hC : ClsAt X.K cls C) (c : Cls X.K C) (n : NoAttr X.K C f)
    (get : ∀ (Hd : Hp) (v : V), Enc.rep X.K Hd v x → ∃ a C' dx fs u, v = .ref a ∧ ClsAt X.K cls C' ∧ Hd a = some (.ins C' dx fs) ∧ fs.lookup f = some u ∧ Enc.rep X.K Hd u y) (ha : PX X Γ a (.is x)) (hb : attributeBase a f X.env (eval a X.env) = eval a X.env := by rfl) : PX X Γ (.Attribute a f pos) (.is y) :=
  ⟨fun B ρ σ H h Q q => goE (pe_fld peW hb) (ha.run B ρ σ H h _ fun v H1 e1 h1 => by
    obtain ⟨l, Hd, z1, z2, z3, z4, z5, z6⟩ := id h1
    obtain ⟨w, f1, f2⟩ := z5 _ List.mem_cons_self
    have f1 : some v = some w := f1
    injection f1 with f1
    subst f1
    obtain ⟨a', C', dx, fs, u, g1, g2, g3, g4, g5⟩ := get Hd v f2
    subst g1
    have := clsAt_eq hC g2
    subst this
    refine ⟨a', C, dx, fs, u, rfl, z2 _ _ g3, c, n, g4, q u H1 e1 ?_⟩
    exact HasE.pop2 ⟨l, Hd, z1, z2, z3, z4, fun r hr => (List.mem_cons.mp hr).elim (fun z => by rw [z]; exact ⟨u, rfl, g5⟩) (z5 r), List.pairwise_cons.mpr ⟨fun r _ => apart_is r, z6⟩⟩)⟩
/-- back from a call: what it gives back stands on top -/
theorem back {K : PySem.W.Frag} {B : Hp × Hp} {H1 H' Hd Hd' : Hp} {ρ : List Slot} {σ : L2.St} {v : V} {s0 : Sl} (zl : σ.length = Γ.length) (z1 : ExT K B.1 Hd) (z3 : Ex B.2 H1) (z4 : ∀ a, B.1 a = none → B.2 a ≠ none → Hd a = none) (z5 : ∀ p ∈ ρ ++ σ.zip Γ, SlotOk K B.2 Hd H1 p.1 p.2) (z6 : (ρ ++ σ.zip Γ).Pairwise apart)
    (f1 : Ex Hd Hd') (f2 : Ex Hd' H') (f3 : Ex H1 H') (f4 : ∀ a, Hd a = none → H1 a ≠ none → Hd' a = none) (f5 : ResOk K H1 Hd' H' (some v) s0) : HasE K B H' ((some v, s0) :: ρ) σ Γ := by
  refine ⟨zl, Hd', z1.trans f1, f2, z3.trans f3, fun a' b1 b2 => f4 a' (z4 a' b1 b2) fun c => b2 (z3.back c), fun r hr => ?_, ?_⟩
  · rcases List.mem_cons.mp hr with c | c
    · rw [c]
      show SlotOk K B.2 Hd' H' (some v) s0
      cases s0 with
      | no => trivial
      | is y => exact f5.1
      | bor y => exact f5.1
      | arg y => exact f5.2.elim
      | ownA c y => exact f5.2.elim
      | gen fp Φ => exact f5.2.elim
      | own y =>
        obtain ⟨a', ws, g1, g2, g3, g4, g5⟩ := f5.1
        exact ⟨a', ws, g1, z3.back g2, g3, g4, g5⟩
    · exact (z5 r c).mono f1 f3 fun a' b1 b2 => f4 a' b2 b1
  · refine List.pairwise_cons.mpr ⟨fun r hr a' o1 o2 => ?_, z6⟩
    cases s0 with
    | no => exact o1.elim
    | is y => exact o1.elim
    | bor y => exact o1.elim
    | arg y => exact o1.elim
    | ownA c y => exact f5.2.elim
    | gen fp Φ => exact f5.2.elim
    | own y =>
      obtain ⟨b', ws, g1, g2, g3, g4, g5⟩ := f5.1
      have o1 : some v = some (V.ref a') := o1
      have g1 : some v = some (V.ref b') := g1
      rw [o1] at g1
      injection g1 with g1
      injection g1 with g1
      subst g1
      exact owns_ne (z5 r hr) o2 g2 rfl
theorem px_meth0 {ι α : Type} [Enc α] [Ob α] {x : α} {k : Nat} {m : Str} {pre : ι → Prop} {args : ι → List Sl} {res : ι → Sl} {pl : Sem Bool} (F : MethOk X.prog X.w X.K X.mg X.base k (Ob.cls α) m 1 (spD X.K pre args res)) (i : ι) (hp : pre i) (hr : Room k X.A) (hai : args i = [.is x]) (ho : PX X Γ o (.is x)) (hm : (Ob.fields α).contains m = false := by decide)
    (hx : Passes CX0 X E0 := by exact pass0) (ht : eval (.Call (.Attribute o m apos) [] [] pos) X.env = (do
      let ov ← eval o X.env
      standAt apos.atName
      let (f, first) ← holding [ov] (getMethod ov m pl)
      callWith pos f first (backTo pos (starEach [] X.env)) (backToKw pos (keywordEach [] X.env))) := by rfl) {s0 : Sl} (hs0 : res i = s0 := by rfl) : PX X Γ (.Call (.Attribute o m apos) [] [] pos) s0 := by
  subst hs0
  obtain ⟨C, f, fd, ps, hC, c, hme, F, hb, _⟩ := F.ex
  refine ⟨fun B ρ σ H h Q q => goE (pe_meth0 peW c hme F hr hb .nil hx ht) (ho.run B ρ σ H h _ fun v H1 e1 h1 => ?_)⟩
  obtain ⟨zl, Hd, z1, z2, z3, z4, z5, z6⟩ := id h1
  obtain ⟨w, f1, f2⟩ := z5 _ List.mem_cons_self
  have f1 : some v = some w := f1
  injection f1 with f1
  subst f1
  obtain ⟨a', C', dx, fs, g1, g2, g3, g4⟩ := Ob.get f2
  subst g1
  have := clsAt_eq hC g2
  subst this
  refine ⟨a', dx, fs, rfl, z2 _ _ g3, lookup_none (by rw [g4]; exact hm), Hd, i, ⟨z2, z1.tab⟩, hp, by rw [hai]; rfl, fun r hr => ?_, fun v' H' Hd' k1 k2 k3 k4 k5 => q v' H' (e1.trans k3) ?_⟩
  · rw [hai] at hr
    rw [List.mem_singleton.mp hr]
    exact ⟨⟨_, rfl, f2⟩, fun q => apart_is q⟩
  · exact HasE.pop2 (back zl z1 z3 z4 z5 z6 k1 k2 k3 k4 k5)
end
section
variable {X : Cx} {Γ : List Sl} {e : Expr} {k : List (List Stmt)} {sts : List Stmt} {D : Ends} {σ : L2.St} {H H0 Hd HB : Hp} {x dx C : Addr} {fs : List (Str × V)} {pos p p' : Pos}
theorem init_expr {s : Sl} (he : PX X Γ e s) (h : HasE X.K (Hd, HB) H [] σ Γ) (cont : ∀ H1, Ex H H1 → HasE X.K (Hd, HB) H1 [] σ Γ → wC X (sts :: k) D σ H1) (hs : swapsWith e none pos.line X.env = pure false := by rfl) : wC X ((.Expr e pos :: sts) :: k) D σ H :=
  wC_cons (go1 (ps_expr peW hs) (he.run (Hd, HB) [] σ H h _ fun v H1 e1 h1 => cont H1 e1 h1.pop))
end
structure CopD where
  ph : List Phr
  len : Int
instance encCop : Enc CopD where
  rep := fun K H v x => ∃ a C dx vp, v = .ref a ∧ ClsAt K "Copies" C ∧ H a = some (.ins C dx [("phrases", vp), ("_length", .int x.len)]) ∧ Enc.rep K H vp (Tup.mk x.ph)
  mono := fun e ⟨a, C, dx, vp, h1, h2, h3, h4⟩ => ⟨a, C, dx, vp, h1, h2, e _ _ h3, Enc.mono e h4⟩
instance : Ob CopD := ⟨"Copies", ["phrases", "_length"], fun ⟨a, C, dx, vp, h1, h2, h3, h4⟩ => ⟨a, C, dx, _, h1, h2, h3, rfl⟩⟩
end DX
namespace DX
open PySem PySem.Spec PyProof.Rows L2
open DEnc (encD)
instance {α : Type} : Inhabited (Tup α) := ⟨⟨[]⟩⟩
/-- data whose == is that of the values -/
class QEnc (α : Type) [Enc α] [DEnc α] [DecidableEq α] where
  eqv : ∀ x y : α, PyData.eqv (encD x) (encD y) = decide (x = y)
  dep : Nat
  dle : ∀ x : α, (encD x).depth ≤ dep
  lay : α → Prop
  ok : ∀ x : α, lay x → (encD x).canLay0 = true
theorem beq_dec {α : Type} [BEq α] [LawfulBEq α] [DecidableEq α] (a b : α) : (a == b) = decide (a = b) := by
  rw [Bool.eq_iff_iff, beq_iff_eq, decide_eq_true_eq]
instance : QEnc Int where
  eqv x y := by
    show PyData.eqv (.int x) (.int y) = _
    simp only [PyData.eqv]
    exact beq_dec x y
  dep := 0
  dle _ := Nat.le_refl _
  lay _ := True
  ok _ _ := rfl
instance : QEnc (List Nat) where
  eqv x y := by
    show PyData.eqv (.str (mkS x)) (.str (mkS y)) = _
    simp only [PyData.eqv]
    rw [beq_dec]
    exact decide_eq_decide.mpr ⟨mkS_inj, fun h => by rw [h]⟩
  dep := 0
  dle _ := Nat.le_refl _
  lay x := ∀ c ∈ x, c < 1114112
  ok x h := by
    show PyData.strOk (mkS x) = true
    unfold PyData.strOk mkS
    simpa using h
instance : QEnc (Option Int) where
  eqv x y := by
    cases x with
    | none => cases y with
      | none => show PyData.eqv .none .none = _; simp only [PyData.eqv]; rfl
      | some b => show PyData.eqv .none (.int b) = _; simp only [PyData.eqv]; rfl
    | some a => cases y with
      | none => show PyData.eqv (.int a) .none = _; simp only [PyData.eqv]; rfl
      | some b =>
        show PyData.eqv (.int a) (.int b) = _
        simp only [PyData.eqv]
        rw [beq_dec]
        exact decide_eq_decide.mpr (by rw [Option.some.injEq])
  dep := 0
  dle x := by cases x <;> exact Nat.le_refl _
  lay _ := True
  ok x _ := by cases x <;> rfl
theorem eqvAll_dec {α : Type} [Enc α] [DEnc α] [DecidableEq α] [QEnc α] : ∀ xs ys : List α, PyData.eqvAll (xs.map encD) (ys.map encD) = decide (xs = ys)
  | [], [] => by simp [PyData.eqvAll]
  | [], _ :: _ => by simp [PyData.eqvAll]
  | _ :: _, [] => by simp [PyData.eqvAll]
  | x :: xs, y :: ys => by
    rw [List.map_cons, List.map_cons, PyData.eqvAll, QEnc.eqv, eqvAll_dec xs ys, Bool.eq_iff_iff]
    simp
theorem depthAll_le {α : Type} [Enc α] [DEnc α] [DecidableEq α] [QEnc α] : ∀ xs : List α, PyData.depthAll (xs.map encD) ≤ QEnc.dep α
  | [] => Nat.zero_le _
  | x :: xs => by
    rw [List.map_cons, PyData.depthAll]
    exact Nat.max_le.mpr ⟨QEnc.dle x, depthAll_le xs⟩
theorem canAll_of {α : Type} [Enc α] [DEnc α] [DecidableEq α] [QEnc α] : ∀ xs : List α, (∀ x ∈ xs, QEnc.lay x) → PyData.canLayAll0 (xs.map encD) = true
  | [], _ => rfl
  | x :: xs, h => by
    rw [List.map_cons, PyData.canLayAll0, QEnc.ok x (h x List.mem_cons_self), canAll_of xs fun y hy => h y (List.mem_cons_of_mem _ hy)]
    rfl
instance qencList {α : Type} [Enc α] [DEnc α] [DecidableEq α] [QEnc α] : @QEnc (List α) encList dencList _ :=
  @QEnc.mk (List α) encList dencList _ (fun xs ys => by
    show PyData.eqv (.list (xs.map encD)) (.list (ys.map encD)) = _
    rw [PyData.eqv]
    exact eqvAll_dec xs ys) (QEnc.dep α + 1) (fun xs => by
    show PyData.depth (.list (xs.map encD)) ≤ _
    rw [PyData.depth]
    exact Nat.succ_le_succ (depthAll_le xs)) (fun xs => ∀ x ∈ xs, QEnc.lay x) (fun xs h => by
    show PyData.canLay0 (.list (xs.map encD)) = true
    rw [PyData.canLay0]
    exact canAll_of xs h)
section
variable {X : Cx} {Γ : List Sl} {a b : Expr} {pos p2 : Pos}
theorem shaped_q {α : Type} [Enc α] [DEnc α] [DecidableEq α] [QEnc α] {x : α} (h : QEnc.lay x) (hd : QEnc.dep α ≤ 64) : SeqAt.shaped (encD x) = true := by
  unfold SeqAt.shaped
  rw [QEnc.ok x h, Bool.true_and]
  exact decide_eq_true (Nat.le_trans (QEnc.dle x) hd)
theorem tx_cmpD {op : CmpOp} {r : R2} {d e : PyData} (z : Bool) (ho : OpR X (compareOp op) r) (hm : behindInMarks op b = false) (hr : ∀ (x y : V) H (Q : VK), Dp X.K H x d → Dp X.K H y e → Q (.bl z) H → r x y H Q)
    (ha : PX X Γ a (.is d)) (hb : PX X Γ b (.is e)) : TX X Γ (.Compare a [op] [b] pos) z := ⟨fun B ρ σ H h Q q => goT (pt_cmpR ho peW peW hm) (ha.run B ρ σ H h _ fun v H1 e1 h1 => hb.run B _ σ H1 h1 _ fun w H2 e2 h2 => by
  obtain ⟨w', f1, f2⟩ := topD h2
  obtain ⟨v', g1, g2⟩ := topD h2.swap
  injection f1 with f1
  injection g1 with g1
  subst f1 g1
  exact hr _ _ _ _ g2 f2 ⟨z, rfl, q H2 (e1.trans e2) h2.pop.pop⟩)⟩
end
end DX
namespace DX
open PySem PySem.Spec PyProof.Rows L2
open DEnc (encD)
/-- a while loop that runs through, with fuel -/
def whF {S : Type} (c : S → Bool) (step : S → S) : Nat → S → S
  | 0, s => s
  | n + 1, s => if c s = true then whF c step n (step s) else s
theorem whF_stop {S : Type} {c : S → Bool} {step : S → S} {s : S} (h : c s = false) : ∀ n, whF c step n s = s
  | 0 => rfl
  | n + 1 => if_neg (by rw [h]; exact Bool.false_ne_true)
/-- more fuel than the measure changes nothing -/
theorem whF_fuel {S : Type} {c : S → Bool} {step : S → S} (I : S → Prop) (μ : S → Nat) (hI : ∀ s, I s → c s = true → I (step s) ∧ μ (step s) < μ s) : ∀ (n m : Nat) (s : S), I s → μ s ≤ n → μ s ≤ m → whF c step n s = whF c step m s
  | 0, m, s, hs, h1, h2 => by
    have hc : c s = false := by
      cases q : c s with
      | false => rfl
      | true => have := (hI s hs q).2; omega
    rw [whF_stop hc, whF_stop hc]
  | n + 1, 0, s, hs, h1, h2 => by
    have hc : c s = false := by
      cases q : c s with
      | false => rfl
      | true => have := (hI s hs q).2; omega
    rw [whF_stop hc, whF_stop hc]
  | n + 1, m + 1, s, hs, h1, h2 => by
    cases q : c s with
    | false => rw [whF_stop q, whF_stop q]
    | true =>
      obtain ⟨k1, k2⟩ := hI s hs q
      show (if c s = true then _ else _) = (if c s = true then _ else _)
      rw [if_pos q, if_pos q]
      exact whF_fuel I μ hI n m (step s) k1 (by omega) (by omega)
theorem whF_ind {S : Type} {c : S → Bool} {step : S → S} (I : S → Prop) (μ : S → Nat) (hI : ∀ s, I s → c s = true → I (step s) ∧ μ (step s) < μ s) : ∀ (n : Nat) (s : S), I s → μ s ≤ n → I (whF c step n s) ∧ c (whF c step n s) = false
  | 0, s, hs, h1 => by
    refine ⟨hs, ?_⟩
    cases q : c s with
    | false => exact q
    | true => have := (hI s hs q).2; omega
  | n + 1, s, hs, h1 => by
    cases q : c s with
    | false => rw [whF_stop q]; exact ⟨hs, q⟩
    | true =>
      obtain ⟨k1, k2⟩ := hI s hs q
      have e : whF c step (n + 1) s = whF c step n (step s) := if_pos q
      rw [e]
      exact whF_ind I μ hI n (step s) k1 (by omega)
section
variable {X : Cx} {M : Type} {L : Leaf M} {Γ : List Sl} {sts : List Stmt} {k : List (List Stmt)} {pos : Pos} {test : Expr}
theorem sx_while {S : Type} {body : List Stmt} {mm : S → M} (Γf : S → List Sl) (c : S → Bool) (step : S → S) (N : Nat) (s0 : S) (I : S → Prop) (μ : S → Nat) (hst : Wk Γ (Γf s0)) (h0 : I s0) (hN : μ s0 ≤ N)
    (ht : ∀ s, I s → TX X (Γf s) test (c s))
    (hbd : ∀ s, I s → c s = true → SX X (LNx X.K Γf) (Γf s) [body] (step s))
    (hI : ∀ s, I s → c s = true → I (step s) ∧ μ (step s) < μ s)
    (hrest : ∀ s, s = whF c step N s0 → I s → c s = false → SX X L (Γf s) (sts :: k) (mm s))
    (hp : PassesOwn (model X.prog X.w) X.A X.env X.xe := by first | exact PassesOwn.never | exact PassesOwn.leaving) : SX X L Γ ((.While test body [] pos :: sts) :: k) (lt (whF c step N s0) mm) := by
  refine ⟨fun B ρ σ H D hb h l => wC_cons (go1 (ps_while hp ptW pssW) ?_)⟩
  refine ⟨fun m σ' H' => ∃ s, m = μ s ∧ I s ∧ whF c step (μ s) s = whF c step N s0 ∧ HasE X.K B H' ρ σ' (Γf s), ⟨μ s0, s0, rfl, h0, whF_fuel I μ hI _ _ s0 h0 (Nat.le_refl _) hN, h.weak hst⟩, ?_⟩
  rintro m σ' H' ⟨s, rfl, hs, hf, hh⟩
  refine (ht s hs).run B ρ σ' H' hh _ fun H1 e1 h1 => ?_
  cases q : c s with
  | true =>
    rw [if_pos rfl]
    obtain ⟨k1, k2⟩ := hI s hs q
    have ef : whF c step (μ (step s)) (step s) = whF c step N s0 := by
      rw [← hf]
      cases z : μ s with
      | zero => omega
      | succ n =>
        have e : whF c step (n + 1) s = whF c step n (step s) := if_pos q
        rw [e]
        exact whF_fuel I μ hI _ _ (step s) k1 (Nat.le_refl _) (by omega)
    refine ⟨fun σ2 H2 => HasE X.K B H2 ρ σ2 (Γf (step s)), fun σ2 H2 h2 => ⟨μ (step s), k2, step s, rfl, k1, ef, h2⟩, ?_⟩
    exact (hbd s hs q).run B ρ σ' H1 { D with nx := fun σ2 H2 => HasE X.K B H2 ρ σ2 (Γf (step s)), ct := fun σ2 H2 => HasE X.K B H2 ρ σ2 (Γf (step s)), bk := fun σ2 H2 => wC X (sts :: k) D σ2 H2 } hb h1 fun σ3 H3 h3 => h3
  | false =>
    rw [if_neg Bool.false_ne_true]
    have es : s = whF c step N s0 := by rw [← hf, whF_stop q]
    exact (hrest s es hs q).run B ρ σ' H1 D hb h1 (by rw [es]; exact l)
end
end DX
namespace DX
open PySem PySem.Spec PyProof.Rows L2
open DEnc (encD)
def optTV : Option (List Nat) → V
  | none => .non
  | some x => .str (mkS x)
instance (priority := high) scOT : Sc (Option (List Nat)) := ⟨optTV⟩
def optTD : Option (List Nat) → PyData
  | none => .none
  | some x => .str (mkS x)
instance : DEnc (Option (List Nat)) := ⟨optTD, fun {K H v x} h => by
  have h : v = optTV x := h
  subst h
  cases x with
  | none => exact .non
  | some i => exact .str _⟩
end DX
namespace DX
open PySem PySem.Spec PyProof.Rows L2
open DEnc (encD)
structure RX (X : Cx) {M : Type} (L : Leaf M) (Γ : List Sl) (e : Expr) (m : M) : Prop where
  run : ∀ (B : Hp × Hp) (ρ : List Slot) (σ : L2.St) (H : Hp) (D : Ends), (∀ p ∈ ρ, noBor p) → HasE X.K B H ρ σ Γ → L B m D ρ → wE X e σ H D.rt
section
variable {X : Cx} {M : Type} {L : Leaf M} {Γ : List Sl} {sts : List Stmt} {k : List (List Stmt)} {pos p : Pos} {c e a b : Expr}
theorem sx_retR {m : M} (h : RX X L Γ e m) : SX X L Γ ((.Return (some e) pos :: sts) :: k) m :=
  ⟨fun B ρ σ H D hb h' l => wC_cons (go1 (ps_ret peW) (h.run B ρ σ H D hb h' l))⟩
theorem rx_own {α : Type} [Enc α] {R : Type} {res : R → Sl} {mr : R → M} {x : List α} {r : R} (hL : Rets X.K L res mr) (hres : res r = .own x) (he : PX X Γ e (.own x)) : RX X L Γ e (mr r) :=
  ⟨fun B ρ σ H D hb h l => he.run B ρ σ H h _ fun v H1 e1 h1 => hL B r D ρ l v H1 (by rw [hres]; exact h1.ret trivial)⟩
theorem rx_if {x : Bool} {m1 m2 : M} (hc : TX X Γ c x) (h1 : x = true → RX X L Γ a m1) (h2 : x = false → RX X L Γ b m2) : RX X L Γ (.IfExp c a b pos) (if x = true then m1 else m2) :=
  ⟨fun B ρ σ H D hb h l => goE (pe_ifExp ptW peW peW) (hc.run B ρ σ H h _ fun H1 e1 k1 => by
    cases x with
    | true => exact (h1 rfl).run B ρ σ H1 D hb k1 l
    | false => exact (h2 rfl).run B ρ σ H1 D hb k1 l)⟩
end
end DX
namespace DX
open PySem PySem.Spec PyProof.Rows L2
open DEnc (encD)
def insI (x : Int) : List Int → List Int
  | [] => [x]
  | y :: ys => if x ≤ y then x :: y :: ys else y :: insI x ys
def sortI : List Int → List Int
  | [] => []
  | x :: xs => insI x (sortI xs)
theorem insI_perm (x : Int) : ∀ ys, (insI x ys).Perm (x :: ys)
  | [] => List.Perm.refl _
  | y :: ys => by
    unfold insI
    split
    · exact List.Perm.refl _
    · exact ((insI_perm x ys).cons y).trans (List.Perm.swap x y ys)
theorem sortI_perm : ∀ xs, (sortI xs).Perm xs
  | [] => List.Perm.refl _
  | x :: xs => (insI_perm x _).trans ((sortI_perm xs).cons x)
theorem insI_sorted (x : Int) : ∀ {ys : List Int}, ys.Pairwise (· ≤ ·) → (insI x ys).Pairwise (· ≤ ·)
  | [], _ => List.pairwise_singleton _ _
  | y :: ys, h => by
    have h' := List.pairwise_cons.mp h
    unfold insI
    split
    · rename_i c
      refine List.pairwise_cons.mpr ⟨fun z hz => ?_, h⟩
      rcases List.mem_cons.mp hz with e | e
      · rw [e]; exact c
      · exact Int.le_trans c (h'.1 z e)
    · rename_i c
      refine List.pairwise_cons.mpr ⟨fun z hz => ?_, insI_sorted x h'.2⟩
      rcases List.mem_cons.mp ((insI_perm x ys).mem_iff.mp hz) with e | e
      · rw [e]; omega
      · exact h'.1 z e
theorem sortI_sorted : ∀ xs, (sortI xs).Pairwise (· ≤ ·)
  | [] => List.Pairwise.nil
  | x :: xs => insI_sorted x (sortI_sorted xs)
theorem sorted_unique : ∀ {xs ys : List Int}, xs.Perm ys → xs.Pairwise (· ≤ ·) → ys.Pairwise (· ≤ ·) → xs = ys
  | [], ys, p, _, _ => (List.Perm.nil_eq p)
  | x :: xs, [], p, _, _ => by have := p.length_eq; simp at this
  | x :: xs, y :: ys, p, h1, h2 => by
    have a1 := List.pairwise_cons.mp h1
    have a2 := List.pairwise_cons.mp h2
    have e : x = y := by
      have m1 : x ∈ y :: ys := p.mem_iff.mp List.mem_cons_self
      have m2 : y ∈ x :: xs := p.mem_iff.mpr List.mem_cons_self
      have b1 : y ≤ x := by
        rcases List.mem_cons.mp m1 with e | e
        · rw [e]; exact Int.le_refl _
        · exact a2.1 x e
      have b2 : x ≤ y := by
        rcases List.mem_cons.mp m2 with e | e
        · rw [e]; exact Int.le_refl _
        · exact a1.1 y e
      omega
    subst e
    rw [sorted_unique (List.Perm.cons_inv p) a1.2 a2.2]
section
variable {X : Cx} {Γ : List Sl} {e a b c : Expr} {es : List Expr} {s : Sl} {ss : List Sl} {pos p p1 p2 p3 apos cpos : Pos}
theorem paired_ints {K : PySem.W.Frag} {H : Hp} : ∀ ns : List Int, Paired (Enc.rep (α := Int) K H) (ns.map V.int) ns
  | [] => .nil
  | n :: ns => .cons rfl (paired_ints ns)
end
end DX
namespace DX
open PySem PySem.Spec PyProof.Rows L2
instance qencPair {α β : Type} [Enc α] [DEnc α] [DecidableEq α] [QEnc α] [Enc β] [DEnc β] [DecidableEq β] [QEnc β] : QEnc (α × β) where
  eqv x y := by
    show PyData.eqv (.tuple [DEnc.encD x.1, DEnc.encD x.2]) (.tuple [DEnc.encD y.1, DEnc.encD y.2]) = _
    rw [PyData.eqv, PyData.eqvAll, PyData.eqvAll, PyData.eqvAll, QEnc.eqv, QEnc.eqv, Bool.eq_iff_iff]
    obtain ⟨x1, x2⟩ := x
    obtain ⟨y1, y2⟩ := y
    simp
  dep := max (QEnc.dep α) (QEnc.dep β) + 1
  dle x := by
    show PyData.depth (.tuple [DEnc.encD x.1, DEnc.encD x.2]) ≤ _
    rw [PyData.depth, PyData.depthAll, PyData.depthAll, PyData.depthAll]
    have h1 := QEnc.dle x.1
    have h2 := QEnc.dle x.2
    omega
  lay x := QEnc.lay x.1 ∧ QEnc.lay x.2
  ok x h := by
    show PyData.canLay0 (.tuple [DEnc.encD x.1, DEnc.encD x.2]) = true
    rw [PyData.canLay0, PyData.canLayAll0, PyData.canLayAll0, PyData.canLayAll0, QEnc.ok _ h.1, QEnc.ok _ h.2]
    rfl
theorem dec_any (p : Prop) (d : Decidable p) {d' : Decidable p} : @decide p d' = @decide p d := decide_eq_decide.mpr Iff.rfl
theorem any_eqv {α : Type} [Enc α] [DEnc α] [DecidableEq α] [QEnc α] (x : α) : ∀ xs : List α, ((xs.map DEnc.encD).any fun z => PyData.eqv z (DEnc.encD x)) = decide (x ∈ xs)
  | [] => rfl
  | y :: ys => by
    rw [List.map_cons, List.any_cons, any_eqv x ys, QEnc.eqv, Bool.eq_iff_iff]
    simp only [Bool.or_eq_true, decide_eq_true_eq, List.mem_cons]
    constructor
    · rintro (h | h)
      · exact .inl h.symm
      · exact .inr h
    · rintro (h | h)
      · exact .inl h.symm
      · exact .inr h
section
variable {X : Cx} {M : Type} {L : Leaf M} {Γ Γ' : List Sl} {k : List (List Stmt)} {m : M} {st : Stmt} {sts : List Stmt} {e a b c tg iter : Expr} {es : List Expr} {pos p p' p2 apos cpos tpos kpos : Pos} {s : Sl}
theorem tx_niQ {α : Type} [Enc α] [DEnc α] [DecidableEq α] [QEnc α] {x : α} {xs : List α} {dd : Decidable (x ∈ xs)} (hu : X.A.units + 65 < cLine) (hx : QEnc.lay x) (hy : ∀ y ∈ xs, QEnc.lay y) (ha : PX X Γ a (.is x)) (hb : PX X Γ b (@Sl.is (List α) encList xs)) (hd : QEnc.dep α + 1 ≤ 64 := by decide) (hm : behindInMarks .NotIn b = false := by rfl) : TX X Γ (.Compare a [.NotIn] [b] pos) (!@decide (x ∈ xs) dd) :=
  tx_cmpD _ (op_notInD hu) hm (fun v w H Q h1 h2 q => ⟨_, xs.map DEnc.encD, h1, h2, shaped_q hx (by omega), shaped_q (α := List α) hy hd, by rw [any_eqv, dec_any (x ∈ xs) dd]; exact q⟩) (px_toD ha) (px_toD hb)
theorem room_units65 {k : Nat} {A : Around} (r : Room k A) : A.units + 65 < cLine := by have := r.un; omega
end
end DX
namespace DX
open PySem PySem.Spec PyProof.Rows L2
/-- a dict from texts, in the order in which the keys came -/
structure Dct (β : Type) where
  l : List (List Nat × β)
def Dct.get? {β : Type} (d : Dct β) (k : List Nat) : Option β := (d.l.find? fun p => decide (p.1 = k)).map (·.2)
def Dct.put {β : Type} (d : Dct β) (k : List Nat) (v : β) : Dct β := ⟨if (d.l.any fun p => decide (p.1 = k)) = true then d.l.map (fun p => if p.1 = k then (p.1, v) else p) else d.l ++ [(k, v)]⟩
def DRep {β : Type} [Enc β] (K : PySem.W.Frag) (H : Hp) (kvs : List (L2.Key × V)) (d : Dct β) : Prop := Paired (fun (q : L2.Key × V) (p : List Nat × β) => q.1 = keyT p.1 ∧ Enc.rep K H q.2 p.2) kvs d.l
theorem DRep.mono {β : Type} [Enc β] {K : PySem.W.Frag} {H H' : Hp} {kvs : List (L2.Key × V)} {d : Dct β} (e : Ex H H') (h : DRep K H kvs d) : DRep K H' kvs d := Paired.mapP h fun _ _ r => ⟨r.1, Enc.mono e r.2⟩
instance encDct {β : Type} [Enc β] : Enc (Dct β) where
  rep := fun K H v d => ∃ a kvs, v = .ref a ∧ H a = some (.dK kvs) ∧ DRep K H kvs d
  mono := fun e ⟨a, kvs, h1, h2, h3⟩ => ⟨a, kvs, h1, e _ _ h2, h3.mono e⟩
end DX
namespace DX
open PySem PySem.Spec PyProof.Rows L2
def SqB (K : PySem.W.Frag) : Bool → Hp → Addr → List V → Prop
  | true => SqL K
  | false => SqT K
def IterB : Bool → Heap → Addr → Addr → Nat → Prop
  | true => fun h it a i => h.IsListIter it a i
  | false => fun h it a i => h.IsTupleIter it a i
def SeB : Bool → Heap → Addr → Array Value → Prop
  | true => fun h a xs => h.IsList a xs
  | false => fun h a xs => h.IsTuple a xs
theorem IterB.at {b : Bool} {h h' : Heap} {it a : Addr} {i : Nat} (st : IterB b h it a i) (k : ∀ o, h.get? it = some o → h'.get? it = some o) : IterB b h' it a i := by
  cases b
  · exact Heap.IsTupleIter.at st k
  · exact Heap.IsListIter.at st k
theorem SqB.get {X : Cx} {pins : List (Addr × Obj)} {σ : L2.St} {H : Hp} {s : Shared} {a : Addr} {xs : List V} {b : Bool} (I : Inv X pins σ H s) (h : SqB X.K b H a xs) : ∃ its : List Value, Vals xs its ∧ SeB b s.heap a its.toArray ∧ a < s.heap.objs.size := by
  cases b
  · obtain ⟨its, rv, p, _⟩ := I.tuple h
    obtain ⟨o, ho, _⟩ := id p
    exact ⟨its, rv, p, Heap.lt_size ho⟩
  · obtain ⟨its, rv, p, _⟩ := I.list h
    exact ⟨its, rv, p.isList, p.lt⟩
theorem SqB.inj {X : Cx} {pins : List (Addr × Obj)} {σ : L2.St} {H : Hp} {s : Shared} {a : Addr} {xs ys : List V} {b : Bool} (I : Inv X pins σ H s) (h : SqB X.K b H a xs) (h' : SqB X.K b H a ys) : xs = ys := by
  cases b
  · exact I.tuple_inj h h'
  · exact I.list_inj h h'
/-- a slot that is a list (true) or a tuple (false) -/
inductive SqS {α : Type} [Enc α] : Bool → Sl → List α → Prop
  | l (xs : List α) : SqS true (@Sl.is (List α) encList xs) xs
  | t (x : Tup α) : SqS false (.is x) x.l
theorem SqS.ok {α : Type} [Enc α] {K : PySem.W.Frag} {b : Bool} {s : Sl} {xs : List α} (q : SqS b s xs) {B1 Hd H : Hp} {o : Option V} (ed : Ex Hd H) (ok : SlotOk K B1 Hd H o s) : ∃ a vs, o = some (.ref a) ∧ SqB K b H a vs ∧ Paired (Enc.rep K Hd) vs xs := by
  cases q with
  | l =>
    obtain ⟨a, vs, h1, h2, h3⟩ := (Lk.is xs).ok ed ok
    exact ⟨a, vs, h1, SqL.of h2, h3⟩
  | t x =>
    obtain ⟨v', f1, a', vs, f2, f3, f4⟩ := ok
    exact ⟨a', vs, by rw [f1, f2], ext ed f3, f4⟩
end DX
namespace DX
open PySem PySem.Spec PyProof.Rows L2
open DEnc (encD)
structure T4 (α β γ δ : Type) where
  a : α
  b : β
  c : γ
  d : δ
instance encT4 {α β γ δ : Type} [Enc α] [Enc β] [Enc γ] [Enc δ] : Enc (T4 α β γ δ) where
  rep := fun K H v x => ∃ a v1 v2 v3 v4, v = .ref a ∧ SqT K H a [v1, v2, v3, v4] ∧ Enc.rep K H v1 x.a ∧ Enc.rep K H v2 x.b ∧ Enc.rep K H v3 x.c ∧ Enc.rep K H v4 x.d
  mono := fun e ⟨a, v1, v2, v3, v4, h1, h2, h3, h4, h5, h6⟩ => ⟨a, v1, v2, v3, v4, h1, ext e h2, Enc.mono e h3, Enc.mono e h4, Enc.mono e h5, Enc.mono e h6⟩
instance {α β γ δ : Type} [Enc α] [DEnc α] [Enc β] [DEnc β] [Enc γ] [DEnc γ] [Enc δ] [DEnc δ] : DEnc (T4 α β γ δ) := ⟨fun x => PyData.tuple [encD x.a, encD x.b, encD x.c, encD x.d], fun {K H v x} ⟨a, v1, v2, v3, v4, h1, h2, h3, h4, h5, h6⟩ => by
  subst h1
  exact .tup h2 (.cons (DEnc.toDp h3) (.cons (DEnc.toDp h4) (.cons (DEnc.toDp h5) (.cons (DEnc.toDp h6) .nil))))⟩
instance {α β γ δ : Type} [Enc α] [DEnc α] [DInj α] [Enc β] [DEnc β] [DInj β] [Enc γ] [DEnc γ] [DInj γ] [Enc δ] [DEnc δ] [DInj δ] : DInj (T4 α β γ δ) := ⟨fun x y => by
  show same (.tuple [encD x.a, encD x.b, encD x.c, encD x.d]) (.tuple [encD y.a, encD y.b, encD y.c, encD y.d]) = true ↔ _
  unfold same
  simp only [sameAll, Bool.and_true, Bool.and_eq_true_iff, DInj.inj]
  cases x; cases y
  simp⟩
end DX
namespace DX
open PySem PySem.Spec PyProof.Rows L2
abbrev envS (qual : Str) (sc : Scope) (L f : Addr) (cd : Value) (cc : Addr) : Env := PySem.W.ksEnv qual sc L f cd cc
def cxS (CX : CXT) (P : Program) (w : World) (K : PySem.W.Frag) (mg : Str → Option Value) (base : Heap) (N : List Str) (qual : Str) (sc : Scope) (f : Addr) (cd : Value) (cc : Addr) (A : Around) (outer : List Env) (s : Shared) (H : Hp) (E : XK) : Cx where
  prog := P
  w := w
  K := K
  mg := mg
  base := base
  A := A.deeper (envS qual sc s.heap.objs.size f cd cc)
  N := N
  s_0 := s
  H_0 := H
  env := envS qual sc s.heap.objs.size f cd cc
  outer := outer
  stack := envS qual sc s.heap.objs.size f cd cc :: outer
  ex := []
  calm := true
  fn := fun _ => false
  pn := []
  xe := fun e s' => wpAny (model P w) (A.deeper (envS qual sc s.heap.objs.size f cd cc)) (leaving (envS qual sc s.heap.objs.size f cd cc) e) (fun _ s'' => CX outer H s E e s'') (fun e' s'' => CX outer H s E e' s'') s'
theorem inv_startS {CX : CXT} {P : Program} {w : World} {K : PySem.W.Frag} {mg : Str → Option Value} {base : Heap} {n0 n1 : Str} {qual : Str} {sc : Scope} {f cc : Addr} {cd : Value} {A : Around} {outer : List Env} {s : Shared} {H : Hp} {E : XK} {u0 u1 : Value} {v0 v1 : V} {h1 : Heap} {tk : Nat} {oc : Obj} {cv : Option Value}
    (hk : sc.kind = .function) (hne : (n0 == n1) = false) (hne2 : (n1 == n0) = false) (hl0 : sc.names.lookup n0 = some .local) (hl1 : sc.names.lookup n1 = some .local) (hfree : ∀ y, (sc.names.lookup y = some .cell ∨ sc.names.lookup y = some .free) → y = ("__class__" : Str)) (hd : A.handled = none) (e0 : Env0 P w K mg base A outer s H) (r0 : RelV v0 u0) (r1 : RelV v1 u1)
    (hcc : s.heap.get? cc = some oc) (hcd : oc.data = .cell cv) (hcH : H cc = none) (hns : h1.Ns s.heap.objs.size (fun x => [(n0, u0), (n1, u1)].reverse.lookup x)) (kp : ∀ b o, s.heap.get? b = some o → h1.get? b = some o) :
    Inv (cxS CX P w K mg base [n0, n1] qual sc f cd cc A outer s H E) [] [some v0, some v1] H { s with heap := h1, toks := tk } := by
  have noA : ∀ b : Addr, b ∉ (cxS CX P w K mg base [n0, n1] qual sc f cd cc A outer s H E).ex := fun b z => absurd (show b ∈ ([] : List Addr) from z) (by simp)
  have look : ∀ (y : Str) (c : Addr), ([(("__class__" : Str), cc)] : List (Str × Addr)).lookup y = some c → y = "__class__" ∧ c = cc := fun y c h => by
    unfold List.lookup at h
    cases q : (y == ("__class__" : Str)) with
    | true => rw [q] at h; injection h with h; exact ⟨beq_iff_eq.mp q, h.symm⟩
    | false => rw [q] at h; cases h
  refine ⟨⟨e0.mod, hk, rfl, rfl, Nat.le_refl _, fun y z c g1 g2 => ?_, fun y hy => ?_, (fun y c q _ => (nomatch q)), fun _ => hd, Around.frames_deeper e0.frames, .inr ⟨rfl, rfl⟩, fun b z => absurd z (noA b), e0.bs, e0.bsz, fun b _ _ => noA b, fun b z => absurd z (noA b), e0.funs, e0.frf⟩,
    rfl, e0.bare, Un.kept kp, ⟨_, hns, fun i y v g1 g2 g3 => ?_⟩, fun y c h => ?_, e0.hok.fresh (Nat.le_refl _), fun y c h => ?_, fun p hp => absurd (show p ∈ ([] : List (Addr × Obj)) from hp) (by simp), e0.hok.kept kp, rfl⟩
  · rw [(look y c g1).1, (look z c g2).1]
  · have := hfree y hy
    subst this
    exact ⟨cc, rfl⟩
  · match i, g1, g2 with
    | 0, g1, g2 =>
      injection g1 with g1
      injection g2 with g2
      injection g2 with g2
      subst g1 g2
      refine ⟨u0, r0, .inl ⟨hl0, ?_⟩⟩
      show List.lookup n0 [(n1, u1), (n0, u0)] = some u0
      unfold List.lookup
      rw [hne]
      unfold List.lookup
      rw [beq_self_eq_true]
    | 1, g1, g2 =>
      injection g1 with g1
      injection g2 with g2
      injection g2 with g2
      subst g1 g2
      refine ⟨u1, r1, .inl ⟨hl1, ?_⟩⟩
      show List.lookup n1 [(n1, u1), (n0, u0)] = some u1
      unfold List.lookup
      rw [beq_self_eq_true]
    | i + 2, g1, g2 => cases g2
  · obtain ⟨_, e2⟩ := look y c h
    subst e2
    exact ⟨cv, oc, kp _ _ hcc, hcd⟩
  · obtain ⟨_, e2⟩ := look y c h
    subst e2
    exact hcH
/-- __init__'s promise: the one field stands in the new dict -/
def spEI (C : Addr) (fld : Str) : Sp := fun vs H Q _ => ∃ (a : Addr) (y : V), vs = [.ref a, y] ∧ H a = some (exo a C none) ∧ ∀ dx, H dx = none → dx ≠ a → Q .non (upd (upd H dx (exd dx [(fld, y)])) a (exo a C (some dx)))
section
variable {CXp : CXT} {P : Program} {w : World} {K : PySem.W.Frag} {mg : Str → Option Value} {base : Heap}
theorem exc_init {fld par qual msg : Str} {C fI cda cc : Addr} {oc ccl cl : Value} {od an cdd cld : Option Addr} {params : Arguments} {body : List Stmt} {sc : Scope} {dV kV doc pm ct : Value} {osl ccs csl : Array (Option Value)} {vs0 : Array Value} {file : Str} {tf : Tok} {ar : Arg} {p0 p1 p2 p3 p4 p5 p6 p7 p8 p9 : Pos} {j : Nat}
    (T : OexC K C) (noF : PySem.W.findIn K (.ref C) fld = some none) (sup : PySem.W.ks_superIn K C C "__init__" = some (some (.builtin "ValueError.__init__"))) (sub : PySem.W.subIn K (.ref C) (.type "ValueError") = some true) (slf : PySem.W.mroIn K C (.ref C) = some true)
    (any : PySem.W.nsIn K cStatics "thirdparty.any" = some none) (q0 : PySem.W.excInitIn K C [.type "ValueError", .type "Exception", .type "BaseException", .type "object"] "ValueError.__new__" = true) (nos : mg "super" = none) (top : (P.main.scope.names.lookup ("super" : Str)).isSome = false)
    (lk : K.lookup fI = some ⟨oc, od, .func (PySem.W.ksFn "__init__" qual params body sc dV kV doc pm an (.ref cda) ct cc), osl⟩) (hcd : PySem.W.codeIn K (.ref cda) qual = true) (hcode : K.lookup cda = some ⟨ccl, cdd, .fields vs0, ccs⟩) (hvs : vs0[2]? = some (.str file tf)) (hfile : ((P.main.file : Str) == file) = true)
    (hcell : K.lookup cc = some ⟨cl, cld, .cell (some (.ref C)), csl⟩) (hpar : (params.posonlyargs ++ params.args).head? = some ar) (har : ar.arg = "self")
    (hb : body = [.Expr (.Call (.Attribute (.Call (.Name "super" p0) [] [] p1) "__init__" p2) [.Constant (.str msg) j p3] [] p4) p5, .Assign [.Attribute (.Name "self" p6) fld p7] (.Name par p8) p9])
    (hk : sc.kind = .function) (hco : sc.isCoroutine = false) (hge : sc.isGenerator = false) (hn : (("self" : Str) == par) = false) (hn2 : (par == ("self" : Str)) = false) (hl0 : sc.names.lookup ("self" : Str) = some .local) (hl1 : sc.names.lookup par = some .local) (hls : sc.names.lookup ("super" : Str) = some .globalImplicit) (hlc : sc.names.lookup ("__class__" : Str) = some .free)
    (hfree : ∀ y, (sc.names.lookup y = some .cell ∨ sc.names.lookup y = some .free) → y = ("__class__" : Str)) (hnc : ∀ x ∈ sc.names, x.2 ≠ .cell) (hdp : (par == ("__debug__" : Str)) = false) (hcp : (par == ("__classdict__" : Str)) = false)
    (hsw : ∀ env : Env, swapsWith (.Name par p8) (some (.Attribute (.Name "self" p6) fld p7)) p9.line env = pure false) (hsx : ∀ env : Env, swapsWith (.Call (.Attribute (.Call (.Name "super" p0) [] [] p1) "__init__" p2) [.Constant (.str msg) j p3] [] p4) none p5.line env = pure false)
    (hev : ∀ env : Env, ∃ pl : Sem Bool, eval (.Call (.Attribute (.Call (.Name "super" p0) [] [] p1) "__init__" p2) [.Constant (.str msg) j p3] [] p4) env = (do
      let ov ← attributeBase (.Call (.Name "super" p0) [] [] p1) "__init__" env (eval (.Call (.Name "super" p0) [] [] p1) env)
      standAt p2.atName
      let (f, first) ← holding [ov] (getMethod ov "__init__" pl)
      callWith p4 f first (backTo p4 (starEach [.Constant (.str msg) j p3] env)) [])) :
    FnOk P w K mg base CXp 1 fI (PySem.W.ksFn "__init__" qual params body sc dV kV doc pm an (.ref cda) ct cc) ["self", par] (spEI C fld) := by
  have hint : ∀ e : Env, e.scope = sc → interactive e = false := fun e he => by
    unfold interactive
    rw [he, hk]
    rfl
  refine ⟨fun vs H Q E ⟨a, y, e, _⟩ => by rw [e]; rfl, fun A outer s H args us vs Q E hr e0 hbd r hsp => ?_⟩
  obtain ⟨a, y, rfl, ha, q⟩ := hsp
  obtain ⟨u0, u1, rfl, r0, r1⟩ := vals2 r
  obtain rfl : u0 = Value.ref a := r0
  have KX : K.In s.heap := e0.mod.kin.keeps fun b o e => (e0.bs b o e).1
  have lim : s.heap.NoLimit := e0.mod.nolimit.keeps fun b o e => (e0.bs b o e).1
  refine ks_codeAny_call_defAt hr.depth (KX _ _ lk) rfl lim (PySem.W.codeRec_of KX hcd) rfl hbd hnc (fun x hx => ?_) (fun h1 hns hk1 => ?_) hco hge hk
  · have hx : x ∈ [(("self" : Str), Value.ref a), (par, u1)] := hx
    rcases List.mem_cons.mp hx with z | z
    · rw [z]; exact hl0
    · rw [List.mem_singleton.mp z]; exact hl1
  have hccH : H cc = none := (e0.bs cc _ (e0.mod.kin _ _ hcell)).2
  have I : Inv (cxS CXp P w K mg base ["self", par] qual sc fI (.ref cda) cc A outer s H E) [] [some (.ref a), some y] H { s with heap := h1, toks := s.toks + 2 } := inv_startS hk hn hn2 hl0 hl1 hfree hr.hd e0 rfl r1 (KX _ _ hcell) rfl hccH hns hk1
  rw [hb]
  obtain ⟨nm, N', qn, bs, bm, hdct, sn, sub', ab, col, dd, k0, k1, k2, k3, k5, hCg, hTg⟩ := PySem.W.excInit_of I.kIn q0
  have hcl : ∃ cd, PySem.W.clsIn K C = some cd := by
    obtain ⟨nm, q, N, bs, bm, sn, sub, ab, col, dd, k0, k1, k2, k3, k5, hC, hbm⟩ := T.cls
    exact ⟨_, by unfold PySem.W.clsIn; rw [hC] <;> rfl⟩
  obtain ⟨cdC, hcl⟩ := hcl
  have hsupi := sup
  unfold PySem.W.ks_superIn at hsupi
  rw [hcl] at hsupi
  obtain ⟨oD, hD1, hD2⟩ : ∃ oD, h1.get? C = some oD ∧ oD.data = .cls cdC := by
    unfold PySem.W.clsIn at hcl
    split at hcl
    · rename_i c d cd' sl ho
      cases hcl
      exact ⟨_, I.kIn _ _ ho, rfl⟩
    · cases hcl
  obtain ⟨t1, hoa⟩ := exo_at I.hok ha
  have hoa : h1.get? a = some (PySem.W.excObj C t1 none .none) := hoa
  have inst : PySem.W.InstAt h1 a (PySem.W.excObj C t1 none .none) C none := ⟨hoa, rfl, rfl, trivial⟩
  obtain ⟨pl, hev⟩ := hev (envS qual sc s.heap.objs.size fI (.ref cda) cc)
  refine ks_wpAt_execs_cons (ks_wpAt_Expr_any (ks_wpAt_MethodCall (pl := pl) (ks_wpAt_super_base hls hlc (by decide) rfl (I.kIn _ _ lk) rfl hpar rfl (I.kIn _ _ hcode) rfl hvs hfile top ?_) hev) (hint _ rfl) (hsx _))
  obtain ⟨mb, b1, b2⟩ := I.mod.blt
  refine PySem.W.ks_loadName_global hk hls (Calls.loadGlobal_builtin (I.mod.glob.keeps I.bk) nos (b1.keeps I.bk) ((b2 _ (by decide)).trans (show bootBuiltins "super" = some (.type "super") by decide +kernel)) ⟨rfl, ?_⟩)
  refine wpAny_loadName_free hk hlc rfl ⟨_, I.kIn _ _ hcell, rfl⟩ ?_
  rw [har]
  refine wpAny_loadName_local hk hl0 hns (v := .ref a) (by
    show List.lookup ("self" : Str) [(par, u1), (("self" : Str), Value.ref a)] = _
    unfold List.lookup
    rw [hn]
    unfold List.lookup
    rw [beq_self_eq_true]) ?_
  refine ks_wpAny_isType_cls hD1 hD2 ⟨rfl, ?_⟩
  refine ks_wpAny_call_super hD1 hD2 hoa rfl (fun c e => nomatch e) (PySem.W.looks_mroIn I.kIn slf) (fun h2 hso hk2 => ?_)
  have I2 := I.kept (t' := s.toks + 2) hk2
  have hoa2 := hk2 _ _ hoa
  have inst2 : PySem.W.InstAt h2 a (PySem.W.excObj C t1 none .none) C none := ⟨hoa2, rfl, rfl, trivial⟩
  refine PySem.W.kxs_getMethod PySem.W.kxs_ValueError hso (PySem.W.looks_opaque I2.kIn any) (l₀ := cdC.mro) (fun A Q E s k q => wpAny_bind ((PySem.W.looks_clsIn I2.kIn hcl) A _ E s k (wpAny_pure q))) rfl I2.kIn hsupi (inst2.type.andThen (PySem.W.looks_subIn I2.kIn sub)) (PySem.W.ks_ne I2.kIn inst2 hcl) (by decide) ?_
  have hk3 : ∀ b o, h2.get? b = some o → (h2.push (PySem.W.kxs_mw "ValueError.__init__" a)).get? b = some o := fun b o e => Heap.get?_push_of_some _ e
  have I3 := I2.kept (t' := s.toks + 2 + 1 + 1) hk3
  have hu : (h2.push (PySem.W.kxs_mw "ValueError.__init__" a)).get? h2.objs.size = some (PySem.W.kxs_mw "ValueError.__init__" a) := Heap.get?_push_at rfl rfl
  have hoa3 := hk3 _ _ hoa2
  show wpAny _ _ (callWith p4 (.ref h2.objs.size) [] ((false, eval (.Constant (.str msg) j p3) _) :: []) []) _ _ _
  refine PySem.W.kxs_callWith (i := "ValueError.__init__") (x := a) rfl (Calls.evalArgs_plain (Calls.spliced_cons (Calls.Constant_str (Calls.spliced_nil ⟨hu, ?_⟩))))
  have FB := PySem.F.excBase_ValueError
  refine wpAny_call (codeAny_of_tree ?_)
  show wpAny _ _ (callAny (.ref h2.objs.size) ⟨[Value.str msg _], []⟩) _ _ _
  simp only [callAny]
  refine wpAny_bind (wpAny_load hu ?_)
  simp only [PySem.W.kxs_mw, show (Value.type "method-wrapper" == Value.type "method" || Value.type "method-wrapper" == Value.type "builtin_function_or_method" || Value.type "method-wrapper" == Value.type "method-wrapper") = true by decide, if_true]
  refine PySem.W.KFB.if_so (by decide) ?_
  refine wpAny_bind (PySem.W.check_bound_init FB.toExcCallFacts (hk3 _ _ (hk2 _ _ hCg)) hoa3 rfl ?_)
  refine wpAny_bind (wpAny_pure (wpAny_pure ?_))
  refine ⟨plainId_quiet FB.init.plain _, codeAny_builtin FB.initEntry ?_⟩
  refine PySem.W.exc_init_tree (cls := .ref C) (t0 := t1) (dv := none) (c2 := .none) (c3 := .none) (b4 := .bool false) hoa3 (show 1 ≤ sizeLine by rw [sizeLine_eq]; decide) fun h4 hk4 ha4 ht4 => ?_
  have J := I3.write (t' := s.toks + 2 + 1 + 1) (x := a) (e := a) (o := exo a C none) (by rw [ha]; exact True.intro) (.inl rfl) hk4 ⟨_, ha4⟩ (exo_ok ha4)
  have eu : upd H a (exo a C none) = H := by
    funext b
    by_cases hb : b = a
    · rw [hb, upd_same, ha]
    · rw [upd_ne hb]
  rw [eu] at J
  have J2 := J.tok (s.toks + 2 + 1 + 1)
  have hps : PSs (cxS CXp P w K mg base ["self", par] qual sc fI (.ref cda) cc A outer s H E) [.Assign [.Attribute (.Name "self" p6) fld p7] (.Name par p8) p9] (tOst K fld (tVar 0) (tVar 1)) :=
    pss_one (ps_ost (pe_var (i := 0) rfl (.inl hl0)) (pe_var (i := 1) rfl (.inl hl1) hdp hcp) (hsw _))
  refine PySem.wpAt_of_wpAny (wpAny_mono (hps.run [] _ _ H { nx := fun _ H' => Q .non H', rt := Q } J2 ⟨y, rfl, .ref a, rfl, a, C, rfl, T, noF, .inl ⟨ha, fun dx hd hn => q dx hd hn⟩⟩) (fun fl s' hs => ?_) fun e s' hs => hs)
  have fin : ∀ {σ' : L2.St} {H' : Hp} {v : V} {u : Value}, Inv (cxS CXp P w K mg base ["self", par] qual sc fI (.ref cda) cc A outer s H E) [] σ' H' s' → RelV v u → Q v H' → CE outer P w H s Q u s' :=
    fun {σ' H' v u} J rv q => ⟨v, H', J.os, J.bare, J.base, J.hok, rv, q⟩
  cases fl with
  | ret u =>
    obtain ⟨v, σ', H', J, rv, q⟩ := hs
    exact fin J rv q
  | next =>
    obtain ⟨σ', H', J, q⟩ := hs
    exact fin (v := V.non) (u := Value.none) J rfl q
  | brk =>
    obtain ⟨_, _, _, q⟩ := hs
    exact False.elim q
  | cont =>
    obtain ⟨_, _, _, q⟩ := hs
    exact False.elim q
end
end DX
namespace DX
open PySem PySem.Spec PyProof.Rows L2
/-- a caught exception: where it is, its dict, what it was handed -/
structure ExP where
  a : Addr
  d : Option Addr
  p : Pay
instance : Enc ExP := ⟨fun _ H v x => v = .ref x.a ∧ payOk H x.d x.p, fun e ⟨h1, h2⟩ => ⟨h1, h2.mono e⟩⟩
/-- a class with one field and an own __init__: what the text's facts give -/
structure ECF (P : Program) (w : World) (K : PySem.W.Frag) (mg : Str → Option Value) (base : Heap) (x fld : Str) (C : Addr) : Prop where
  oc : OexC K C
  gC : mg x = some (.ref C)
  noF : PySem.W.findIn K (.ref C) fld = some none
  init : ∃ (fI : Addr) (fd : FuncData) (par : Str), PySem.W.findIn K (.ref C) "__init__" = some (some (.ref fI)) ∧ PySem.W.typeIn K (.ref fI) = some (.type "function") ∧ FnOk P w K mg base (L2.CX P w) 1 fI fd ["self", par] (spEI C fld) ∧ Binds K fd ["self", par] []
/-- an exception that came: what it was handed, beside the slots -/
theorem HasE.caught {K : PySem.W.Frag} {B : Hp × Hp} {H H' : Hp} {ρ : List Slot} {σ : L2.St} {Γ : List Sl} {a : Addr} {d : Option Addr} {p : Pay} (h : HasE K B H ρ σ Γ) (ex : Ex H H') (hp : payOk H' d p) (hf : ∀ a, d = some a → H a = none) : HasE K B H' ((some (.ref a), .is (ExP.mk a d p)) :: ρ) σ Γ := by
  obtain ⟨l, Hd, y1, y2, y3, y4, y5, y6⟩ := h
  have key : ∃ Hd', Ex Hd Hd' ∧ Ex Hd' H' ∧ payOk Hd' d p ∧ ∀ a, H a ≠ none → Hd a = none → Hd' a = none := by
    have dict : ∀ dd fs, d = some dd → H' dd = some (.xd fs) → ∃ Hd', Ex Hd Hd' ∧ Ex Hd' H' ∧ Hd' dd = some (.xd fs) ∧ ∀ a, H a ≠ none → Hd a = none → Hd' a = none := fun dd fs e1 e2 => by
      have n1 := hf dd e1
      have n2 : Hd dd = none := y2.back n1
      refine ⟨upd Hd dd (.xd fs), Ex.new n2, fun b u hb => ?_, upd_same, fun b hb hb2 => ?_⟩
      · by_cases z : b = dd
        · subst z
          rw [upd_same] at hb
          injection hb with hb
          rw [← hb]; exact e2
        · rw [upd_ne z] at hb
          exact (y2.trans ex) b u hb
      · have z : b ≠ dd := fun z => hb (by rw [z]; exact n1)
        rw [upd_ne z]; exact hb2
    cases p with
    | no => exact ⟨Hd, Ex.refl _, y2.trans ex, hp, fun _ _ z => z⟩
    | int f i =>
      obtain ⟨dd, e1, e2⟩ := hp
      obtain ⟨Hd', q1, q2, q3, q4⟩ := dict dd _ e1 e2
      exact ⟨Hd', q1, q2, ⟨dd, e1, q3⟩, q4⟩
    | txt f x =>
      obtain ⟨dd, e1, e2⟩ := hp
      obtain ⟨Hd', q1, q2, q3, q4⟩ := dict dd _ e1 e2
      exact ⟨Hd', q1, q2, ⟨dd, e1, q3⟩, q4⟩
  obtain ⟨Hd', q1, q2, q3, q4⟩ := key
  refine ⟨l, Hd', y1.trans q1, q2, y3.trans ex, fun b b1 b2 => q4 b (fun c => b2 (y3.back c)) (y4 b b1 b2), fun r hr => ?_, List.pairwise_cons.mpr ⟨fun r _ => apart_is r, y6⟩⟩
  rcases List.mem_cons.mp hr with z | z
  · rw [z]
    exact ⟨_, rfl, rfl, q3⟩
  · exact (y5 r z).mono q1 ex q4
section
variable {X : Cx} {M : Type} {L : Leaf M} {Γ : List Sl} {k : List (List Stmt)} {sts : List Stmt} {e a b c : Expr} {es : List Expr} {pos p p' p2 p3 cpos : Pos} {W : L2.WX} {me : PErr → M}
theorem passF (tk : Takes X W) : Passes (L2.CX X.prog X.w) X (fun _ _ _ => False) := fun pins σ H s u s' I h => by
  obtain ⟨a, B, H', cls, d, _, _, _, _, _, _, _, f⟩ := h
  exact f.elim
theorem sx_raiseI {x fld : Str} {C : Addr} {i : Int} (hE : Errs X.mg L W me) (tk : Takes X W) (c : ECF X.prog X.w X.K X.mg X.base x fld C) (hr : Room 2 X.A) (he : PX X Γ e (.is i)) (hc : X.calm = true := by rfl) (hg : Gl X x := by rfl) (hdb : (x == ("__debug__" : Str)) = false := by decide)
    (hs : starEach [e] X.env = (false, eval e X.env) :: starEach [] X.env := by rfl) (hpl : (backTo cpos (starEach [] X.env)).any (·.1) = false := by rfl) :
    SX X L Γ ((.Raise (some (.Call (.Name x p) [e] [] cpos)) none pos :: sts) :: k) (me ⟨x, .int fld i⟩) := by
  obtain ⟨fI, fd, par, iC, tI, F1, bd⟩ := c.init
  refine ⟨fun B ρ σ H D hb h l => wC_cons (go1 (ps_raise hc tk (pmk_oex c.oc iC tI F1 hr bd .nil (passF tk) hg c.gC (pa_cons peW pa_nil hs) hdb hs hpl)) (he.run B ρ σ H h _ fun v H1 e1 h1 => ?_))⟩
  have ev := h1.topSc
  injection ev with ev
  subst ev
  refine ⟨by show 1 ≤ 1000; decide, fun a hn => ⟨a, .int i, rfl, upd_same, fun dx hd hne => ⟨rfl, dx, _, upd_same, by rw [upd_ne hne]; exact upd_same, ?_, ?_⟩⟩⟩
  · rw [upd_ne hne] at hd
    exact hd
  · have hd' : H1 dx = none := by rw [upd_ne hne] at hd; exact hd
    refine hE B ⟨x, .int fld i⟩ D ρ l _ _ σ _ (h1.exB.trans (Ex.of fun b o hb => ?_)) ⟨c.gC, ⟨dx, rfl, upd_same⟩, fun b z => by injection z with z; rw [← z]; exact h.exB.back (e1.back hd')⟩
    have n1 : b ≠ a := ne_of_none hb hn
    have n2 : b ≠ dx := ne_of_none hb hd'
    rw [upd_ne n2, del_ne n1, upd_ne n1, upd_ne n2, upd_ne n1]
    exact hb
/-- e.f of a caught exception -/
theorem px_xfI {a0 C : Addr} {oe : Obj} {d : Option Addr} {pn : List (Addr × Obj)} {fld : Str} {i : Int} (T : XfC X.K C) (hno : PySem.W.findIn X.K (.ref C) fld = some none) (hz : Zc (.ref C) d oe) (hf : ∃ vs, oe.data = .fields vs) (ha : PX (X.suite a0 ((a0, oe) :: pn)) Γ a (.is (ExP.mk a0 d (.int fld i))))
    (hb : attributeBase a fld X.env (eval a X.env) = eval a X.env := by rfl) : PX (X.suite a0 ((a0, oe) :: pn)) Γ (.Attribute a fld pos) (.is i) :=
  ⟨fun B ρ σ H h Q q => goE (pe_xf T hno hz hf peW hb) (ha.run B ρ σ H h _ fun v H1 e1 h1 => by
    obtain ⟨_, Hd, _, z2, _, _, z5, _⟩ := id h1
    obtain ⟨w, f1, f2, dd, f3, f4⟩ := z5 _ List.mem_cons_self
    have f1 : some v = some w := f1
    injection f1 with f1
    subst f1
    refine ⟨f2, rfl, dd, _, .int i, f3, z2 _ _ f4, ?_, q _ H1 e1 (h1.pop.pushSc i)⟩
    unfold List.lookup
    rw [beq_self_eq_true])⟩
/-- the object of a caught exception, as an instance -/
theorem exp_inst {pins : List (Addr × Obj)} {σ : L2.St} {H : Hp} {s : Shared} {a0 D : Addr} {oe : Obj} {d : Option Addr} {pn : List (Addr × Obj)} {p : Pay} (I : L2.Inv (X.suite a0 ((a0, oe) :: pn)) pins σ H s) (hz : Zc (.ref D) d oe) (hf : ∃ vs, oe.data = .fields vs) (hp : payOk H d p) : ∃ od, PySem.W.InstAt s.heap a0 oe D od := by
  obtain ⟨hget, _⟩ := I.pin (a0, oe) (List.mem_append.mpr (.inl List.mem_cons_self))
  obtain ⟨vs, hv⟩ := hf
  obtain ⟨oc, od, oda, osl⟩ := oe
  obtain ⟨h1, h2⟩ := hz
  dsimp only at h1 h2 hv
  subst h1 h2 hv
  have key : ∀ dd fs, H dd = some (.xd fs) → ∃ od, s.heap.get? dd = some od := fun dd fs e => by
    have hx : ObjOk X.prog X.w H s.heap dd (.xd fs) := I.hok dd _ e
    obtain ⟨mA, hns, hr⟩ := hx
    obtain ⟨o, _, _, ho, _⟩ := hns
    exact ⟨o, ho⟩
  cases p with
  | no =>
    have : od = none := hp
    subst this
    exact ⟨none, hget, rfl, rfl, trivial⟩
  | int f i =>
    obtain ⟨dd, e1, e2⟩ := hp
    subst e1
    obtain ⟨o, ho⟩ := key dd _ e2
    exact ⟨some o, hget, rfl, rfl, ho⟩
  | txt f x =>
    obtain ⟨dd, e1, e2⟩ := hp
    subst e1
    obtain ⟨o, ho⟩ := key dd _ e2
    exact ⟨some o, hget, rfl, rfl, ho⟩
theorem call_isEP {a0 D : Addr} {oe : Obj} {d : Option Addr} {pn : List (Addr × Obj)} {p : Pay} (C : ExcC X.K D) (hz : Zc (.ref D) d oe) (hf : ∃ vs, oe.data = .fields vs) : CallR (X.suite a0 ((a0, oe) :: pn)) (.builtin "isinstance")
    (fun xs H Q => payOk H d p ∧ ∃ (c : V) (cv : Value) (b : Bool), xs = [.ref a0, c] ∧ (∀ u, RelV c u → u = cv) ∧ PySem.W.kitOne X.K (.ref D) cv = some b ∧ Q (.bl b) H) := by
  intro pins s σ H xs us Q I r h
  obtain ⟨hp, c, cv, b, rfl, hcv, e, q⟩ := h
  obtain ⟨u1, u2, rfl, r1, r2⟩ := vals2 r
  cases (show u1 = Value.ref a0 from r1)
  have ec := hcv _ r2
  subst ec
  obtain ⟨od, J⟩ := exp_inst I hz hf hp
  have hcl : (PySem.W.clsIn X.K D).isSome = true := by
    have h := C.hd
    unfold PySem.W.hasDictIn at h
    cases q : PySem.W.clsIn X.K D with
    | none => rw [q] at h; cases h
    | some cd => rfl
  exact PySem.W.kia_one (PySem.W.kitx_exc (od := od) hcl C.hg C.hk C.hs C.ha C.hn C.ht C.hm) I.kIn J e (fun z => nomatch z) fun tk => ⟨.bl b, H, I.kept (t' := tk) fun _ _ z => z, rfl, q⟩
theorem px_isEP {a0 D : Addr} {oe : Obj} {d : Option Addr} {pn : List (Addr × Obj)} {py : Pay} {c : V} {cv : Value} {z : Bool} (C : ExcC X.K D) (hz : Zc (.ref D) d oe) (hf : ∃ vs, oe.data = .fields vs) (ha : PX (X.suite a0 ((a0, oe) :: pn)) Γ a (.is (ExP.mk a0 d py))) (hb : PX (X.suite a0 ((a0, oe) :: pn)) Γ b (.is (ClA.mk c)))
    (hcv : ∀ u, RelV c u → u = cv) (hk : PySem.W.kitOne X.K (.ref D) cv = some z) (hm : X.mg "isinstance" = none) (hg : Gl X "isinstance" := by rfl)
    (he : starEach [a, b] X.env = (false, eval a X.env) :: starEach [b] X.env := by rfl) (he2 : starEach [b] X.env = (false, eval b X.env) :: starEach [] X.env := by rfl) (hpl : (backTo pos (starEach [b] X.env)).any (·.1) = false := by rfl) :
    PX (X.suite a0 ((a0, oe) :: pn)) Γ (.Call (.Name "isinstance" p) [a, b] [] pos) (.is z) :=
  px_B z (call_isEP (p := py) C hz hf) hm PyProof.Rows.boot_isinstance (ax_cons ha (ax_cons hb ax_nil he2) he) (fun B ρ σ H vs Q l h q => by
    obtain ⟨v, w, rfl⟩ := two_of l
    have e := h.topSc
    injection e with e
    subst e
    obtain ⟨_, Hd, _, z2, _, _, z5, _⟩ := id h.swap
    obtain ⟨u, f1, f2, f3⟩ := z5 _ List.mem_cons_self
    have f1 : some v = some u := f1
    injection f1 with f1
    subst f1 f2
    exact ⟨f3.mono z2, _, cv, z, rfl, hcv, hk, q⟩) hg (by decide) (by decide) he hpl
end
end DX
namespace DX
open PySem PySem.Spec PyProof.Rows L2
open DEnc (encD)
/-- (word, int) or (word, int, bool) -/
structure Tg where
  t : List Nat
  n : Int
  f : Option Bool
deriving DecidableEq
def tgV (x : Tg) : List V := match x.f with
  | none => [.str (mkS x.t), .int x.n]
  | some b => [.str (mkS x.t), .int x.n, .bl b]
def tgD (x : Tg) : List PyData := match x.f with
  | none => [encD x.t, encD x.n]
  | some b => [encD x.t, encD x.n, encD b]
instance : Enc Tg := ⟨fun K H v x => ∃ a, v = .ref a ∧ SqT K H a (tgV x), fun e ⟨a, h1, h2⟩ => ⟨a, h1, ext e h2⟩⟩
instance : DEnc Tg := ⟨fun x => .tuple (tgD x), fun {K H v x} ⟨a, h1, h2⟩ => by
  subst h1
  refine .tup h2 ?_
  obtain ⟨t, n, f⟩ := x
  cases f with
  | none => exact .cons (.str _) (.cons (.int _) .nil)
  | some b => exact .cons (.str _) (.cons (.int _) (.cons (.bl _) .nil))⟩
instance : DInj Tg := ⟨fun x y => by
  show same (.tuple (tgD x)) (.tuple (tgD y)) = true ↔ _
  unfold same
  obtain ⟨t, n, f⟩ := x
  obtain ⟨t', n', f'⟩ := y
  cases f with
  | none =>
    cases f' with
    | none => simp only [tgD, sameAll, Bool.and_true, Bool.and_eq_true_iff, DInj.inj]; simp
    | some b' => simp [tgD, sameAll]
  | some b =>
    cases f' with
    | none => simp [tgD, sameAll]
    | some b' => simp only [tgD, sameAll, Bool.and_true, Bool.and_eq_true_iff, DInj.inj]; simp⟩
end DX
namespace DX
open PySem PySem.Spec PyProof.Rows L2
theorem free_only {names : List (Str × NameKind)} (h : ∀ p ∈ names, p.2 = .cell ∨ p.2 = .free → p.1 = ("__class__" : Str)) : ∀ y, (names.lookup y = some .cell ∨ names.lookup y = some .free) → y = ("__class__" : Str) := by
  intro y
  induction names with
  | nil => intro q; rcases q with q | q <;> cases q
  | cons p ps ih =>
    obtain ⟨a, b⟩ := p
    intro q
    unfold List.lookup at q
    cases e : (y == a) with
    | true =>
      rw [e] at q
      have ey : y = a := beq_iff_eq.mp e
      rw [ey]
      refine h (a, b) List.mem_cons_self ?_
      rcases q with q | q
      · injection q with q; exact .inl q
      · injection q with q; exact .inr q
    | false =>
      rw [e] at q
      exact ih (fun p hp => h p (List.mem_cons_of_mem _ hp)) q
section
variable {P : Program} {w : World} {K : PySem.W.Frag} {mg : Str → Option Value} {base : Heap}
theorem ecf_of {st : Stmt} {x fld par qual msg : Str} {C fI cda cc : Addr} {oc ccl cl : Value} {od an cdd cld : Option Addr} {dV kV doc pm ct : Value} {osl ccs csl : Array (Option Value)} {vs0 : Array Value} {file : Str} {tf : Tok} {ar : Arg} {p0 p1 p2 p3 p4 p5 p6 p7 p8 p9 : Pos} {j : Nat}
    (gC : mg x = some (.ref C)) (iC : PySem.W.findIn K (.ref C) "__init__" = some (some (.ref fI))) (tI : PySem.W.typeIn K (.ref fI) = some (.type "function"))
    (T : OexC K C) (noF : PySem.W.findIn K (.ref C) fld = some none) (sup : PySem.W.ks_superIn K C C "__init__" = some (some (.builtin "ValueError.__init__"))) (sub : PySem.W.subIn K (.ref C) (.type "ValueError") = some true) (slf : PySem.W.mroIn K C (.ref C) = some true)
    (any : PySem.W.nsIn K cStatics "thirdparty.any" = some none) (q0 : PySem.W.excInitIn K C [.type "ValueError", .type "Exception", .type "BaseException", .type "object"] "ValueError.__new__" = true) (nos : mg "super" = none) (top : (P.main.scope.names.lookup ("super" : Str)).isSome = false)
    (lk : K.lookup fI = some ⟨oc, od, .func (PySem.W.ksFn "__init__" qual (defArgs st) (defBody st) (defScope st) dV kV doc pm an (.ref cda) ct cc), osl⟩) (hcd : PySem.W.codeIn K (.ref cda) qual = true) (hcode : K.lookup cda = some ⟨ccl, cdd, .fields vs0, ccs⟩) (hvs : vs0[2]? = some (.str file tf)) (hfile : ((P.main.file : Str) == file) = true)
    (hcell : K.lookup cc = some ⟨cl, cld, .cell (some (.ref C)), csl⟩) (hpar : ((defArgs st).posonlyargs ++ (defArgs st).args).head? = some ar) (har : ar.arg = "self")
    (hb : defBody st = [.Expr (.Call (.Attribute (.Call (.Name "super" p0) [] [] p1) "__init__" p2) [.Constant (.str msg) j p3] [] p4) p5, .Assign [.Attribute (.Name "self" p6) fld p7] (.Name par p8) p9])
    (hk : (defScope st).kind = .function) (hco : (defScope st).isCoroutine = false) (hge : (defScope st).isGenerator = false) (hn : (("self" : Str) == par) = false) (hn2 : (par == ("self" : Str)) = false) (hl0 : (defScope st).names.lookup ("self" : Str) = some .local) (hl1 : (defScope st).names.lookup par = some .local) (hls : (defScope st).names.lookup ("super" : Str) = some .globalImplicit) (hlc : (defScope st).names.lookup ("__class__" : Str) = some .free)
    (hfree : ∀ p ∈ (defScope st).names, p.2 = .cell ∨ p.2 = .free → p.1 = ("__class__" : Str)) (hnc : ∀ x ∈ (defScope st).names, x.2 ≠ .cell) (hdp : (par == ("__debug__" : Str)) = false) (hcp : (par == ("__classdict__" : Str)) = false)
    (hsw : ∀ env : Env, swapsWith (.Name par p8) (some (.Attribute (.Name "self" p6) fld p7)) p9.line env = pure false) (hsx : ∀ env : Env, swapsWith (.Call (.Attribute (.Call (.Name "super" p0) [] [] p1) "__init__" p2) [.Constant (.str msg) j p3] [] p4) none p5.line env = pure false)
    (hev : ∀ env : Env, ∃ pl : Sem Bool, eval (.Call (.Attribute (.Call (.Name "super" p0) [] [] p1) "__init__" p2) [.Constant (.str msg) j p3] [] p4) env = (do
      let ov ← attributeBase (.Call (.Name "super" p0) [] [] p1) "__init__" env (eval (.Call (.Name "super" p0) [] [] p1) env)
      standAt p2.atName
      let (f, first) ← holding [ov] (getMethod ov "__init__" pl)
      callWith p4 f first (backTo p4 (starEach [.Constant (.str msg) j p3] env)) []))
    (bd : ∀ us : List Value, us.length = 2 → bindArgs (PySem.W.ksFn "__init__" qual (defArgs st) (defBody st) (defScope st) dV kV doc pm an (.ref cda) ct cc) ⟨us, []⟩ = pure (([("self" : Str), par] : List Str).zip us)) : ECF P w K mg base x fld C :=
  ⟨T, gC, noF, fI, _, par, iC, tI, exc_init T noF sup sub slf any q0 nos top lk hcd hcode hvs hfile hcell hpar har hb hk hco hge hn hn2 hl0 hl1 hls hlc (free_only hfree) hnc hdp hcp hsw hsx hev, .all bd⟩
end
end DX
namespace DX
open PySem PySem.Spec PyProof.Rows L2
section
variable {X : Cx} {Γ : List Sl} {e a b c : Expr} {es : List Expr} {s : Sl} {ss : List Sl} {pos p p1 p2 p3 apos cpos : Pos}
theorem call_isEPT {a0 D : Addr} {oe : Obj} {d : Option Addr} {pn : List (Addr × Obj)} {py : Pay} (C : ExcC X.K D) (hz : Zc (.ref D) d oe) (hf : ∃ vs, oe.data = .fields vs) : CallR (X.suite a0 ((a0, oe) :: pn)) (.builtin "isinstance")
    (fun xs H Q => payOk H d py ∧ ∃ (tp : Addr) (cs : List V) (k : List Value) (b : Bool), xs = [.ref a0, .ref tp] ∧ H tp = some (.tup cs) ∧ Paired ClsV cs k ∧ PySem.W.kitAny X.K (.ref D) k = some b ∧ Q (.bl b) H) := by
  intro pins s σ H xs us Q I r h
  obtain ⟨hp, tp, cs, k, b, rfl, hT, hk, e, q⟩ := h
  obtain ⟨u1, u2, rfl, r1, r2⟩ := vals2 r
  cases (show u1 = Value.ref a0 from r1)
  cases (show u2 = Value.ref tp from r2)
  obtain ⟨od, J⟩ := exp_inst I hz hf hp
  have hcl : (PySem.W.clsIn X.K D).isSome = true := by
    have h := C.hd
    unfold PySem.W.hasDictIn at h
    cases q : PySem.W.clsIn X.K D with
    | none => rw [q] at h; cases h
    | some cd => rfl
  obtain ⟨_, its, rv, o, h1, h2, n, h3⟩ := (show ObjOk X.prog X.w H s.heap tp (.tup cs) from I.hok tp _ hT)
  have e3 := ClsV.all hk rv
  subst e3
  obtain ⟨oc, od', dt, sl⟩ := o
  simp only at h2 h3
  subst h2 h3
  exact PySem.W.kia_tup (PySem.W.kitx_exc (od := od) hcl C.hg C.hk C.hs C.ha C.hn C.ht C.hm) I.kIn J h1 e (fun z => nomatch z) fun tk => ⟨.bl b, H, I.tok tk, rfl, q⟩
theorem px_isEPT {a0 D : Addr} {oe : Obj} {d : Option Addr} {pn : List (Addr × Obj)} {py : Pay} {cs : List ClA} {us : List Value} {z : Bool} {x1 : Nat} (C : ExcC X.K D) (hz : Zc (.ref D) d oe) (hf : ∃ vs, oe.data = .fields vs) (ha : PX (X.suite a0 ((a0, oe) :: pn)) Γ a (.is (ExP.mk a0 d py))) (hb : AX (X.suite a0 ((a0, oe) :: pn)) Γ es (cs.map Sl.is))
    (hl : cs.length ≤ sizeLine) (hcv : Paired ClsV (cs.map (·.v)) us) (hk : PySem.W.kitAny X.K (.ref D) us = some z) (hm : X.mg "isinstance" = none) (hg : Gl X "isinstance" := by rfl)
    (he : starEach [a, .Tuple es x1 p3] X.env = (false, eval a X.env) :: starEach [.Tuple es x1 p3] X.env := by rfl) (he2 : starEach [.Tuple es x1 p3] X.env = (false, eval (.Tuple es x1 p3) X.env) :: starEach [] X.env := by rfl) (hpl : (backTo pos (starEach [.Tuple es x1 p3] X.env)).any (·.1) = false := by rfl) :
    PX (X.suite a0 ((a0, oe) :: pn)) Γ (.Call (.Name "isinstance" p) [a, .Tuple es x1 p3] [] pos) (.is z) :=
  ⟨fun B ρ σ H h Q q => goE (pe_callB (call_isEPT (py := py) C hz hf) hg hm PyProof.Rows.boot_isinstance (pa_cons peW (pa_cons (pe_tup paW) pa_nil he2) he) (by decide) (by decide) he hpl) (ha.run B ρ σ H h _ fun v H1 e1 h1 => hb.run B _ σ H1 h1 _ fun vs H2 e2 l h2 => by
    have l' : vs.length = cs.length := by simpa using l
    refine ⟨by rw [l']; exact hl, fun tp hp => ?_⟩
    obtain ⟨zl, Hd, z1, z2, z3, z4, z5, z6⟩ := id h2
    have pr := paired_cls (paired_of l' fun r hr => z5 r (List.mem_append_left _ (pushAll_mem (.inl hr))))
    obtain ⟨_, Hd1, _, y2, _, _, y5, _⟩ := id h1
    obtain ⟨u, f1, f2, f3⟩ := y5 _ List.mem_cons_self
    have f1 : some v = some u := f1
    injection f1 with f1
    subst f1 f2
    refine ⟨f3.mono (y2.trans (e2.trans (Ex.new hp))), tp, vs, us, z, rfl, upd_same, by rw [pr]; exact hcv, hk, ?_⟩
    exact q _ _ ((e1.trans e2).trans (Ex.new hp)) (((h2.popAll.pop).grow (Ex.new hp)).pushSc z))⟩
end
end DX
namespace DX
open PySem PySem.Spec PyProof.Rows L2
def LXU (K : PySem.W.Frag) (mg : Str → Option Value) (W : L2.WX) : Leaf (Res Unit) := fun B m D _ => match m with
  | .ok _ => (∀ v H', RetE K B H' v (.is ()) → D.rt v H') ∧ ∀ σ' H', RetE K B H' .non (.is ()) → D.nx σ' H'
  | .error e => ∀ cls d σ H', Ex B.2 H' → IsErr mg B.2 H' cls d e → W cls d σ H'
theorem errs_XU {K : PySem.W.Frag} {mg : Str → Option Value} {W : L2.WX} : Errs mg (LXU K mg W) W Except.error := fun B e D ρ l => l
theorem rts_XU {K : PySem.W.Frag} {mg : Str → Option Value} {W : L2.WX} : Rts (LXU K mg W) (LX K mg (fun (r : Unit) => .is r) W) (fun r => r) := fun B r D D' ρ ρ' h l => by
  cases r with
  | ok r =>
    intro v H' q
    rw [h]
    exact l.1 v H' q
  | error e => exact l
theorem sx_endXU {X : Cx} {Γ : List Sl} {W : L2.WX} : SX X (LXU X.K X.mg W) Γ [] (.ok ()) := ⟨fun B ρ σ H D hb h l => l.2 σ H ((h.pushSc ()).ret trivial)⟩
section
variable {P : Program} {w : World} {K : PySem.W.Frag} {mg : Str → Option Value} {base : Heap}
theorem defOkXU {ι : Type} {x fnm qual : Str} {st : Stmt} {f : Addr} {fd : FuncData} {N ps : List Str} {kk : Nat} (F : Fun K fnm qual st f fd) (hm : mg x = some (.ref f)) (S : FnScope N ps (defScope st)) (bd : Binds K fd ps [])
    (pre : ι → Prop) (args : ι → List Sl) (mi : ι → Res Unit) (hn : ∀ i, (args i).length = ps.length)
    (body : ∀ (i : ι), pre i → ∀ (cdv : Value) (A : Around) (outer : List Env) (s : Shared) (H : Hp) (E : XK), Room kk (A.deeper (envOfC qual (defScope st) s.heap.objs.size f cdv)) →
      SX (cxOf (L2.CX P w) P w K mg base N qual (defScope st) f cdv A outer s H E) (LXU K mg fun cls d _ H' => E cls d H') (args i ++ List.replicate (N.length - ps.length) .no) [defBody st] (mi i)) :
    DefOkX P w K mg base (kk + 1) x ps.length (spX K mg pre args (fun r => .is r) mi) := by
  refine ⟨f, fd, ps, ?_, hm, F.kp, bd, rfl⟩
  refine F.okX S (fun vs H Q E ⟨_, i, _, _, l, _⟩ => l.trans (hn i)) fun cdv A outer s H vs Q E hr h => ?_
  refine ⟨wS _ (defBody st), pssW, ?_⟩
  obtain ⟨Hd0, i, h1, hp, hl, ha, q⟩ := h
  refine r0w ((body i hp cdv A outer s H E hr).run (Hd0, H) [] (L2.start N vs) H { nx := fun _ H' => Q .non H', rt := Q } (fun p hp => nomatch hp) (start_has h1 hl (hn i) ha) ?_)
  cases hm : mi i with
  | ok r =>
    rw [hm] at q
    have key : ∀ v H', RetE K (Hd0, H) H' v (.is ()) → Q v H' := by
      intro v H' hv
      obtain ⟨Hd, a1, a2, a3, a4, a5⟩ := hv
      exact q v H' Hd a1 a2 a3 a4 a5
    exact ⟨key, fun σ' H' hv => key _ H' hv⟩
  | error e =>
    rw [hm] at q
    exact fun cls d σ H' ex ie => q cls d H' ex ie
end
end DX
namespace DX
open PySem PySem.Spec PyProof.Rows L2
open DEnc (encD)
/-- what the text's facts say of a class with these fields -/
structure CKg (K : PySem.W.Frag) (mg : Str → Option Value) (cls : Str) (fl : List Str) (C : Addr) : Prop where
  at' : ClsAt K cls C
  mg' : mg cls = some (.ref C)
  cl : Cls K C
  na : ∀ f ∈ fl, NoAttr K C f
  ha : PySem.W.findIn K (.ref C) "__class__" = some (some (.builtin "object.__class__"))
  hn : PySem.W.specialIn K (.builtin "object.__class__") "__get__" = some (some (.builtin "getset_descriptor.__get__"))
  ht : PySem.W.takesIn K (.builtin "object.__class__") = some true
  hm : PySem.W.mroIn K C (.type "object") = some true
structure RowD where
  s : List Nat
instance : Inhabited RowD := ⟨⟨[]⟩⟩
instance encRow : Enc RowD where
  rep := fun K H v x => ∃ a C dx, v = .ref a ∧ ClsAt K "Row" C ∧ H a = some (.ins C dx [("letters", .str (mkS x.s))])
  mono := fun e ⟨a, C, dx, h1, h2, h3⟩ => ⟨a, C, dx, h1, h2, e _ _ h3⟩
instance : Ob RowD := ⟨"Row", ["letters"], fun ⟨a, C, dx, h1, h2, h3⟩ => ⟨a, C, dx, _, h1, h2, h3, rfl⟩⟩
end DX
namespace DX
open PySem PySem.Spec PyProof.Rows L2
open DEnc (encD)
/-- what the clauses wish of an exception, one after the other -/
def wManyG (K : PySem.W.Frag) (D : Ends) : List (Value × Option Nat × (Addr → Value → Option Addr → TS)) → L2.WX
  | [] => fun _ _ _ _ => False
  | (c, none, ts) :: r => fun cls d σ H => ∃ b, PySem.W.exmOne K cls c = some b ∧ (b = true → ∀ a, H a = none → ts a cls d D σ H) ∧ (b = false → wManyG K D r cls d σ H)
  | (c, some i, ts) :: r => fun cls d σ H => ∃ b, PySem.W.exmOne K cls c = some b ∧ (b = true → ∀ a, H a = none → ts a cls d { nx := fun σ' H' => D.nx (σ'.set i none) H', rt := D.rt, bk := fun σ' H' => D.bk (σ'.set i none) H', ct := fun σ' H' => D.ct (σ'.set i none) H' } (σ.set i (some (.ref a))) H) ∧ (b = false → wManyG K D r cls d σ H)
inductive HdsG (X : Cx) : List ExceptHandler → List (Value × Option Nat × (Addr → Value → Option Addr → TS)) → Prop
  | nil : HdsG X [] []
  | cons0 {x : Str} {c : Value} {ts : Addr → Value → Option Addr → TS} {b₀ : Stmt} {suite : List Stmt} {np pos' : Pos} {hds : List ExceptHandler} {l} (hc : Names X x c)
      (hsu : ∀ (a : Addr) (oe : Obj) (cls : Value) (d : Option Addr) (pn : List (Addr × Obj)), Zc cls d oe → (∃ vs, oe.data = .fields vs) → PSs (X.suite a ((a, oe) :: pn)) (b₀ :: suite) (ts a cls d)) (r : HdsG X hds l) :
      HdsG X (.ExceptHandler (some (.Name x np)) none (b₀ :: suite) pos' :: hds) ((c, none, ts) :: l)
  | consN {x n : Str} {i : Nat} {c : Value} {ts : Addr → Value → Option Addr → TS} {b₀ : Stmt} {suite : List Stmt} {np pos' : Pos} {hds : List ExceptHandler} {l} (hc : Names X x c) (hi : X.N[i]? = some n) (hln : X.env.kindOf n = some .local)
      (hsu : ∀ (a : Addr) (oe : Obj) (cls : Value) (d : Option Addr) (pn : List (Addr × Obj)), Zc cls d oe → (∃ vs, oe.data = .fields vs) → PSs (X.suite a ((a, oe) :: pn)) (b₀ :: suite) (ts a cls d)) (r : HdsG X hds l) :
      HdsG X (.ExceptHandler (some (.Name x np)) (some n) (b₀ :: suite) pos' :: hds) ((c, some i, ts) :: l)
section
variable {X : Cx} {body : List Stmt} {h₀ : ExceptHandler} {hds : List ExceptHandler} {l : List (Value × Option Nat × (Addr → Value → Option Addr → TS))} {pos : Pos} {tb : L2.WX → TS}
theorem ps_try_G (hs : X.stack = X.env :: X.outer) (hf : X.env.frame = some X.env.locals) (hN : X.N.Nodup)
    (hb : ∀ (W : L2.WX) (pn : List (Addr × Obj)) (xe : Value → Shared → Prop), Takes (X.tr pn xe) W → PassesOwn (model X.prog X.w) X.A X.env xe → PSs (X.tr pn xe) body (tb W))
    (hh : HdsG X (h₀ :: hds) l) : PS X (.Try body (h₀ :: hds) [] [] pos) (fun D σ H => tb (wManyG X.K D l) D σ H) := by
  refine ⟨fun pins s σ H D I h => ?_⟩
  have ok := I.ok
  have hfr : X.A.frames = some (X.env :: X.outer) := by rw [ok.frames, hs]
  refine wpAny_Try_except ?_
  refine wpAny_mono ((hb (wManyG X.K D l) (X.pn ++ pins) (fun e s₁ => wpAny (model X.prog X.w) X.A (noteFrame e X.env) (fun _ s₂ => wpAny (model X.prog X.w) X.A (setFlight e none) (fun _ s₃ =>
    wpAny (model X.prog X.w) X.A (handleBy e X.env (h₀ :: hds)) (SP X pins D) X.xe s₃) X.xe s₂) X.xe s₁) (fun u s' xx => ?_) PassesOwn.looking).run [] s σ H D (I.toTry _) h) (fun f s1 hsp => ?_) (fun e s1 he => he)
  · -- the catch
    obtain ⟨a, B, sI, pins', σ', H', cls, d, rfl, J', nb, up, sky, na, os, ag, w⟩ := xx
    have J : Inv X pins σ' H' sI := J'.ofTry ok
    have sky' : Sky B (X.env :: X.outer) a (Zc cls d) X.env.locals s'.heap := by rw [← hs]; exact sky
    show wpAny (model X.prog X.w) X.A (noteFrame (.ref a) X.env) _ _ _
    refine Sky.land Zc.steady hfr hf sky' fun h3 fl3 up3 => ?_
    have J3 : Inv X pins σ' H' { s' with heap := h3 } := J.landed nb fl3.1 (up.trans up3) os ag
    obtain ⟨oe3, vs3, he3, hz3, hd3⟩ := fl3.there
    have notFr : ∀ {h : Heap} {o : Obj} {vs : Array Value}, h.FunFrames B (X.env :: X.outer) → h.get? a = some o → o.data = .fields vs → a ∉ frs (X.env :: X.outer) := fun {h o vs} ff e dd hm => by
      obtain ⟨_, o', e', hnf⟩ := ff.mem hm
      rw [e] at e'; cases e'
      exact hnf _ dd
    have nfr := notFr fl3.2.2.1 he3 hd3
    have nL : a ≠ X.env.locals := fun z => nfr (List.mem_filterMap.mpr ⟨X.env, List.mem_cons_self, by rw [hf, z]⟩)
    have nF : a ∉ X.fs := fun hm => by
      obtain ⟨e, he, q⟩ := List.mem_filterMap.mp hm
      exact nfr (List.mem_filterMap.mpr ⟨e, List.mem_cons_of_mem _ he, q⟩)
    have S3 := J3.suite he3 hd3 na nL nF
    have LT : PySem.W.Looks (model X.prog X.w) h3 (typeOf (.ref a)) cls := fun A Q E s k q => wpAny_typeOf_ref (k _ _ he3) (by rw [hz3.1]; exact q)
    have test : ∀ {x : Str} {c : Value} {np : Pos} {Q : Value → Shared → Prop} {E : Value → Shared → Prop}, Names X x c → Q c { s' with heap := h3 } → wpAny (model X.prog X.w) (X.A.mark (some (.ref a))) (eval (.Name x np) X.env) Q E { s' with heap := h3 } := fun {x c np Q E} hc q => by
      obtain ⟨hg, hdbg, hm | ⟨hm, hv, hnn⟩⟩ := hc
      · exact ld_glob (X := X.suite a ((a, oe3) :: (X.pn ++ pins))) S3 hg hm q hdbg
      · exact ld_blt (X := X.suite a ((a, oe3) :: (X.pn ++ pins))) S3 hg hm hv q hnn hdbg
    have go : ∀ {hds' : List ExceptHandler} {l'}, HdsG X hds' l' → wManyG X.K D l' cls d σ' H' →
        wpAny (model X.prog X.w) X.A (handleBy (.ref a) X.env hds') (SP X pins D) X.xe { s' with heap := h3 } := by
      intro hds' l' hk
      induction hk with
      | nil => exact fun w => w.elim
      | @cons0 x c ts b₀ suite np pos' hds2 l2 hc hsu r ih =>
        intro w
        obtain ⟨b, hb1, hyes, hno⟩ := w
        refine wpAny_handleBy_cons (codeAny_handlers_test ?_) (by intro q; cases q)
        have LM := PySem.W.exm_one (M := model X.prog X.w) (J3.kIn) LT hb1
        refine test hc (LM.here ?_)
        cases b with
        | true =>
          refine codeAny_handlers_suite ?_
          refine HandSPX.lands_againZ fl3 fun h4 fl4 up4 => ?_
          have J4 : Inv X pins σ' H' { s' with heap := h4 } := J.landed nb fl4.1 ((up.trans up3).trans up4) os ag
          obtain ⟨oe4, vs4, he4, hz4, hd4⟩ := fl4.there
          have S4 := J4.suite he4 hd4 na nL nF
          refine wpAny_mono ((hsu a oe4 cls d (X.pn ++ pins) hz4 ⟨_, hd4⟩).run [] _ _ H' _ S4 (hyes rfl a na)) (fun f s6 hsp => ?_) (fun _ _ z => False.elim z)
          cases f with
          | next =>
            obtain ⟨σ6, H6, S6, q6⟩ := hsp
            exact ⟨_, _, S6.unsuite ok, q6⟩
          | brk =>
            obtain ⟨σ6, H6, S6, q6⟩ := hsp
            exact ⟨_, _, S6.unsuite ok, q6⟩
          | cont =>
            obtain ⟨σ6, H6, S6, q6⟩ := hsp
            exact ⟨_, _, S6.unsuite ok, q6⟩
          | ret u =>
            obtain ⟨v6, σ6, H6, S6, r6, q6⟩ := hsp
            exact ⟨_, _, _, S6.unsuite ok, r6, q6⟩
        | false =>
          show wpAny _ X.A (handleBy (.ref a) X.env hds2) _ _ _
          exact ih (hno rfl)
      | @consN x n i c ts b₀ suite np pos' hds2 l2 hc hi hln hsu r ih =>
        intro w
        obtain ⟨b, hb1, hyes, hno⟩ := w
        have hloc : Loc X.env.scope n := .inl hln
        refine wpAny_handleBy_cons (codeAny_handlers_test ?_) (by intro q; cases q)
        have LM := PySem.W.exm_one (M := model X.prog X.w) (J3.kIn) LT hb1
        refine test hc (LM.here ?_)
        cases b with
        | true =>
          refine codeAny_handlers_suite_as ?_
          refine HandSPX.lands_againZ fl3 fun h4 fl4 up4 => ?_
          have J4 : Inv X pins σ' H' { s' with heap := h4 } := J.landed nb fl4.1 ((up.trans up3).trans up4) os ag
          obtain ⟨oe4, vs4, he4, hz4, hd4⟩ := fl4.there
          have S4 := J4.suite he4 hd4 na nL nF
          refine store_ok (X := X.suite a ((a, oe4) :: (X.pn ++ pins))) (v := .ref a) S4 hN hi hloc rfl (fun s5 S5 => ?_) (.inr hln)
          refine wpAny_mono ((hsu a oe4 cls d (X.pn ++ pins) hz4 ⟨_, hd4⟩).run [] s5 _ H' _ S5 (hyes rfl a na)) (fun f s6 hsp => ?_) (fun _ _ z => False.elim z)
          have end_ : ∀ {σ6 : L2.St} {H6 : Hp} {Q : Shared → Prop}, Inv (X.suite a ((a, oe4) :: (X.pn ++ pins))) [] σ6 H6 s6 → (∀ s7, Inv X pins (σ6.set i none) H6 s7 → Q s7) →
              wpAny (model X.prog X.w) X.A (do bindName X.env n .none; unbindBehindTheSuite X.env n pos') (fun _ s7 => Q s7) X.xe s6 := fun {σ6 H6 Q} S6 hq => gone_ok (S6.unsuite ok) hN hi hln hq
          cases f with
          | next =>
            obtain ⟨σ6, H6, S6, q6⟩ := hsp
            exact end_ S6 fun s7 J7 => ⟨_, _, J7, q6⟩
          | brk =>
            obtain ⟨σ6, H6, S6, q6⟩ := hsp
            exact end_ S6 fun s7 J7 => ⟨_, _, J7, q6⟩
          | cont =>
            obtain ⟨σ6, H6, S6, q6⟩ := hsp
            exact end_ S6 fun s7 J7 => ⟨_, _, J7, q6⟩
          | ret u =>
            obtain ⟨v6, σ6, H6, S6, r6, q6⟩ := hsp
            exact end_ S6 fun s7 J7 => ⟨_, _, _, J7, r6, q6⟩
        | false =>
          show wpAny _ X.A (handleBy (.ref a) X.env hds2) _ _ _
          exact ih (hno rfl)
    exact go hh w
  · cases f with
    | next =>
      obtain ⟨σ', H', J', q⟩ := hsp
      exact wpAny_execs_nil ⟨σ', H', J'.ofTry ok, q⟩
    | brk =>
      obtain ⟨σ', H', J', q⟩ := hsp
      exact ⟨σ', H', J'.ofTry ok, q⟩
    | cont =>
      obtain ⟨σ', H', J', q⟩ := hsp
      exact ⟨σ', H', J'.ofTry ok, q⟩
    | ret u =>
      obtain ⟨v, σ', H', J', r, q⟩ := hsp
      exact ⟨v, σ', H', J'.ofTry ok, r, q⟩
end
/-- the clauses' classes are names of the text -/
inductive HdsN (X : Cx) : List ExceptHandler → List (Value × Option Nat) → Prop
  | nil : HdsN X [] []
  | cons0 {x : Str} {c : Value} {b₀ : Stmt} {suite : List Stmt} {np pos' : Pos} {hds : List ExceptHandler} {l} (hc : Names X x c) (r : HdsN X hds l) : HdsN X (.ExceptHandler (some (.Name x np)) none (b₀ :: suite) pos' :: hds) ((c, none) :: l)
  | consN {x n : Str} {c : Value} {b₀ : Stmt} {suite : List Stmt} {np pos' : Pos} {hds : List ExceptHandler} {l} (i : Nat) (hc : Names X x c) (r : HdsN X hds l) (hi : X.N[i]? = some n := by rfl) (hln : X.env.kindOf n = some .local := by rfl) : HdsN X (.ExceptHandler (some (.Name x np)) (some n) (b₀ :: suite) pos' :: hds) ((c, some i) :: l)
/-- an error of the class C, with this payload, is dealt with: m is what comes of it -/
inductive HdsE (X : Cx) {M : Type} (L : Leaf M) (Γ : List Sl) (C : Addr) (py : Pay) (m : M) : List ExceptHandler → List (Value × Option Nat) → Prop
  | no {x : Str} {c : Value} {o : Option Nat} {no : Option Str} {b₀ : Stmt} {suite : List Stmt} {np pos' : Pos} {hds : List ExceptHandler} {l} (h : PySem.W.exmOne X.K (.ref C) c = some false) (r : HdsE X L Γ C py m hds l) : HdsE X L Γ C py m (.ExceptHandler (some (.Name x np)) no (b₀ :: suite) pos' :: hds) ((c, o) :: l)
  | yes0 {x : Str} {c : Value} {b₀ : Stmt} {suite : List Stmt} {np pos' : Pos} {hds : List ExceptHandler} {l} (h : PySem.W.exmOne X.K (.ref C) c = some true)
      (q : ∀ (a : Addr) (oe : Obj) (d : Option Addr) (pn : List (Addr × Obj)), Zc (.ref C) d oe → (∃ vs, oe.data = .fields vs) → SX (X.suite a ((a, oe) :: pn)) L Γ [b₀ :: suite] m) : HdsE X L Γ C py m (.ExceptHandler (some (.Name x np)) none (b₀ :: suite) pos' :: hds) ((c, none) :: l)
  | yesN {x n : Str} {i : Nat} {c : Value} {b₀ : Stmt} {suite : List Stmt} {np pos' : Pos} {hds : List ExceptHandler} {l} (h : PySem.W.exmOne X.K (.ref C) c = some true)
      (q : ∀ (a : Addr) (oe : Obj) (d : Option Addr) (pn : List (Addr × Obj)), Zc (.ref C) d oe → (∃ vs, oe.data = .fields vs) → SX (X.suite a ((a, oe) :: pn)) L (Γ.set i (.is (ExP.mk a d py))) [b₀ :: suite] m) : HdsE X L Γ C py m (.ExceptHandler (some (.Name x np)) (some n) (b₀ :: suite) pos' :: hds) ((c, some i) :: l)
section
variable {X : Cx} {M : Type} {L : Leaf M} {Γ : List Sl} {k : List (List Stmt)} {sts : List Stmt} {pos : Pos} {e : Expr} {err : PErr}
theorem sx_try_g {R : Type} {body : List Stmt} {h₀ : ExceptHandler} {hds : List ExceptHandler} {l : List (Value × Option Nat)} {Y : Res R} {mo : R → M} {mh : PErr → M} (hN : X.N.Nodup) (hh : HdsN X (h₀ :: hds) l)
    (hL : Rts L L (fun r => r))
    (hok : ∀ r, Y = .ok r → ∀ pn xe, PassesOwn (model X.prog X.w) X.A X.env xe → SX (X.tr pn xe) L Γ [body] (mo r))
    (herr : ∀ e, Y = .error e → (∀ W pn xe, Takes (X.tr pn xe) W → PassesOwn (model X.prog X.w) X.A X.env xe → ∀ (B : Hp × Hp) (ρ : List Slot) (σ : L2.St) (H : Hp) (D : Ends), HasE X.K B H ρ σ Γ → (∀ cls d H', Ex H H' → IsErr X.mg H H' cls d e → W cls d σ H') → wC (X.tr pn xe) [body] D σ H) ∧
      ∃ C : Addr, X.mg e.nm = some (.ref C) ∧ HdsE X L Γ C e.pay (mh e) (h₀ :: hds) l)
    (hs : X.stack = X.env :: X.outer := by rfl) (hf : X.env.frame = some X.env.locals := by rfl) :
    SX X L Γ ((.Try body (h₀ :: hds) [] [] pos :: sts) :: k) (exK Y mh mo) := by
  have end_ : ∀ {X' : Cx} {b : List Stmt} {D : Ends} {σ : L2.St} {H : Hp}, wC X' [b] D σ H → wS X' b D σ H := fun q => q
  let tsOf : ExceptHandler → Addr → Value → Option Addr → TS := fun hd a cls d D σ H => match hd with
    | .ExceptHandler _ _ su _ => ∀ oe pn, Zc cls d oe → (∃ vs, oe.data = .fields vs) → wS (X.suite a ((a, oe) :: pn)) su D σ H
  let full : List ExceptHandler → List (Value × Option Nat) → List (Value × Option Nat × (Addr → Value → Option Addr → TS)) := fun hs l => (hs.zip l).map fun p => (p.2.1, p.2.2, tsOf p.1)
  have hG : ∀ {hs : List ExceptHandler} {l}, HdsN X hs l → HdsG X hs (full hs l) := by
    intro hs l h
    induction h with
    | nil => exact .nil
    | cons0 hc r ih => exact .cons0 hc (fun a oe cls d pn hz hf => ⟨fun pins s σ H D I q => q oe pn hz hf pins s I⟩) ih
    | consN i hc r hi hln ih => exact .consN hc hi hln (fun a oe cls d pn hz hf => ⟨fun pins s σ H D I q => q oe pn hz hf pins s I⟩) ih
  refine ⟨fun B ρ σ H D hb h lf => wC_cons (go1 (ps_try_G hs hf hN
    (tb := fun W D σ H => ∀ pn xe, Takes (X.tr pn xe) W → PassesOwn (model X.prog X.w) X.A X.env xe → wS (X.tr pn xe) body D σ H)
    (fun W pn xe tk po => ⟨fun pins s σ H D I q => q pn xe tk po pins s I⟩) (hG hh)) ?_)⟩
  intro pn xe tk po
  unfold exK at lf
  cases hY : Y with
  | ok r =>
    rw [hY] at lf
    exact end_ ((hok r hY pn xe po).run B ρ σ H _ hb h (hL B (mo r) D _ ρ ρ rfl lf))
  | error e =>
    rw [hY] at lf
    obtain ⟨h1, C, g1, g2⟩ := herr e hY
    refine end_ (h1 _ pn xe tk po B ρ σ H _ h fun cls d H' ex ie => ?_)
    have ec : cls = .ref C := by
      have := ie.1
      rw [g1] at this
      injection this with this
      exact this.symm
    subst ec
    clear hh
    have key : ∀ {hs : List ExceptHandler} {l}, HdsE X L Γ C e.pay (mh e) hs l → ∀ nx bk ct, wManyG X.K { nx := nx, rt := D.rt, bk := bk, ct := ct } (full hs l) (.ref C) d σ H' := by
      intro hs l g
      induction g with
      | @no x c o n b₀ suite np pos' hds2 l2 hf r ih =>
        intro nx bk ct
        cases o with
        | none => exact ⟨false, hf, (fun z => nomatch z), fun _ => ih nx bk ct⟩
        | some i => exact ⟨false, hf, (fun z => nomatch z), fun _ => ih nx bk ct⟩
      | yes0 ht q =>
        intro nx bk ct
        exact ⟨true, ht, fun _ a na oe pn' hz hf' => end_ ((q a oe d pn' hz hf').run B ρ _ H' _ hb (h.grow ex) (hL B (mh e) D _ ρ ρ rfl lf)), fun z => nomatch z⟩
      | @yesN x n i c b₀ suite np pos' hds2 l2 ht q =>
        intro nx bk ct
        refine ⟨true, ht, fun _ a na oe pn' hz hf' => ?_, fun z => nomatch z⟩
        have hp := h.caught (a := a) ex ie.2.1 ie.2.2
        exact end_ ((q a oe d pn' hz hf').run B ρ _ H' _ hb (HasE.set i hp) (hL B (mh e) D _ ρ ρ rfl lf))
    exact key g2 _ _ _
/-- the body's first statement raises -/
theorem tr_retS (he : ∀ W pn xe, Takes (X.tr pn xe) W → PXr (X.tr pn xe) W Γ e err) : ∀ W pn xe, Takes (X.tr pn xe) W → PassesOwn (model X.prog X.w) X.A X.env xe → ∀ (B : Hp × Hp) (ρ : List Slot) (σ : L2.St) (H : Hp) (D : Ends), HasE X.K B H ρ σ Γ → (∀ cls d H', Ex H H' → IsErr X.mg H H' cls d err → W cls d σ H') → wC (X.tr pn xe) [.Return (some e) pos :: sts] D σ H :=
  fun W pn xe tk po B ρ σ H D h w => wC_cons (go1 (ps_ret peW) ((he W pn xe tk).run B ρ σ H h w _))
end
def payI (e : PErr) : Int := match e.pay with
  | .int _ i => i
  | _ => 0
end DX
namespace DX
open PySem PySem.Spec PyProof.Rows L2
open DEnc (encD)
class FL (α : Type) [Enc α] [DEnc α] where
  dep : Nat
  lim : α → Prop
  ok : ∀ (x : α) (n : Nat), dep ≤ n → lim x → flatD n (encD x) = true
theorem flatAll_all {n : Nat} : ∀ {ds : List PyData}, (∀ d ∈ ds, flatD n d = true) → flatAll n ds = true
  | [], _ => by unfold flatAll; rfl
  | d :: ds, h => by
    unfold flatAll
    exact Bool.and_eq_true_iff.mpr ⟨h d List.mem_cons_self, flatAll_all fun e he => h e (List.mem_cons_of_mem _ he)⟩
theorem flat_tup {n m : Nat} {ds : List PyData} (h : m + 1 ≤ n) (hl : ds.length ≤ 1000000) (ha : ∀ k, m ≤ k → ∀ d ∈ ds, flatD k d = true) : flatD n (.tuple ds) = true := by
  obtain ⟨k, rfl⟩ : ∃ k, n = k + 1 := ⟨n - 1, by omega⟩
  unfold flatD
  exact Bool.and_eq_true_iff.mpr ⟨decide_eq_true hl, flatAll_all (ha k (by omega))⟩
theorem flat_lst {n m : Nat} {ds : List PyData} (h : m + 1 ≤ n) (hl : ds.length ≤ 1000000) (ha : ∀ k, m ≤ k → ∀ d ∈ ds, flatD k d = true) : flatD n (.list ds) = true := by
  obtain ⟨k, rfl⟩ : ∃ k, n = k + 1 := ⟨n - 1, by omega⟩
  unfold flatD
  exact Bool.and_eq_true_iff.mpr ⟨decide_eq_true hl, flatAll_all (ha k (by omega))⟩
theorem flat_sc {n : Nat} {d : PyData} (h : 1 ≤ n) (hd : ∀ k, flatD (k + 1) d = true) : flatD n d = true := by
  obtain ⟨k, rfl⟩ : ∃ k, n = k + 1 := ⟨n - 1, by omega⟩
  exact hd k
instance : FL Int := ⟨1, fun _ => True, fun x n h _ => flat_sc h fun _ => rfl⟩
instance : FL Bool := ⟨1, fun _ => True, fun x n h _ => flat_sc h fun _ => rfl⟩
instance : FL Unit := ⟨1, fun _ => True, fun x n h _ => flat_sc h fun _ => rfl⟩
instance flTx : @FL (List Nat) encTx _ := ⟨1, fun _ => True, fun x n h _ => flat_sc h fun _ => rfl⟩
instance : FL (Option Int) := ⟨1, fun _ => True, fun x n h _ => flat_sc h fun _ => by cases x <;> rfl⟩
instance : FL (Option (List Nat)) := ⟨1, fun _ => True, fun x n h _ => flat_sc h fun _ => by cases x <;> rfl⟩
instance : FL Tg := ⟨2, fun _ => True, fun x n h _ => by
  obtain ⟨k, rfl⟩ : ∃ k, n = k + 2 := ⟨n - 2, by omega⟩
  obtain ⟨t, i, f⟩ := x
  cases f <;> rfl⟩
instance : FL Phr := ⟨2, fun _ => True, fun x n h _ => by
  obtain ⟨k, rfl⟩ : ∃ k, n = k + 2 := ⟨n - 2, by omega⟩
  cases x <;> rfl⟩
instance {α β : Type} [Enc α] [DEnc α] [FL α] [Enc β] [DEnc β] [FL β] : FL (α × β) where
  dep := max (FL.dep α) (FL.dep β) + 1
  lim x := FL.lim x.1 ∧ FL.lim x.2
  ok x n h l := flat_tup (m := max (FL.dep α) (FL.dep β)) h (Nat.le_of_ble_eq_true rfl) fun k hk d hd => by
    rcases List.mem_cons.mp hd with z | z
    · rw [z]; exact FL.ok x.1 k (by omega) l.1
    · rw [List.mem_singleton.mp z]; exact FL.ok x.2 k (by omega) l.2
instance {α β γ : Type} [Enc α] [DEnc α] [FL α] [Enc β] [DEnc β] [FL β] [Enc γ] [DEnc γ] [FL γ] : FL (T3 α β γ) where
  dep := max (FL.dep α) (max (FL.dep β) (FL.dep γ)) + 1
  lim x := FL.lim x.a ∧ FL.lim x.b ∧ FL.lim x.c
  ok x n h l := flat_tup (m := max (FL.dep α) (max (FL.dep β) (FL.dep γ))) h (Nat.le_of_ble_eq_true rfl) fun k hk d hd => by
    rcases List.mem_cons.mp hd with z | hd
    · rw [z]; exact FL.ok x.a k (by omega) l.1
    rcases List.mem_cons.mp hd with z | z
    · rw [z]; exact FL.ok x.b k (by omega) l.2.1
    · rw [List.mem_singleton.mp z]; exact FL.ok x.c k (by omega) l.2.2
instance {α β γ δ : Type} [Enc α] [DEnc α] [FL α] [Enc β] [DEnc β] [FL β] [Enc γ] [DEnc γ] [FL γ] [Enc δ] [DEnc δ] [FL δ] : FL (T4 α β γ δ) where
  dep := max (max (FL.dep α) (FL.dep β)) (max (FL.dep γ) (FL.dep δ)) + 1
  lim x := FL.lim x.a ∧ FL.lim x.b ∧ FL.lim x.c ∧ FL.lim x.d
  ok x n h l := flat_tup (m := max (max (FL.dep α) (FL.dep β)) (max (FL.dep γ) (FL.dep δ))) h (Nat.le_of_ble_eq_true rfl) fun k hk d hd => by
    rcases List.mem_cons.mp hd with z | hd
    · rw [z]; exact FL.ok x.a k (by omega) l.1
    rcases List.mem_cons.mp hd with z | hd
    · rw [z]; exact FL.ok x.b k (by omega) l.2.1
    rcases List.mem_cons.mp hd with z | z
    · rw [z]; exact FL.ok x.c k (by omega) l.2.2.1
    · rw [List.mem_singleton.mp z]; exact FL.ok x.d k (by omega) l.2.2.2
instance flList {α : Type} [Enc α] [DEnc α] [FL α] : @FL (List α) encList dencList := @FL.mk (List α) encList dencList (FL.dep α + 1) (fun xs => xs.length ≤ 1000000 ∧ ∀ x ∈ xs, FL.lim x) (fun xs n h l => flat_lst (m := FL.dep α) h (by rw [List.length_map]; exact l.1) fun k hk d hd => by
  obtain ⟨x, hx, rfl⟩ := List.mem_map.mp hd
  exact FL.ok x k hk (l.2 x hx))
instance {α : Type} [Enc α] [DEnc α] [FL α] : FL (Tup α) where
  dep := FL.dep α + 1
  lim xs := xs.l.length ≤ 1000000 ∧ ∀ x ∈ xs.l, FL.lim x
  ok xs n h l := flat_tup (m := FL.dep α) h (by rw [List.length_map]; exact l.1) fun k hk d hd => by
    obtain ⟨x, hx, rfl⟩ := List.mem_map.mp hd
    exact FL.ok x k hk (l.2 x hx)
end DX
namespace DX
open PySem PySem.Spec PyProof.Rows L2
open DEnc (encD)
instance {α β γ : Type} [Inhabited α] [Inhabited β] [Inhabited γ] : Inhabited (T3 α β γ) := ⟨⟨default, default, default⟩⟩
instance {α β γ δ : Type} [Inhabited α] [Inhabited β] [Inhabited γ] [Inhabited δ] : Inhabited (T4 α β γ δ) := ⟨⟨default, default, default, default⟩⟩
end DX
namespace DX
open PySem PySem.Spec PyProof.Rows L2
open DEnc (encD)
section
variable {X : Cx} {CT : CXT} {k : Nat} {f C : Addr} {fd : FuncData} {ps : List Str} {sp : Sp} {EE : L2.St → XK} {x : Str} {p pos : Pos} {e : Expr} {es : List Expr} {t : TA}
theorem run_makeE {pins : List (Addr × Obj)} {σ : L2.St} {H : Hp} {s : Shared} {Q : VK} {us : List Value} {vs : List V} (M : Mk X.K C f) (F : FnOk X.prog X.w X.K X.mg X.base CT k f fd ps sp) (hr : Room (k + 1) X.A) (hb : Binds X.K fd ps [])
    (hx : PassesAt CT X σ (EE σ)) (I : L2.Inv X pins σ H s) (r : Vals vs us)
    (h : ∀ x dx, H x = none → H dx = none → dx ≠ x → sp (.ref x :: vs) (upd (upd H dx (.own x)) x (.ins C dx [])) (fun v H2 => v = .non ∧ Q (.ref x) H2) (EE σ)) :
    wpAny (model X.prog X.w) X.A (call (.ref C) us) (EP X pins σ Q) X.xe s := by
  have hq := h (s.heap.objs.size + 1) s.heap.objs.size (I.hok.fresh (Nat.le_succ _)) (I.hok.fresh (Nat.le_refl _)) (Nat.ne_of_lt (Nat.lt_succ_self _))
  have I2 := L2.Inv.made (C := C) I
  have r2 : Vals (V.ref (s.heap.objs.size + 1) :: vs) (Value.ref (s.heap.objs.size + 1) :: us) := .cons rfl r
  have hl : (Value.ref (s.heap.objs.size + 1) :: us ++ []).length = ps.length := by
    have e := r2.length
    rw [F.len _ _ _ _ hq] at e
    rw [List.append_nil]
    exact e.symm
  have b := hb _ (Value.ref (s.heap.objs.size + 1) :: us) I2.kIn hl
  rw [List.append_nil] at b
  refine wpAny_call (make_map (f := f) I.kIn M.makes M.init (beq_iff_eq.mp M.fn) (codeAny_mono (F.run _ X.stack _ _ ⟨Value.ref (s.heap.objs.size + 1) :: us, []⟩ (Value.ref (s.heap.objs.size + 1) :: us) _ _ (EE σ) (hr.make C us [])
    (I2.env0.make C us []) b r2 hq) fun r s' hq' => ?_))
  cases r with
  | error e => exact hx pins _ _ e s' I2 hq'
  | ok fl =>
    cases fl with
    | ret u =>
      obtain ⟨v, H', I3, rv, ev, q3⟩ := I2.after hq'
      subst ev
      exact ⟨rv, ⟨V.ref (s.heap.objs.size + 1), H', I3, rfl, q3⟩⟩
    | next => exact False.elim hq'
    | brk => exact False.elim hq'
    | cont => exact False.elim hq'
def tMakeE (C : Addr) (sp : Sp) (EE : L2.St → XK) (t : TA) : TE := fun σ H Q => t σ H fun vs H1 => ∀ x dx, H1 x = none → H1 dx = none → dx ≠ x →
  sp (.ref x :: vs) (upd (upd H1 dx (.own x)) x (.ins C dx [])) (fun v H2 => v = .non ∧ Q (.ref x) H2) (EE σ)
theorem pe_makeE (M : Mk X.K C f) (F : FnOk X.prog X.w X.K X.mg X.base CT k f fd ps sp) (hr : Room (k + 1) X.A) (hg : Gl X x) (hm : X.mg x = some (.ref C)) (hb : Binds X.K fd ps []) (hx : ∀ σ, PassesAt CT X σ (EE σ))
    (ha : PA X (e :: es) t) (hdb : (x == ("__debug__" : Str)) = false := by decide) (he : starEach (e :: es) X.env = (false, eval e X.env) :: starEach es X.env := by rfl) (hpl : (backTo pos (starEach es X.env)).any (·.1) = false := by rfl) :
    PE X (.Call (.Name x p) (e :: es) [] pos) (tMakeE C sp EE t) := by
  refine ⟨fun pins s σ H Q I h => ?_⟩
  refine wpAny_Call_Name_kw (ld_glob I hg hm ?_ hdb)
  refine PySem.W.callWith_K (h₀ := X.base) I.ok.mod.kin M.kp (thn (ha.run pos pins s σ H _ I h) fun us s1 ⟨vs, H1, I1, r, q⟩ => ⟨I1.kIn, ?_⟩) he hpl
  exact run_makeE M F hr hb (hx σ) I1 r q
end
/-- __init__'s promise, where it may raise -/
def spIX {ι α : Type} [Enc α] (K : PySem.W.Frag) (mg : Str → Option Value) (cls : Str) (pre : ι → Prop) (args : ι → List Sl) (mk : ι → Res α) : Sp := fun vs H Q E => ∃ (x dx C : Addr) (H0 Hd0 : Hp) (i : ι) (ws : List V), vs = .ref x :: ws ∧ H = upd (upd H0 dx (.own x)) x (.ins C dx []) ∧ H0 x = none ∧ H0 dx = none ∧ dx ≠ x ∧ ClsAt K cls C ∧ ExD K Hd0 H0 ∧ pre i ∧
  ws.length = (args i).length ∧ (∀ p ∈ (ws.map some).zip (args i), SlotOk K H0 Hd0 H0 p.1 p.2 ∧ ∀ q, apart p q) ∧
  match mk i with
  | .ok r => ∀ H', Ex H0 H' → (∃ Hd', Ex Hd0 Hd' ∧ Ex Hd' H' ∧ (∀ a, Hd0 a = none → H0 a ≠ none → Hd' a = none) ∧ Enc.rep K Hd' (.ref x) r) → Q .non H'
  | .error e => ∀ cls d H', Ex H0 H' → IsErr mg H0 H' cls d e → E cls d H'
structure MakeOkX (P : Program) (w : World) (K : PySem.W.Frag) (mg : Str → Option Value) (base : Heap) (k : Nat) (cls : Str) (n : Nat) (sp : Sp) : Prop where
  ex : ∃ (C f : Addr) (fd : FuncData) (ps : List Str), ClsAt K cls C ∧ mg cls = some (.ref C) ∧ Mk K C f ∧ FnOk P w K mg base (L2.CX P w) k f fd ps sp ∧ Binds K fd ps [] ∧ ps.length = n
section
variable {X : Cx} {Γ : List Sl} {e a b c o : Expr} {es : List Expr} {s : Sl} {ss : List Sl} {pos p p1 p2 p3 apos cpos : Pos} {W : L2.WX} {err : PErr}
theorem px_makeX {ι α : Type} [Enc α] {k n : Nat} {cls : Str} {pre : ι → Prop} {args : ι → List Sl} {mk : ι → Res α} {r : α} (F : MakeOkX X.prog X.w X.K X.mg X.base k cls n (spIX X.K X.mg cls pre args mk)) (i : ι) (hp : pre i) (hm0 : mk i = .ok r) (hr : Room (k + 1) X.A) (ha : AX X Γ (e :: es) ss) (fit : Fits ss (args i)) (hg : Gl X cls := by rfl)
    (hdb : (cls == ("__debug__" : Str)) = false := by decide) (he : starEach (e :: es) X.env = (false, eval e X.env) :: starEach es X.env := by rfl) (hpl : (backTo pos (starEach es X.env)).any (·.1) = false := by rfl) : PX X Γ (.Call (.Name cls p) (e :: es) [] pos) (.is r) := by
  obtain ⟨C, f, fd, ps, hC, hm, M, F, hb, _⟩ := F.ex
  refine ⟨fun B ρ σ H h Q q => goE (pe_makeE (EE := WE fun _ _ _ _ => False) M F hr hg hm hb (fun σ => passAt takes0 σ) paW hdb he hpl) (ha.run B ρ σ H h _ fun vs H1 e1 l h1 => ?_)⟩
  intro x dx n1 n2 n3
  obtain ⟨zl, Hd, z1, z2, z3, z4, z5, z6⟩ := id h1
  refine ⟨x, dx, C, H1, Hd, i, vs, rfl, rfl, n1, n2, n3, hC, ⟨z2, z1.tab⟩, hp, l.trans fit.len, fit.ok z2 fun r hr => z5 r (List.mem_append_left _ (pushAll_mem (.inl hr))), ?_⟩
  rw [hm0]
  refine fun H' k1 k2 => ⟨rfl, ?_⟩
  obtain ⟨Hd', m1, m2, m3, m4⟩ := k2
  exact q _ H' (e1.trans k1) (drop_mid (vs := vs) (ss := ss) (back zl z1 z3 z4 z5 z6 m1 m2 k1 m3 ⟨⟨_, rfl, m4⟩, trivial⟩))
theorem pxr_make {ι α : Type} [Enc α] {k n : Nat} {cls : Str} {pre : ι → Prop} {args : ι → List Sl} {mk : ι → Res α} (tk : Takes X W) (F : MakeOkX X.prog X.w X.K X.mg X.base k cls n (spIX X.K X.mg cls pre args mk)) (i : ι) (hp : pre i) (hm0 : mk i = .error err) (hr : Room (k + 1) X.A) (ha : AX X Γ (e :: es) ss) (fit : Fits ss (args i)) (hg : Gl X cls := by rfl)
    (hdb : (cls == ("__debug__" : Str)) = false := by decide) (he : starEach (e :: es) X.env = (false, eval e X.env) :: starEach es X.env := by rfl) (hpl : (backTo pos (starEach es X.env)).any (·.1) = false := by rfl) : PXr X W Γ (.Call (.Name cls p) (e :: es) [] pos) err := by
  obtain ⟨C, f, fd, ps, hC, hm, M, F, hb, _⟩ := F.ex
  refine ⟨fun B ρ σ H h w0 Q => goE (pe_makeE (EE := WE W) M F hr hg hm hb (fun σ => passAt tk σ) paW hdb he hpl) (ha.run B ρ σ H h _ fun vs H1 e1 l h1 => ?_)⟩
  intro x dx n1 n2 n3
  obtain ⟨zl, Hd, z1, z2, z3, z4, z5, z6⟩ := id h1
  refine ⟨x, dx, C, H1, Hd, i, vs, rfl, rfl, n1, n2, n3, hC, ⟨z2, z1.tab⟩, hp, l.trans fit.len, fit.ok z2 fun r hr => z5 r (List.mem_append_left _ (pushAll_mem (.inl hr))), ?_⟩
  rw [hm0]
  exact fun cls d H' ex ie => w0 cls d H' (e1.trans ex) (ie.back e1)
end
def plainSlA : Sl → Prop
  | .no => True
  | @Sl.is _ _ _ => True
  | @Sl.arg _ _ _ => True
  | _ => False
section
variable {X : Cx} {Γ : List Sl} {e : Expr} {k : List (List Stmt)} {sts : List Stmt} {D : Ends} {σ : L2.St} {H H0 Hd HB : Hp} {x dx C : Addr} {fs : List (Str × V)} {pos p p' : Pos}
/-- self.f = e -/
theorem init_storeA {β : Type} [Enc β] {y : β} {f sn : Str} (he : PX X Γ e (.is y)) (hG : ∀ s ∈ Γ, plainSlA s) (hσ : σ[0]? = some (some (.ref x))) (hx : H x = some (.ins C dx fs)) (hBx : HB x ≠ none) (hd : Hd x = none) (hH0 : H0 x = none) (e0 : Ex H0 HB) (c : Cls X.K C) (n : NoAttr X.K C f) (hl : fs.length < 1000) (h : HasE X.K (Hd, HB) H [] σ Γ)
    (cont : ∀ v H2 Hd2, Ex Hd Hd2 → Ex H0 H2 → (∀ a, Hd a = none → HB a ≠ none → Hd2 a = none) → H2 x = some (.ins C dx (putF f v fs)) → Enc.rep X.K Hd2 v y → HasE X.K (Hd2, H2) H2 [] σ Γ → wC X (sts :: k) D σ H2)
    (hN : X.N[0]? = some sn := by rfl) (hv : Vis X.env.scope sn := by first | exact Or.inl rfl | exact Or.inr (Or.inl rfl) | exact Or.inr (Or.inr rfl)) (hdb : (sn == ("__debug__" : Str)) = false := by decide) (hcd : (sn == ("__classdict__" : Str)) = false := by decide)
    (hs : swapsWith e (some (.Attribute (.Name sn p) f p')) pos.line X.env = pure false := by rfl) : wC X ((.Assign [.Attribute (.Name sn p) f p'] e pos :: sts) :: k) D σ H := by
  refine wC_cons (go1 (ps_fld (pe_var hN hv hdb hcd) peW hs) (he.run (Hd, HB) [] σ H h _ fun v H1 e1 h1 => ?_))
  obtain ⟨l, Hd1, z1, z2, z3, z4, z5, z6⟩ := id h1
  obtain ⟨w, f1, f2⟩ := z5 _ List.mem_cons_self
  have f1 : some v = some w := f1
  injection f1 with f1
  subst f1
  have hd1 : Hd1 x = none := z4 x hd hBx
  have hx1 : H1 x = some (.ins C dx fs) := e1 _ _ hx
  have ex2 : ∀ {G : Hp}, Ex G H1 → G x = none → Ex G (upd H1 x (.ins C dx (putF f v fs))) := fun e hn => e.mut hn
  refine ⟨.ref x, hσ, x, C, dx, fs, rfl, hx1, c, n, hl, ?_⟩
  refine cont v _ Hd1 z1.ex (ex2 (e0.trans z3) hH0) (fun a b1 b2 => z4 a b1 b2) upd_same f2 ⟨l, Hd1, ⟨Ex.refl _, z1.tab⟩, ex2 z2 hd1, Ex.refl _, fun a b _ => b, fun q hq => ?_, (List.pairwise_cons.mp z6).2⟩
  have ok := z5 q (List.mem_cons_of_mem _ hq)
  have hq' : q ∈ σ.zip Γ := by simpa using hq
  have hp := hG q.2 (List.of_mem_zip (show (q.1, q.2) ∈ _ from hq')).2
  obtain ⟨o, s⟩ := q
  cases s with
  | no => trivial
  | is z => exact ok
  | own z => exact hp.elim
  | bor z => exact hp.elim
  | arg z =>
    obtain ⟨b, us, g1, g3, g4, g5⟩ := ok
    have ne : b ≠ x := fun c => by
      subst c
      rw [hx1] at g4
      cases g4
    exact ⟨b, us, g1, (by show upd H1 x (.ins C dx (putF f v fs)) b ≠ none; rw [upd_ne ne, g4]; exact fun q => nomatch q), by show upd H1 x (.ins C dx (putF f v fs)) b = _; rw [upd_ne ne]; exact g4, g5⟩
  | ownA c z => exact hp.elim
  | gen fp Φ => exact hp.elim
end
section
variable {X : Cx} {Γ : List Sl} {e : Expr} {k : List (List Stmt)} {sts : List Stmt} {D : Ends} {σ : L2.St} {H Hd HB : Hp} {pos : Pos} {W : L2.WX} {err : PErr}
theorem init_exprX (he : PXr X W Γ e err) (h : HasE X.K (Hd, HB) H [] σ Γ) (w : ∀ cls d H', Ex H H' → IsErr X.mg H H' cls d err → W cls d σ H') (hs : swapsWith e none pos.line X.env = pure false := by rfl) : wC X ((.Expr e pos :: sts) :: k) D σ H :=
  wC_cons (go1 (ps_expr peW hs) (he.run (Hd, HB) [] σ H h w _))
end
instance encSum {α β : Type} [Enc α] [Enc β] : Enc (Sum α β) where
  rep := fun K H v x => match x with
    | .inl a => Enc.rep K H v a
    | .inr b => Enc.rep K H v b
  mono := fun {K H H' v x} e h => by
    cases x with
    | inl a => exact Enc.mono e h
    | inr b => exact Enc.mono e h
def getL {α β : Type} [Inhabited α] : Sum α β → α
  | .inl a => a
  | .inr _ => default
def getR {α β : Type} [Inhabited β] : Sum α β → β
  | .inl _ => default
  | .inr b => b
def isL {α β : Type} : Sum α β → Bool
  | .inl _ => true
  | .inr _ => false
instance {α β : Type} [Enc α] [Enc β] [DEnc α] [DEnc β] : DEnc (Sum α β) := ⟨fun x => match x with
  | .inl a => encD a
  | .inr b => encD b, fun {K H v x} h => by
    cases x with
    | inl a => exact DEnc.toDp h
    | inr b => exact DEnc.toDp h⟩
instance {α β : Type} [Inhabited α] : Inhabited (Sum α β) := ⟨.inl default⟩
section
variable {X : Cx} {Γ : List Sl} {a b e : Expr} {pos : Pos}
theorem HasE.conv {K : PySem.W.Frag} {B : Hp × Hp} {H : Hp} {ρ : List Slot} {σ : L2.St} {α β : Type} [Enc α] [Enc β] {x : α} {y : β} {o : Option V} (h : HasE K B H ((o, .is x) :: ρ) σ Γ) (f : ∀ Hd v, Enc.rep K Hd v x → Enc.rep K Hd v y) : HasE K B H ((o, .is y) :: ρ) σ Γ := by
  obtain ⟨l, Hd, h1, h2, h3, h4, h5, h6⟩ := h
  refine ⟨l, Hd, h1, h2, h3, h4, fun p hp => ?_, List.pairwise_cons.mpr ⟨fun q _ => apart_is q, (List.pairwise_cons.mp h6).2⟩⟩
  rcases List.mem_cons.mp hp with z | z
  · rw [z]
    obtain ⟨v, k1, k2⟩ := h5 (o, .is x) List.mem_cons_self
    exact ⟨v, k1, f Hd v k2⟩
  · exact h5 p (List.mem_cons_of_mem _ z)
theorem px_conv {α β : Type} [Enc α] [Enc β] {x : α} {y : β} (h : PX X Γ e (.is x)) (f : ∀ K Hd v, Enc.rep K Hd v x → Enc.rep K Hd v y) : PX X Γ e (.is y) := ⟨fun B ρ σ H h' Q q => h.run B ρ σ H h' Q fun v H1 e1 h1 => q v H1 e1 (h1.conv fun Hd v r => f _ _ _ r)⟩
theorem px_inl {α β : Type} [Enc α] [Enc β] {x : α} (h : PX X Γ e (.is x)) : PX X Γ e (.is (Sum.inl x : Sum α β)) := px_conv h fun _ _ _ r => r
theorem px_inr {α β : Type} [Enc α] [Enc β] {x : β} (h : PX X Γ e (.is x)) : PX X Γ e (.is (Sum.inr x : Sum α β)) := px_conv h fun _ _ _ r => r
theorem px_unl {α β : Type} [Enc α] [Enc β] [Inhabited α] {x : Sum α β} (h : PX X Γ e (.is x)) (hl : isL x = true) : PX X Γ e (.is (getL x)) := px_conv h fun _ _ _ r => by
  cases x with
  | inl a => exact r
  | inr b => cases hl
theorem px_unr {α β : Type} [Enc α] [Enc β] [Inhabited β] {x : Sum α β} (h : PX X Γ e (.is x)) (hl : isL x = false) : PX X Γ e (.is (getR x)) := px_conv h fun _ _ _ r => by
  cases x with
  | inl a => cases hl
  | inr b => exact r
/-- what begins with a text -/
class Tagged (α : Type) [Enc α] where
  tag : α → List Nat
  ok : ∀ {X : Cx} {Γ : List Sl} {a b : Expr} {pos : Pos} {x : α}, PX X Γ a (.is x) → PX X Γ b (.is (0 : Int)) → PlainIx b → PX X Γ (.Subscript a b pos) (.is (tag x))
instance {β : Type} [Enc β] : Tagged (List Nat × β) := ⟨fun x => x.1, fun ha hb hs => px_fst ha hb hs⟩
instance {β γ : Type} [Enc β] [Enc γ] : Tagged (T3 (List Nat) β γ) := ⟨fun x => x.a, fun ha hb hs => px_t3a ha hb hs⟩
instance {α β : Type} [Enc α] [Enc β] [Tagged α] [Tagged β] : Tagged (Sum α β) := ⟨fun x => match x with
  | .inl a => Tagged.tag a
  | .inr b => Tagged.tag b, fun {X Γ a b pos x} ha hb hs => by
    cases x with
    | inl y => exact Tagged.ok (x := y) (px_conv ha fun _ _ _ r => r) hb hs
    | inr y => exact Tagged.ok (x := y) (px_conv ha fun _ _ _ r => r) hb hs⟩
theorem px_tag0 {α : Type} [Enc α] [Tagged α] {x : α} (ha : PX X Γ a (.is x)) (hb : PX X Γ b (.is (0 : Int))) (hs : PlainIx b := by exact fun _ _ => rfl) : PX X Γ (.Subscript a b pos) (.is (Tagged.tag x)) := Tagged.ok ha hb hs
end
end DX
namespace DX
open PySem PySem.Spec PyProof.Rows L2
open DEnc (encD)
structure T5 (α β γ δ ε : Type) where
  a : α
  b : β
  c : γ
  d : δ
  e : ε
instance encT5 {α β γ δ ε : Type} [Enc α] [Enc β] [Enc γ] [Enc δ] [Enc ε] : Enc (T5 α β γ δ ε) where
  rep := fun K H v x => ∃ a v1 v2 v3 v4 v5, v = .ref a ∧ SqT K H a [v1, v2, v3, v4, v5] ∧ Enc.rep K H v1 x.a ∧ Enc.rep K H v2 x.b ∧ Enc.rep K H v3 x.c ∧ Enc.rep K H v4 x.d ∧ Enc.rep K H v5 x.e
  mono := fun e ⟨a, v1, v2, v3, v4, v5, h1, h2, h3, h4, h5, h6, h7⟩ => ⟨a, v1, v2, v3, v4, v5, h1, ext e h2, Enc.mono e h3, Enc.mono e h4, Enc.mono e h5, Enc.mono e h6, Enc.mono e h7⟩
instance {α β γ δ ε : Type} [Enc α] [DEnc α] [Enc β] [DEnc β] [Enc γ] [DEnc γ] [Enc δ] [DEnc δ] [Enc ε] [DEnc ε] : DEnc (T5 α β γ δ ε) := ⟨fun x => PyData.tuple [encD x.a, encD x.b, encD x.c, encD x.d, encD x.e], fun {K H v x} ⟨a, v1, v2, v3, v4, v5, h1, h2, h3, h4, h5, h6, h7⟩ => by
  subst h1
  exact .tup h2 (.cons (DEnc.toDp h3) (.cons (DEnc.toDp h4) (.cons (DEnc.toDp h5) (.cons (DEnc.toDp h6) (.cons (DEnc.toDp h7) .nil)))))⟩
instance {α β γ δ ε : Type} [Enc α] [DEnc α] [DInj α] [Enc β] [DEnc β] [DInj β] [Enc γ] [DEnc γ] [DInj γ] [Enc δ] [DEnc δ] [DInj δ] [Enc ε] [DEnc ε] [DInj ε] : DInj (T5 α β γ δ ε) := ⟨fun x y => by
  show same (.tuple [encD x.a, encD x.b, encD x.c, encD x.d, encD x.e]) (.tuple [encD y.a, encD y.b, encD y.c, encD y.d, encD y.e]) = true ↔ _
  unfold same
  simp only [sameAll, Bool.and_true, Bool.and_eq_true_iff, DInj.inj]
  cases x; cases y
  simp⟩
instance {α β γ δ ε : Type} [Inhabited α] [Inhabited β] [Inhabited γ] [Inhabited δ] [Inhabited ε] : Inhabited (T5 α β γ δ ε) := ⟨⟨default, default, default, default, default⟩⟩
instance {α β γ δ ε : Type} [Enc α] [DEnc α] [FL α] [Enc β] [DEnc β] [FL β] [Enc γ] [DEnc γ] [FL γ] [Enc δ] [DEnc δ] [FL δ] [Enc ε] [DEnc ε] [FL ε] : FL (T5 α β γ δ ε) where
  dep := max (max (FL.dep α) (FL.dep β)) (max (max (FL.dep γ) (FL.dep δ)) (FL.dep ε)) + 1
  lim x := FL.lim x.a ∧ FL.lim x.b ∧ FL.lim x.c ∧ FL.lim x.d ∧ FL.lim x.e
  ok x n h l := flat_tup (m := max (max (FL.dep α) (FL.dep β)) (max (max (FL.dep γ) (FL.dep δ)) (FL.dep ε))) h (Nat.le_of_ble_eq_true rfl) fun k hk d hd => by
    rcases List.mem_cons.mp hd with z | hd
    · rw [z]; exact FL.ok x.a k (by omega) l.1
    rcases List.mem_cons.mp hd with z | hd
    · rw [z]; exact FL.ok x.b k (by omega) l.2.1
    rcases List.mem_cons.mp hd with z | hd
    · rw [z]; exact FL.ok x.c k (by omega) l.2.2.1
    rcases List.mem_cons.mp hd with z | z
    · rw [z]; exact FL.ok x.d k (by omega) l.2.2.2.1
    · rw [List.mem_singleton.mp z]; exact FL.ok x.e k (by omega) l.2.2.2.2
instance {α β : Type} [Enc α] [DEnc α] [FL α] [Enc β] [DEnc β] [FL β] : FL (Sum α β) where
  dep := max (FL.dep α) (FL.dep β)
  lim x := match x with
    | .inl a => FL.lim a
    | .inr b => FL.lim b
  ok x n h l := by
    cases x with
    | inl a => exact FL.ok a n (by omega) l
    | inr b => exact FL.ok b n (by omega) l
section
variable {X : Cx} {Γ : List Sl} {a e : Expr} {es : List Expr} {pos p2 : Pos}
instance {β γ δ ε : Type} [Enc β] [Enc γ] [Enc δ] [Enc ε] : Tagged (T5 (List Nat) β γ δ ε) := ⟨fun x => x.a, fun ha hb hs => px_proj ha hb (fun Hd v ⟨a', v1, v2, v3, v4, v5, h1, h2, h3, _⟩ => ⟨a', _, v1, h1, h2, rfl, h3⟩) hs⟩
/-- a value that is no None -/
class NonNone (α : Type) [Enc α] : Prop where
  ne : ∀ {K : PySem.W.Frag} {H : Hp} {v : V} {x : α}, Enc.rep K H v x → v ≠ .non
instance {β γ δ : Type} [Enc β] [Enc γ] [Enc δ] : NonNone (T3 β γ δ) := ⟨fun ⟨a, _, _, _, h, _⟩ z => by rw [z] at h; cases h⟩
instance {β γ : Type} [Enc β] [Enc γ] : NonNone (β × γ) := ⟨fun ⟨a, _, _, h, _⟩ z => by rw [z] at h; cases h⟩
theorem sum_none {α : Type} [Enc α] [NonNone α] {K : PySem.W.Frag} {H : Hp} {v : V} {x : Sum Unit α} (h : Enc.rep K H v x) : decide (v = .non) = isL x := by
  cases x with
  | inl u =>
    have h : v = .non := h
    exact decide_eq_true h
  | inr b =>
    have h : Enc.rep K H v b := h
    exact decide_eq_false (NonNone.ne h)
theorem tx_notNS {α : Type} [Enc α] [NonNone α] {x : Sum Unit α} {j : Nat} (ha : PX X Γ a (.is x)) : TX X Γ (.Compare a [.IsNot] [.Constant .none j p2] pos) (!isL x) :=
  ⟨fun B ρ σ H h Q q => goT (pt_cmp (pc_notN peW)) (ha.run B ρ σ H h _ fun v H1 e1 h1 => by
    obtain ⟨l, Hd, z1, z2, z3, z4, z5, z6⟩ := id h1
    obtain ⟨w, f1, f2⟩ := z5 _ List.mem_cons_self
    have f1 : some v = some w := f1
    injection f1 with f1
    subst f1
    refine ⟨_, rfl, ?_⟩
    show Q (!decide (v = .non)) H1
    rw [sum_none f2]
    exact q H1 e1 h1.pop)⟩
end
end DX
namespace DX
open PySem PySem.Spec PyProof.Rows L2
open DEnc (encD)
instance : DecidableEq Phr := fun a b => match a, b with
  | .put c, .put d => if h : c = d then .isTrue (by rw [h]) else .isFalse fun z => h (by injection z)
  | .put _, .copy _ _ => .isFalse fun z => nomatch z
  | .copy _ _, .put _ => .isFalse fun z => nomatch z
  | .copy s l, .copy t m => if h : s = t ∧ l = m then .isTrue (by rw [h.1, h.2]) else .isFalse fun z => h (by injection z with z1 z2; exact ⟨z1, z2⟩)
theorem eqv_str (x y : List Nat) : PyData.eqv (.str (mkS x)) (.str (mkS y)) = decide (x = y) := QEnc.eqv x y
theorem eqv_int (x y : Int) : PyData.eqv (.int x) (.int y) = decide (x = y) := QEnc.eqv x y
theorem str_ok {x : List Nat} (h : ∀ c ∈ x, c < 1114112) : PyData.strOk (mkS x) = true := by
  unfold PyData.strOk mkS
  simpa using h
instance : QEnc Phr where
  eqv x y := by
    cases x with
    | put c => cases y with
      | put d =>
        show PyData.eqv (.tuple [.str (mkS tPut), .str (mkS c)]) (.tuple [.str (mkS tPut), .str (mkS d)]) = _
        rw [PyData.eqv, PyData.eqvAll, PyData.eqvAll, PyData.eqvAll, eqv_str, eqv_str, decide_eq_true rfl, Bool.true_and, Bool.and_true]
        exact decide_eq_decide.mpr ⟨fun h => by rw [h], fun z => by injection z⟩
      | copy s l =>
        show PyData.eqv (.tuple [.str (mkS tPut), .str (mkS c)]) (.tuple [.str (mkS tCopy), .int s, .int l]) = _
        rw [PyData.eqv, PyData.eqvAll, eqv_str, decide_eq_false (by decide), Bool.false_and]
        exact (decide_eq_false fun z => nomatch z).symm
    | copy s l => cases y with
      | put d =>
        show PyData.eqv (.tuple [.str (mkS tCopy), .int s, .int l]) (.tuple [.str (mkS tPut), .str (mkS d)]) = _
        rw [PyData.eqv, PyData.eqvAll, eqv_str, decide_eq_false (by decide), Bool.false_and]
        exact (decide_eq_false fun z => nomatch z).symm
      | copy t m =>
        show PyData.eqv (.tuple [.str (mkS tCopy), .int s, .int l]) (.tuple [.str (mkS tCopy), .int t, .int m]) = _
        rw [PyData.eqv, PyData.eqvAll, PyData.eqvAll, PyData.eqvAll, PyData.eqvAll, eqv_str, eqv_int, eqv_int, decide_eq_true rfl, Bool.true_and, Bool.and_true, Bool.eq_iff_iff, Bool.and_eq_true, decide_eq_true_eq, decide_eq_true_eq, decide_eq_true_eq]
        exact ⟨fun h => by rw [h.1, h.2], fun z => by injection z with z1 z2; exact ⟨z1, z2⟩⟩
  dep := 1
  dle x := by cases x <;> exact Nat.le_refl _
  lay x := ∀ c ∈ x.let, c < 1114112
  ok x h := by
    cases x with
    | put c =>
      have hc : PyData.strOk (mkS c) = true := str_ok (fun d hd => h d hd)
      show PyData.canLay0 (.tuple [.str (mkS tPut), .str (mkS c)]) = true
      simp only [PyData.canLay0, PyData.canLayAll0]
      rw [hc, str_ok (x := tPut) (by decide)]
      rfl
    | copy s l =>
      show PyData.canLay0 (.tuple [.str (mkS tCopy), .int s, .int l]) = true
      simp only [PyData.canLay0, PyData.canLayAll0]
      rw [str_ok (x := tCopy) (by decide)]
      rfl
end DX
namespace DX
open PySem PySem.Spec PyProof.Rows L2
open DEnc (encD)
section
variable {K : PySem.W.Frag} {B : Hp × Hp} {H H' : Hp} {ρ : List Slot} {σ : L2.St} {Γ : List Sl} {p : Slot} {s : Sl} {o : Option V}
/-- a slot takes in a list of one's own -/
theorem HasE.joinGen {β : Type} [Enc β] {fp : List Addr} {Φ : Hp → Hp → V → Prop} {xs : List β} {a : Addr} (h : HasE K B H ((some (.ref a), .own xs) :: (o, .gen fp Φ) :: ρ) σ Γ) :
    HasE K B H ((o, .gen (fp ++ [a]) (fun Hd H v => Φ Hd H v ∧ a ∉ fp ∧ ∃ us, H a = some (.lst us) ∧ Paired (Enc.rep K Hd) us xs)) :: ρ) σ Γ := by
  obtain ⟨l, Hd, h1, h2, h3, h4, h5, h6⟩ := h
  have h7 := List.pairwise_cons.mp h6
  have h8 := List.pairwise_cons.mp h7.2
  obtain ⟨a', us, k1, k2, k3, k4, k5⟩ := h5 _ List.mem_cons_self
  have k1 : some (V.ref a) = some (.ref a') := k1
  injection k1 with k1
  injection k1 with k1
  subst k1
  obtain ⟨w, e1, e2, e3⟩ := h5 _ (List.mem_cons_of_mem _ List.mem_cons_self)
  have na : a ∉ fp := fun z => h7.1 (o, .gen fp Φ) List.mem_cons_self a rfl z
  refine ⟨l, Hd, h1, h2, h3, h4, fun p hp => ?_, List.pairwise_cons.mpr ⟨fun q hq c o1 o2 => ?_, h8.2⟩⟩
  · rcases List.mem_cons.mp hp with z | z
    · rw [z]
      refine ⟨w, e1, fun c hc => ?_, fun Hd' H' f1 f2 f3 => ⟨e3 Hd' H' f1 (fun c hc => f2 c (List.mem_append_left _ hc)) (fun c hc => f3 c (List.mem_append_left _ hc)), na, us, ?_, PairedMono f1 k5⟩⟩
      · rcases List.mem_append.mp hc with y | y
        · exact e2 c y
        · rw [List.mem_singleton.mp y]
          exact ⟨k2, k3, by rw [k4]; exact ⟨_, rfl, fun _ z => nomatch z⟩⟩
      · rw [f3 a (List.mem_append_right _ List.mem_cons_self)]
        exact k4
    · exact h5 p (List.mem_cons_of_mem _ (List.mem_cons_of_mem _ z))
  · have o1 : c ∈ fp ++ [a] := o1
    rcases List.mem_append.mp o1 with y | y
    · exact h8.1 q hq c y o2
    · have := List.mem_singleton.mp y
      subst this
      exact h7.1 q (List.mem_cons_of_mem _ hq) c rfl o2
end
end DX
namespace DX
open PySem PySem.Spec PyProof.Rows L2
open DEnc (encD)
instance decTup {α : Type} [DecidableEq α] : DecidableEq (Tup α) := fun a b => if h : a.l = b.l then .isTrue (by cases a; cases b; simp at h; rw [h]) else .isFalse fun z => h (by rw [z])
instance qencTup {α : Type} [Enc α] [DEnc α] [DecidableEq α] [QEnc α] : QEnc (Tup α) where
  eqv x y := by
    show PyData.eqv (.tuple (x.l.map encD)) (.tuple (y.l.map encD)) = _
    rw [PyData.eqv, eqvAll_dec]
    exact decide_eq_decide.mpr ⟨fun h => by cases x; cases y; simp at h; rw [h], fun h => by rw [h]⟩
  dep := QEnc.dep α + 1
  dle x := by
    show PyData.depth (.tuple (x.l.map encD)) ≤ _
    rw [PyData.depth]
    exact Nat.succ_le_succ (depthAll_le x.l)
  lay x := ∀ y ∈ x.l, QEnc.lay y
  ok x h := by
    show PyData.canLay0 (.tuple (x.l.map encD)) = true
    rw [PyData.canLay0]
    exact canAll_of x.l h
end DX
namespace DX
open PySem PySem.Spec PyProof.Rows L2
/-- a def's object, its code object, where that one's table stands -/
structure Coded (K : PySem.W.Frag) (n : Str) (f c Pt : Addr) : Prop where
  ns : PySem.W.nsIn K mainGlobals n = some (some (.ref f))
  ex : ∃ (o oc : Obj) (fd : FuncData) (vs : Array Value), K.lookup f = some o ∧ o.data = .func fd ∧ fd.code = .ref c ∧ K.lookup c = some oc ∧ oc.data = .fields vs ∧ vs[11]? = some (.ref Pt)
theorem Coded.one {K : PySem.W.Frag} {n : Str} {f c Pt f' c' Pt' : Addr} (h : Coded K n f c Pt) (g : Coded K n f' c' Pt') : Pt = Pt' := by
  obtain ⟨h0, o, oc, fd, vs, h1, h2, h3, h4, h5, h6⟩ := h
  obtain ⟨g0, o', oc', fd', vs', g1, g2, g3, g4, g5, g6⟩ := g
  rw [h0] at g0
  injection g0 with g0
  injection g0 with g0
  injection g0 with g0
  subst g0
  rw [h1] at g1
  injection g1 with g1
  subst g1
  rw [h2] at g2
  injection g2 with g2
  subst g2
  rw [h3] at g3
  injection g3 with g3
  subst g3
  rw [h4] at g4
  injection g4 with g4
  subst g4
  rw [h5] at g5
  injection g5 with g5
  subst g5
  rw [h6] at g6
  injection g6 with g6
  injection g6
theorem tabs_of {K : PySem.W.Frag} {H : Hp} (h : ∀ n ∈ GenNames, ∃ f c Pt, Coded K n f c Pt ∧ H Pt = some (.tbl #[])) : TabsIn K H := fun P hP => by
  obtain ⟨n, hn, f, c, o, oc, fd, vs, t1, t2⟩ := hP
  obtain ⟨f', c', Pt, k1, k2⟩ := h n hn
  have e := Coded.one ⟨t1, o, oc, fd, vs, t2⟩ k1
  subst e
  exact ⟨#[], k2, (trivial : TriplesOk [])⟩
end DX
namespace DX
open PySem PySem.Spec PyProof.Rows L2
instance nnInts : @NonNone (List Int) encList := @NonNone.mk (List Int) encList fun ⟨a, _, h, _⟩ z => by rw [z] at h; cases h
end DX
namespace DX
open PySem PySem.Spec PyProof.Rows L2
open DEnc (encD)
/-- a dict that is locked for good -/
def FDct (β : Type) : Type := Dct β
instance encFDct {β : Type} [Enc β] : Enc (FDct β) where
  rep := fun K H v d => ∃ a od kvs, v = .ref a ∧ H a = some (.frz od (.dK kvs)) ∧ DRep (β := β) K H kvs d
  mono := fun e ⟨a, od, kvs, h1, h2, h3⟩ => ⟨a, od, kvs, h1, e _ _ h2, h3.mono e⟩
end DX
namespace DX
open PySem PySem.Spec PyProof.Rows L2
open DEnc (encD)
/-- a list known by its address, and what it holds -/
structure AL (β : Type) where
  a : Addr
  l : List β
instance encAL {β : Type} : Enc (AL β) := ⟨fun _ _ v x => v = .ref x.a, fun _ h => h⟩
instance inhAL {β : Type} : Inhabited (AL β) := ⟨⟨0, []⟩⟩
/-- a list at one of fp, its items lists at others of fp -/
def LLPhi {β : Type} [Enc β] (K : PySem.W.Frag) (xss : List (List β)) (fp : List Addr) : Hp → Hp → V → Prop := fun Hd H v =>
  ∃ (a : Addr) (als : List (AL β)), v = .ref a ∧ a ∈ fp ∧ (∀ x ∈ als, x.a ∈ fp ∧ x.a ≠ a ∧ ∃ us, H x.a = some (.lst us) ∧ Paired (Enc.rep K Hd) us x.l) ∧ H a = some (.lst (als.map fun x => .ref x.a)) ∧ als.map (fun x => x.l) = xss
section
variable {K : PySem.W.Frag} {B : Hp × Hp} {H H' : Hp} {ρ : List Slot} {σ : L2.St} {Γ : List Sl} {p : Slot} {s : Sl} {o : Option V}
/-- an object of those that a slot owns changes; nothing lends it -/
theorem HasE.mutGenL {fp : List Addr} {Φ Φ' : Hp → Hp → V → Prop} {b : Addr} {u : HO} (h : HasE K B H ((o, .gen fp Φ) :: ρ) σ Γ) (hb : b ∈ fp) (nb : ∀ q ∈ ρ ++ σ.zip Γ, ¬ lends q b)
    (hv : ∀ Hd v, Ex Hd H → o = some v → (∀ q ∈ ρ ++ σ.zip Γ, SlotOk K B.2 Hd H q.1 q.2) → Φ Hd H v → ∀ Hd' H', Ex Hd Hd' → (∀ a ∈ fp, H' a = upd H b u a) → Φ' Hd' H' v) (nu : ∀ ps, u ≠ .tbl ps := by exact fun _ z => nomatch z) : HasE K B (upd H b u) ((o, .gen fp Φ') :: ρ) σ Γ := by
  obtain ⟨l, Hd, h1, h2, h3, h4, h5, h6⟩ := h
  obtain ⟨w, e1, e2, e3⟩ := h5 _ List.mem_cons_self
  obtain ⟨n1, n2, n3⟩ := e2 b hb
  have h7 := List.pairwise_cons.mp h6
  refine ⟨l, Hd, h1, h2.mut n2, h3.mut n1, h4, fun p hp => ?_, List.pairwise_cons.mpr ⟨fun q hq c o1 o2 => h7.1 q hq c o1 o2, h7.2⟩⟩
  rcases List.mem_cons.mp hp with z | z
  · rw [z]
    refine ⟨w, e1, fun c hc => ⟨(e2 c hc).1, (e2 c hc).2.1, ?_⟩, fun Hd' H' f1 f2 f3 => hv Hd w h2 e1 (fun q hq => h5 q (List.mem_cons_of_mem _ hq)) (e3 Hd H (Ex.refl _) (fun c hc => (e2 c hc).2.1) fun c hc => rfl) Hd' H' f1 f3⟩
    by_cases y : c = b
    · rw [y, upd_same]; exact ⟨_, rfl, nu⟩
    · rw [upd_ne y]; exact (e2 c hc).2.2
  · have ok := h5 p (List.mem_cons_of_mem _ z)
    have hap := h7.1 p z
    have hnb := nb p z
    obtain ⟨o', s'⟩ := p
    have key : ∀ c, owns (o', s') c → c ≠ b := fun c hc z2 => by
      subst z2
      exact hap c hb hc
    cases s' with
    | no => trivial
    | is x => exact ok
    | own ys => obtain ⟨c, us, g1, g2, g3, g4, g5⟩ := ok; exact ⟨c, us, g1, g2, g3, by rw [upd_ne (key c g1)]; exact g4, g5⟩
    | bor ys =>
      obtain ⟨c, us, g1, g4, g5⟩ := ok
      exact ⟨c, us, g1, by rw [upd_ne (fun z2 => by subst z2; exact hnb g1)]; exact g4, g5⟩
    | arg ys =>
      obtain ⟨c, us, g1, g3, g4, g5⟩ := ok
      exact ⟨c, us, g1, g3, by rw [upd_ne (fun z2 => by subst z2; exact g3 n1)]; exact g4, g5⟩
    | ownA d ys => obtain ⟨c, us, g1, g2, g3, g4, g5, g6⟩ := ok; exact ⟨c, us, g1, g2, g3, by rw [upd_ne (key c g1)]; exact g4, g5, g6⟩
    | gen fp2 Φ2 =>
      obtain ⟨w, g1, g2, g3⟩ := ok
      exact ⟨w, g1, fun c hc => ⟨(g2 c hc).1, (g2 c hc).2.1, by rw [upd_ne (key c hc)]; exact (g2 c hc).2.2⟩, fun Hd2 H2 f1 f2 f3 => g3 Hd2 H2 f1 f2 fun c hc => by rw [f3 c hc, upd_ne (key c hc)]⟩
/-- what a gen slot says now -/
theorem HasE.genTop {fp : List Addr} {Φ : Hp → Hp → V → Prop} (h : HasE K B H ((o, .gen fp Φ) :: ρ) σ Γ) : ∃ v Hd, o = some v ∧ Ex Hd H ∧ Φ Hd H v ∧ ∀ b ∈ fp, H b ≠ none := by
  obtain ⟨l, Hd, h1, h2, h3, h4, h5, h6⟩ := h
  obtain ⟨w, e1, e2, e3⟩ := h5 _ List.mem_cons_self
  exact ⟨w, Hd, e1, h2, e3 Hd H (Ex.refl _) (fun b hb => (e2 b hb).2.1) (fun b hb => rfl), fun b hb => (e2 b hb).2.2.ne⟩
theorem HasE.genAt {i : Nat} {fp : List Addr} {Φ : Hp → Hp → V → Prop} (h : HasE K B H ρ σ Γ) (g : Γ[i]? = some (.gen fp Φ)) : ∃ v Hd, σ[i]? = some (some v) ∧ Ex Hd H ∧ Φ Hd H v ∧ ∀ b ∈ fp, H b ≠ none := by
  obtain ⟨o, ho, hm⟩ := zip_get h.len g
  obtain ⟨v, Hd, e1, r⟩ := (h.takeOut g ho).genTop
  subst e1
  exact ⟨v, Hd, ho, r⟩
theorem HasE.newLL {β : Type} [Enc β] {a : Addr} (h : HasE K B H ρ σ Γ) (hn : H a = none) : HasE K B (upd H a (.lst [])) ((some (.ref a), .gen [a] (LLPhi (β := β) K [] [a])) :: ρ) σ Γ := by
  obtain ⟨l, Hd, h1, h2, h3, h4, h5, h6⟩ := h
  have e : Ex H (upd H a (.lst [])) := Ex.new hn
  refine ⟨l, Hd, h1, h2.trans e, h3.trans e, h4, fun p hp => ?_, List.pairwise_cons.mpr ⟨fun q hq b z1 z2 => ?_, h6⟩⟩
  · rcases List.mem_cons.mp hp with z | z
    · rw [z]
      refine ⟨.ref a, rfl, fun b hb => ?_, fun Hd' H' f1 f2 f3 => ⟨a, [], rfl, List.mem_cons_self, (fun x hx => nomatch hx), ?_, rfl⟩⟩
      · rw [List.mem_singleton.mp hb]
        exact ⟨h3.back hn, h2.back hn, by rw [upd_same]; exact ⟨_, rfl, fun _ z => nomatch z⟩⟩
      · rw [f3 a List.mem_cons_self, upd_same]
        rfl
    · exact (h5 p z).mono (Ex.refl _) e fun _ _ z => z
  · have z1 : b ∈ [a] := z1
    rw [List.mem_singleton.mp z1] at z2
    exact owns_ne (h5 q hq) z2 hn rfl
/-- a list of one's own goes to the end of a list of such -/
theorem HasE.appLL {β : Type} [Enc β] {D b : Addr} {fp : List Addr} {xss : List (List β)} {xs : List β} {ws : List V} (h : HasE K B H ((some (.ref b), .own xs) :: (some (.ref D), .gen fp (LLPhi K xss fp)) :: ρ) σ Γ) (hD : H D = some (.lst ws)) (nb : ∀ q ∈ ρ ++ σ.zip Γ, ¬ lends q D) :
    HasE K B (upd H D (.lst (ws ++ [.ref b]))) ((some (.ref D), .gen (fp ++ [b]) (LLPhi K (xss ++ [xs]) (fp ++ [b]))) :: ρ) σ Γ := by
  obtain ⟨v, Hd, e1, e2, ⟨a, als, r1, r2, r3, r4, r5⟩, _⟩ := h.swap.genTop
  injection e1 with e1
  rw [r1] at e1
  injection e1 with e1
  subst e1
  have hj := h.joinGen
  refine HasE.mutGenL hj (b := D) (List.mem_append_left _ r2) nb ?_
  intro Hd1 v1 f1 f2 f3 f4 Hd' H' f5 f6
  obtain ⟨⟨a1, als1, q1, q2, q3, q4, q5⟩, nbf, us, u1, u2⟩ := f4
  injection f2 with f2
  rw [← f2] at q1
  injection q1 with q1
  subst q1
  rw [q4] at hD
  injection hD with hD
  injection hD with hD
  have bD : b ≠ D := fun z => nbf (by rw [z]; exact q2)
  refine ⟨D, als1 ++ [⟨b, xs⟩], f2.symm, List.mem_append_left _ q2, fun x hx => ?_, ?_, by rw [List.map_append, q5]; rfl⟩
  · rcases List.mem_append.mp hx with z | z
    · obtain ⟨g1, g2, us2, g3, g4⟩ := q3 x z
      exact ⟨List.mem_append_left _ g1, g2, us2, by rw [f6 _ (List.mem_append_left _ g1), upd_ne g2]; exact g3, PairedMono f5 g4⟩
    · rw [List.mem_singleton.mp z]
      exact ⟨List.mem_append_right _ List.mem_cons_self, bD, us, by rw [f6 _ (List.mem_append_right _ List.mem_cons_self), upd_ne bD]; exact u1, PairedMono f5 u2⟩
  · rw [f6 _ (List.mem_append_left _ q2), upd_same, ← hD, List.map_append]
    rfl
end
end DX
namespace DX
open PySem PySem.Spec PyProof.Rows L2
open DEnc (encD)
section
variable {X : Cx} {M : Type} {L : Leaf M} {Γ Γ' : List Sl} {k : List (List Stmt)} {m : M} {st : Stmt} {sts : List Stmt} {e a b c ke tg tg2 iter o cnd : Expr} {es : List Expr} {ss : List Sl} {pos pos1 pos2 p p' p1 p2 p3 p4 p5 p6 p7 lpos apos cpos apos1 cpos1 tpos kpos : Pos} {s : Sl}
theorem lc_runO {α β : Type} [Enc α] [Enc β] {elt : Expr} {scope : Scope} {xs : List α} {P : Prop} {tt : TT} (j : Nat) (g : α → List β) (hi : IXB X Γ tg iter xs P) (hz : P → xs.length ≤ sizeLine)
    (ht : ∀ (σ : L2.St) (H : Hp) (Q : Bool → Hp → Prop), Q true H → tt σ H Q)
    (he : ∀ (i : Nat) (x : α), xs[i]? = some x → ∀ (s : Shared) (H : Hp) (C : Addr) (cl : List (Str × Addr)) (fp : List Addr), PX (X.blk s H scope (compEnvC scope cl C X.env) fp) ((Γ.map lend).set j (.is x)) elt (.own (g x)))
    (B : Hp × Hp) (ρ : List Slot) (σ : L2.St) (H : Hp) (h : HasE X.K B H ρ σ Γ) (Q : VK) (q : ∀ v fp H', Ex H H' → HasE X.K B H' ((some v, .gen fp (LLPhi X.K (xs.map g) fp)) :: ρ) σ Γ → Q v H') :
    tLc (wI X tg iter) (gName j) tt (wEb X scope elt) [j] σ H Q := by
  refine hi.run B ρ σ H h _ fun J H1 τ hp e1 h1 hgo hstop => fun D hD => ?_
  have hlen := hz hp
  have hl := h.len
  refine ⟨fun i m H' => m = xs.length - i ∧ i ≤ xs.length ∧ Ex H1 H' ∧ ∃ fp, HasE X.K B H' ([(some (V.ref D), .gen fp (LLPhi X.K ((xs.take i).map g) fp))] ++ (τ ++ ρ)) σ Γ, ⟨xs.length, by simp, Nat.zero_le _, Ex.new hD, [D], HasE.newLL h1 hD⟩, ?_⟩
  · rintro i m H2 ⟨rfl, hin, ex2, fp, k⟩
    by_cases hlt : i < xs.length
    · have hx : xs[i]? = some xs[i] := List.getElem?_eq_getElem hlt
      obtain ⟨g1, g2⟩ := hgo [(some (V.ref D), .gen fp (LLPhi X.K ((xs.take i).map g) fp))] σ Γ H2 i xs[i] k hx
      refine .inr ⟨g1, fun H' => Ex H1 H' ∧ ∃ fp, HasE X.K B H' ([(some (V.ref D), .gen fp (LLPhi X.K ((xs.take (i + 1)).map g) fp))] ++ (τ ++ ρ)) σ Γ, fun H' p => ⟨xs.length - (i + 1), by omega, rfl, hlt, p.1, p.2⟩, fun x H3 y => ?_⟩
      obtain ⟨e3, k3⟩ := g2 x H3 y
      have ex3 : Ex H1 H3 := ex2.trans e3
      have hw : L2.wipe ((L2.wipe σ [j]).set j (some x)) [j] = L2.wipe σ [j] := by
        show ((σ.set j none).set j (some x)).set j none = σ.set j none
        rw [List.set_set, List.set_set]
      have hσ : (L2.wipe σ [j]).set j (some x) = σ.set j (some x) := by
        show (σ.set j none).set j (some x) = _
        rw [List.set_set]
      have tk : (xs.take (i + 1)) = xs.take i ++ [xs[i]] := by
        rw [List.take_succ, hx]
        rfl
      -- the block's slots, the outer ones beside
      have k4 : HasE X.K B H3 (σ.zip Γ ++ ([(some (V.ref D), .gen fp (LLPhi X.K ((xs.take i).map g) fp))] ++ (τ ++ ρ))) (σ.set j (some x)) ((Γ.map lend).set j (.is xs[i])) := by
        have a := k3.fork
        obtain ⟨l, Hd, a1, a2, a3, a4, a5, a6⟩ := a
        refine HasE.set j ⟨l, Hd, a1, a2, a3, a4, fun p hp => a5 p ?_, ?_⟩
        · rcases List.mem_append.mp hp with z | z
          · rcases List.mem_cons.mp z with z | z
            · rw [z]; exact List.mem_append_left _ (List.mem_append_right _ List.mem_cons_self)
            · rcases List.mem_append.mp z with z | z
              · exact List.mem_append_left _ (List.mem_append_left _ z)
              · exact List.mem_append_left _ (List.mem_append_right _ (List.mem_cons_of_mem _ z))
          · exact List.mem_append_right _ z
        · have b := List.pairwise_append.mp a6
          have c := List.pairwise_append.mp b.1
          have d := List.pairwise_cons.mp c.2.1
          refine List.pairwise_append.mpr ⟨List.pairwise_cons.mpr ⟨fun r _ => apart_is r, List.pairwise_append.mpr ⟨c.1, d.2, fun p hp q hq => c.2.2 p hp q (List.mem_cons_of_mem _ hq)⟩⟩, b.2.1, fun p hp q hq => ?_⟩
          rcases List.mem_cons.mp hp with z | z
          · rw [z]; exact apart_is q
          · refine b.2.2 p ?_ q hq
            rcases List.mem_append.mp z with z | z
            · exact List.mem_append_left _ z
            · exact List.mem_append_right _ (List.mem_cons_of_mem _ z)
      show L2.wipe ((L2.wipe σ [j]).set j (some x)) [j] = L2.wipe σ [j] ∧ _
      refine ⟨hw, ?_⟩
      rw [hσ]
      refine ht _ _ _ ?_
      rw [if_pos rfl]
      intro s0 H0 C cl fp0
      refine (he i xs[i] hx s0 H0 C cl fp0).run B _ _ H3 k4 _ fun y' H5 e5 k6 => ?_
      have k7 : HasE X.K B H5 ((some y', .own (g xs[i])) :: ([(some (V.ref D), .gen fp (LLPhi X.K ((xs.take i).map g) fp))] ++ (τ ++ ρ))) σ Γ := HasE.join1 hl k6
      obtain ⟨b, hb⟩ : ∃ b, y' = .ref b := by
        obtain ⟨_, _, _, _, _, _, a5, _⟩ := id k7
        obtain ⟨b, us, c1, _⟩ := a5 _ List.mem_cons_self
        have c1 : some y' = some (V.ref b) := c1
        injection c1 with c1
        exact ⟨b, c1⟩
      subst hb
      obtain ⟨v, Hd, r1, r2, ⟨a, als, s1, s2, s3, s4, s5⟩, _⟩ := k7.swap.genTop
      injection r1 with r1
      rw [s1] at r1
      injection r1 with r1
      subst r1
      have al : als.length = i := by
        have := congrArg List.length s5
        rw [List.length_map, List.length_map, List.length_take] at this
        omega
      refine ⟨_, s4, by rw [List.length_map]; omega, (ex3.trans e5).mut hD, fp ++ [b], ?_⟩
      rw [tk, List.map_append]
      refine HasE.appLL k7 s4 fun p hp lp => ?_
      rcases List.mem_append.mp hp with z | z
      · exact HasE.lent h1 (List.mem_append_left _ z) lp hD
      · exact HasE.lent h1 (List.mem_append_right _ z) lp hD
    · have e : i = xs.length := by omega
      subst e
      rw [List.take_length] at k
      refine .inl ⟨hstop _ σ Γ H2 k, q _ fp H2 (e1.trans ex2) ?_⟩
      clear hgo hstop h1 hlt
      induction τ with
      | nil => exact k
      | cons t τ ih => exact ih (HasE.pop2 k)
/-- the list of lists at a slot, now -/
theorem HasE.llAt {β : Type} [Enc β] {K : PySem.W.Frag} {B : Hp × Hp} {H : Hp} {ρ : List Slot} {σ : L2.St} {i : Nat} {fp : List Addr} {xss : List (List β)} (h : HasE K B H ρ σ Γ) (g : Γ[i]? = some (.gen fp (LLPhi K xss fp))) : ∃ (a : Addr) (als : List (AL β)) (Hd : Hp), σ[i]? = some (some (.ref a)) ∧ Ex Hd H ∧ a ∈ fp ∧ (∀ x ∈ als, x.a ∈ fp ∧ x.a ≠ a ∧ ∃ us, H x.a = some (.lst us) ∧ Paired (Enc.rep K Hd) us x.l) ∧ H a = some (.lst (als.map fun x => .ref x.a)) ∧ als.map (fun x => x.l) = xss := by
  obtain ⟨v, Hd, h1, h2, ⟨a, als, r1, r2, r3, r4, r5⟩, _⟩ := h.genAt g
  subst r1
  exact ⟨a, als, Hd, h1, h2, r2, r3, r4, r5⟩
theorem al_eq {β : Type} : ∀ {l l2 : List (AL β)}, l.map (fun x => x.a) = l2.map (fun x => x.a) → l.map (fun x => x.l) = l2.map (fun x => x.l) → l = l2
  | [], [], _, _ => rfl
  | [], _ :: _, h, _ => by cases h
  | _ :: _, [], h, _ => by cases h
  | ⟨xa, xl⟩ :: l, ⟨ya, yl⟩ :: l2, h, g => by
    rw [List.map_cons, List.map_cons] at h g
    obtain ⟨h1, h2⟩ := List.cons.inj h
    obtain ⟨g1, g2⟩ := List.cons.inj g
    dsimp only at h1 g1
    rw [h1, g1, al_eq h2 g2]
end
end DX
namespace DX
open PySem PySem.Spec PyProof.Rows L2
open DEnc (encD)
/-- a loop that may be left -/
def forB {S α : Type} (step : S → α → Out S Empty) (s0 : S) (xs : List α) : S := match forO step s0 xs with
  | .go s => s
  | .brk s => s
  | .ret e => e.elim
theorem forO_both {S R α : Type} {step : S → α → Out S R} (I : Nat → S → Prop) (xs : List α) (hI : ∀ (i : Nat) (s : S) (x : α) (s' : S), xs[i]? = some x → I i s → step s x = .go s' → I (i + 1) s') : ∀ (n : Nat) (s0 : S), n ≤ xs.length → I n s0 → (∀ s, forO step s0 (xs.drop n) = .go s → I xs.length s) ∧ ∀ s, forO step s0 (xs.drop n) = .brk s → ∃ i s1 x, xs[i]? = some x ∧ I i s1 ∧ step s1 x = .brk s := by
  have key : ∀ (d n : Nat) (s0 : S), xs.length - n = d → n ≤ xs.length → I n s0 → (∀ s, forO step s0 (xs.drop n) = .go s → I xs.length s) ∧ ∀ s, forO step s0 (xs.drop n) = .brk s → ∃ i s1 x, xs[i]? = some x ∧ I i s1 ∧ step s1 x = .brk s := by
    intro d
    induction d with
    | zero =>
      intro n s0 hd hn h0
      have e : n = xs.length := by omega
      subst e
      rw [List.drop_length]
      exact ⟨fun s h => (by injection h with h; rw [← h]; exact h0), fun s h => (by cases h)⟩
    | succ d ih =>
      intro n s0 hd hn h0
      have hx : xs[n]? = some xs[n] := List.getElem?_eq_getElem (by omega)
      rw [List.drop_eq_getElem_cons (by omega)]
      unfold forO
      cases q : step s0 xs[n] with
      | go s' => exact ih (n + 1) s' (by omega) (by omega) (hI n s0 _ s' hx h0 q)
      | brk s' => exact ⟨fun s h => (by cases h), fun s h => (by injection h with h; rw [← h]; exact ⟨n, s0, _, hx, h0, q⟩)⟩
      | ret r => exact ⟨fun s h => (by cases h), fun s h => (by cases h)⟩
  exact fun n s0 hn h0 => key _ n s0 rfl hn h0
theorem forB_inv {S α : Type} {step : S → α → Out S Empty} {s0 : S} {xs : List α} (I : Nat → S → Prop) (J : S → Prop) (h0 : I 0 s0) (hI : ∀ (i : Nat) (s : S) (x : α) (s' : S), xs[i]? = some x → I i s → step s x = .go s' → I (i + 1) s') (hB : ∀ (i : Nat) (s : S) (x : α) (s' : S), xs[i]? = some x → I i s → step s x = .brk s' → J s') (hE : ∀ s, I xs.length s → J s) : J (forB step s0 xs) := by
  have k := forO_both I xs hI 0 s0 (Nat.zero_le _) h0
  rw [List.drop_zero] at k
  unfold forB
  cases q : forO step s0 xs with
  | go s => exact hE s (k.1 s q)
  | brk s => obtain ⟨i, s1, x, h1, h2, h3⟩ := k.2 s q; exact hB i s1 x s h1 h2 h3
  | ret e => exact e.elim
section
variable {X : Cx} {M : Type} {L : Leaf M} {Γ Γ' : List Sl} {k : List (List Stmt)} {m : M} {st : Stmt} {sts : List Stmt} {e a b c tg iter : Expr} {es : List Expr} {pos p p' p2 apos cpos : Pos} {s : Sl}
theorem sx_forB {S α : Type} [Enc α] {xs : List α} {P : Prop} {body : List Stmt} {mm : S → M} (j : Nat) (Γf : S → List Sl) (step : S → α → Out S Empty) (s0 : S) (I : Nat → S → Prop) (J : S → Prop) (hi : IX X Γ tg iter xs P) (hg : PG X tg (gName j)) (hst : Wk Γ (Γf s0)) (h0 : I 0 s0)
    (hbd : ∀ (i : Nat) (s : S) (x : α), xs[i]? = some x → I i s → SX X (LOutG X.K Γf (fun _ _ _ _ => True)) ((Γf s).set j (.is x)) [body] (step s x))
    (hI : ∀ (i : Nat) (s : S) (x : α) (s' : S), xs[i]? = some x → I i s → step s x = .go s' → I (i + 1) s') (hB : ∀ (i : Nat) (s : S) (x : α) (s' : S), xs[i]? = some x → I i s → step s x = .brk s' → J s') (hE : ∀ s, I xs.length s → J s)
    (hrest : ∀ s, s = forB step s0 xs → J s → SX X L (Γf s) (sts :: k) (mm s))
    (hc : X.calm = true := by rfl) (hp : PassesOwn (model X.prog X.w) X.A X.env X.xe := by first | exact PassesOwn.never | exact PassesOwn.leaving) (hs : ∀ x, foldedSetIterable iter X.env x = pure x := by intro _; rfl) : SX X L Γ ((.For tg iter body [] pos :: sts) :: k) (lt (forB step s0 xs) mm) := by
  have hJ := forB_inv I J h0 hI hB hE
  have r := sx_forG (L := L) (mr := fun (e : Empty) => (e.elim : M)) (mm := mm) (sts := sts) (k := k) (pos := pos) j Γf step s0 I hi hg hst h0 hbd hI (fun B r => r.elim) (fun s hs => hrest s (by
    unfold forB
    rcases hs with ⟨z, _⟩ | z <;> rw [z]) (by
    have e : s = forB step s0 xs := by
      unfold forB
      rcases hs with ⟨z, _⟩ | z <;> rw [z]
    rw [e]
    exact hJ)) hc hp hs
  refine sx_eq r ?_
  unfold forK forB lt
  cases q : forO step s0 xs with
  | go s => rfl
  | brk s => rfl
  | ret e => exact e.elim
/-- y = [e for x in xs], e making a list of one's own -/
theorem sx_setLcO {α β : Type} [Enc α] [Enc β] {elt : Expr} {scope : Scope} {nm y : Str} {xs : List α} {P : Prop} {py spos : Pos} {mm : List (List β) → M} (i j : Nat) (g : α → List β) (hi : IXB X Γ tg iter xs P) (hz : P → xs.length ≤ sizeLine)
    (hr : ∀ fp x, x = xs.map g → SX X L (Γ.set i (.gen fp (LLPhi X.K x fp))) (sts :: k) (mm x))
    (htg : ∀ (s : Shared) (H : Hp) (C : Addr) (cl : List (Str × Addr)) (fp : List Addr), PG (X.blk s H scope (compEnvC scope cl C X.env) fp) tg (gName j)) (ok : BlkOk X.N X.env.scope scope [(nm, j)]) (hN : X.N.Nodup) (hc : X.calm = true)
    (he : ∀ (i : Nat) (x : α), xs[i]? = some x → ∀ (s : Shared) (H : Hp) (C : Addr) (cl : List (Str × Addr)) (fp : List Addr), PX (X.blk s H scope (compEnvC scope cl C X.env) fp) ((Γ.map lend).set j (.is x)) elt (.own (g x)))
    (hsw : swapsWith (.ListComp elt [⟨tg, iter, [], 0⟩] scope pos) (some (.Name y py)) spos.line X.env = pure true) (hy : X.N[i]? = some y := by rfl) (hyl : X.env.scope.names.lookup y = some .local := by rfl)
    (hs : ∀ x, foldedSetIterable iter X.env x = pure x := by intro _; rfl) : SX X L Γ ((.Assign [.Name y py] (.ListComp elt [⟨tg, iter, [], 0⟩] scope pos) spos :: sts) :: k) (lt (xs.map g) mm) :=
  ⟨fun B ρ σ H D hb h l => wC_cons (go1 (ps_setLc (own := [(nm, j)]) (te := wEb X scope elt) hc hN hy hyl hsw piW ok htg (fun s H C cl fp => pts_nil) (fun s H C cl fp => ⟨fun pins s' σ H' Q I h => h s H C cl fp pins s' I⟩) hs)
    (lc_runO j g hi hz (fun σ H Q h => h) he B ρ σ H h _ fun v fp H' e k' => (hr fp _ rfl).run B ρ _ H' D hb (HasE.set i k') l))⟩
end
end DX
namespace DX
instance : Inhabited CopD := ⟨⟨[], 0⟩⟩
open PySem PySem.Spec PyProof.Rows L2
open DEnc (encD)
end DX
namespace DX
open PySem PySem.Spec PyProof.Rows L2
open DEnc (encD)
instance qencNL {α : Type} [Enc α] [DEnc α] [DecidableEq α] [QEnc α] : QEnc (Sum Unit (List α)) where
  eqv x y := by
    cases x with
    | inl u => cases y with
      | inl w => show PyData.eqv .none .none = _; simp only [PyData.eqv]; rfl
      | inr w => show PyData.eqv .none (.list (w.map encD)) = _; simp only [PyData.eqv]; rfl
    | inr u => cases y with
      | inl w => show PyData.eqv (.list (u.map encD)) .none = _; simp only [PyData.eqv]; rfl
      | inr w =>
        show PyData.eqv (.list (u.map encD)) (.list (w.map encD)) = _
        rw [PyData.eqv, eqvAll_dec]
        exact decide_eq_decide.mpr ⟨fun h => by rw [h], fun h => by injection h⟩
  dep := QEnc.dep α + 1
  dle x := by
    cases x with
    | inl u => exact Nat.zero_le _
    | inr u =>
      show PyData.depth (.list (u.map encD)) ≤ _
      rw [PyData.depth]
      exact Nat.succ_le_succ (depthAll_le u)
  lay x := match x with
    | .inl _ => True
    | .inr u => ∀ z ∈ u, QEnc.lay z
  ok x h := by
    cases x with
    | inl u => rfl
    | inr u =>
      show PyData.canLay0 (.list (u.map encD)) = true
      rw [PyData.canLay0]
      exact canAll_of u h
end DX
namespace DX
open PySem PySem.Spec PyProof.Rows L2
section
variable {P : Program} {w : World} {K : PySem.W.Frag} {mg : Str → Option Value} {base : Heap}
/-- a class above an object's class promises its method for such objects -/
structure SupOkX (P : Program) (w : World) (K : PySem.W.Frag) (mg : Str → Option Value) (base : Heap) (k : Nat) (cls m : Str) (sp : Sp) : Prop where
  ex : ∃ (C f : Addr) (fd : FuncData), ClsAt K cls C ∧ PySem.W.ks_superIn K C C m = some (some (.ref f)) ∧ PySem.W.typeIn K (.ref f) = some (.type "function") ∧ PySem.W.fnIn K f = true ∧ FnOk P w K mg base (L2.CX P w) k f fd ["self"] sp ∧ Binds K fd ["self"] []
end
end DX
namespace DX
open PySem PySem.Spec PyProof.Rows L2
section
variable {P : Program} {w : World} {K : PySem.W.Frag} {mg : Str → Option Value} {base : Heap}
theorem SupOkX.mono {j k : Nat} {cls m : Str} {sp : Sp} (h : SupOkX P w K mg base j cls m sp) (hj : j ≤ k) : SupOkX P w K mg base k cls m sp := by
  obtain ⟨C, f, fd, h1, h2, h3, h4, F, h5⟩ := h.ex
  exact ⟨C, f, fd, h1, h2, h3, h4, F.mono hj, h5⟩
end
end DX
namespace DX
open PySem PySem.Spec PyProof.Rows L2
open DEnc (encD)
/-- a value as it is -/
structure AnyV where
  v : V
instance : Enc AnyV := ⟨fun _ _ v x => v = x.v, fun _ h => h⟩
/-- a tuple of a text and anything -/
structure RT where
  t : List Nat
  w : V
instance encRT : Enc RT where
  rep := fun K H v x => ∃ p, v = .ref p ∧ SqT K H p [.str (mkS x.t), x.w]
  mono := fun e ⟨p, h1, h2⟩ => ⟨p, h1, ext e h2⟩
end DX
namespace DX
open PySem PySem.Spec PyProof.Rows L2
open DEnc (encD)
section
variable {P : Program} {w : World} {A : Around} {E : Value → Shared → Prop} {s : Shared} {a : Addr} {S : Key → Bool} {n : Nat}
/-- a set of known keys, its table in order -/
structure WSet (P : Program) (w : World) (h : Heap) (a : Addr) (S : Key → Bool) (n : Nat) (o : Obj) (es : Array (Int × Value)) (ep : Nat) (t : SetTable) : Prop where
  at_ : h.get? a = some o
  ex : o.ExactSet
  dat : o.data = .set es ep t
  el : ElemsOf (mixKind P w) es.toList
  mem : ∀ k, S k = true ↔ ∃ e ∈ es.toList, (mixKind P w).is k e.2 = true
  few : es.size < scanBound
  fit : t.fits es.size = true
  len : es.size = n
  ris : Ris t.place.toList
  led : w.params.followText "set-order" = true ∨ t.led = true
def WSetE (P : Program) (w : World) (h : Heap) (a : Addr) (S : Key → Bool) (n : Nat) : Prop := ∃ o es ep t, WSet P w h a S n o es ep t
theorem WSetE.at {h h' : Heap} (W : WSetE P w h a S n) (k : ∀ o, h.get? a = some o → h'.get? a = some o) : WSetE P w h' a S n := by
  obtain ⟨o, es, ep, t, W⟩ := W
  exact ⟨o, es, ep, t, { W with at_ := k o W.at_ }⟩
end
end DX
namespace DX
open PySem PySem.Spec PyProof.Rows L2
open DEnc (encD)
def keyI (x : Int) : Key := .inl x
theorem keyI_inj {x y : Int} (h : keyI x = keyI y) : x = y := Sum.inl.inj h
/-- a dict from numbers, in the order in which the keys came -/
structure DctI (β : Type) where
  l : List (Int × β)
def DctI.get? {β : Type} (d : DctI β) (k : Int) : Option β := (d.l.find? fun p => decide (p.1 = k)).map (·.2)
def DctI.put {β : Type} (d : DctI β) (k : Int) (v : β) : DctI β := ⟨if (d.l.any fun p => decide (p.1 = k)) = true then d.l.map (fun p => if p.1 = k then (p.1, v) else p) else d.l ++ [(k, v)]⟩
def DRepI {β : Type} [Enc β] (K : PySem.W.Frag) (H : Hp) (kvs : List (L2.Key × V)) (d : DctI β) : Prop := Paired (fun (q : L2.Key × V) (p : Int × β) => q.1 = keyI p.1 ∧ Enc.rep K H q.2 p.2) kvs d.l
theorem DRepI.mono {β : Type} [Enc β] {K : PySem.W.Frag} {H H' : Hp} {kvs : List (L2.Key × V)} {d : DctI β} (e : Ex H H') (h : DRepI K H kvs d) : DRepI K H' kvs d := Paired.mapP h fun _ _ r => ⟨r.1, Enc.mono e r.2⟩
instance encDctI {β : Type} [Enc β] : Enc (DctI β) where
  rep := fun K H v d => ∃ a kvs, v = .ref a ∧ H a = some (.dK kvs) ∧ DRepI K H kvs d
  mono := fun e ⟨a, kvs, h1, h2, h3⟩ => ⟨a, kvs, h1, e _ _ h2, h3.mono e⟩
/-- what an own dict's slot tells -/
def DPhiI {β : Type} [Enc β] (K : PySem.W.Frag) (a : Addr) (d : DctI β) : Hp → Hp → V → Prop := fun Hd H v => v = .ref a ∧ ∃ kvs, H a = some (.dK kvs) ∧ DRepI K Hd kvs d
section
variable {K : PySem.W.Frag} {B : Hp × Hp} {H H' : Hp} {ρ : List Slot} {σ : L2.St} {Γ : List Sl} {p : Slot} {s : Sl} {o : Option V}
theorem drepI_get {β : Type} [Enc β] {k : Int} : ∀ {kvs : List (L2.Key × V)} {l : List (Int × β)}, DRepI K H kvs ⟨l⟩ → match valV kvs (keyI k), DctI.get? ⟨l⟩ k with
    | some v, some x => Enc.rep K H v x
    | none, none => True
    | _, _ => False
  | [], [], _ => trivial
  | q :: kvs, p :: l, .cons r t => by
    by_cases c : p.1 = k
    · have e1 : valV (q :: kvs) (keyI k) = some q.2 := valV_pos (by rw [r.1, c])
      have e2 : DctI.get? ⟨p :: l⟩ k = some p.2 := by
        unfold DctI.get?
        rw [List.find?_cons, decide_eq_true c]
        rfl
      rw [e1, e2]
      exact r.2
    · have e1 : valV (q :: kvs) (keyI k) = valV kvs (keyI k) := valV_neg (fun z => c (keyI_inj (r.1.symm.trans z)))
      have e2 : DctI.get? ⟨p :: l⟩ k = DctI.get? ⟨l⟩ k := by
        unfold DctI.get?
        rw [List.find?_cons, decide_eq_false c]
      rw [e1, e2]
      exact drepI_get t
theorem drepI_any {β : Type} [Enc β] {k : Int} : ∀ {kvs : List (L2.Key × V)} {l : List (Int × β)}, DRepI K H kvs ⟨l⟩ → (kvs.any fun kv => decide (kv.1 = keyI k)) = (l.any fun p => decide (p.1 = k))
  | [], [], _ => rfl
  | q :: kvs, p :: l, .cons r t => by
    rw [List.any_cons, List.any_cons, drepI_any t]
    congr 1
    refine decide_eq_decide.mpr ⟨fun z => keyI_inj (r.1.symm.trans z), fun z => by rw [r.1, z]⟩
theorem drepI_put {β : Type} [Enc β] {kvs : List (L2.Key × V)} {d : DctI β} {k : Int} {v : V} {x : β} (h : DRepI K H kvs d) (hv : Enc.rep K H v x) : DRepI K H (putK kvs (keyI k) v) (d.put k x) := by
  unfold putK DctI.put
  rw [drepI_any (k := k) (l := d.l) h]
  by_cases c : (d.l.any fun p => decide (p.1 = k)) = true
  · rw [if_pos c, if_pos c]
    show Paired _ (kvs.map _) (d.l.map _)
    have key : ∀ {kvs : List (L2.Key × V)} {l : List (Int × β)}, Paired (fun (q : L2.Key × V) (p : Int × β) => q.1 = keyI p.1 ∧ Enc.rep K H q.2 p.2) kvs l → Paired (fun (q : L2.Key × V) (p : Int × β) => q.1 = keyI p.1 ∧ Enc.rep K H q.2 p.2) (kvs.map fun kv => if kv.1 = keyI k then (kv.1, v) else kv) (l.map fun p => if p.1 = k then (p.1, x) else p) := fun {kvs l} h => by
      induction h with
      | nil => exact .nil
      | @cons q p kvs l r t ih =>
        rw [List.map_cons, List.map_cons]
        refine .cons ?_ ih
        by_cases c : p.1 = k
        · rw [if_pos c, if_pos (by rw [r.1, c])]
          exact ⟨r.1, hv⟩
        · rw [if_neg c, if_neg (fun z => c (keyI_inj (r.1.symm.trans z)))]
          exact r
    exact key h
  · rw [if_neg c, if_neg c]
    exact paired_append h (.cons ⟨rfl, hv⟩ .nil)
/-- a new dict of one's own -/
theorem HasE.newDctI {β : Type} [Enc β] {a : Addr} (h : HasE K B H ρ σ Γ) (hn : H a = none) : HasE K B (upd H a (.dK [])) ((some (.ref a), .gen [a] (DPhiI K a (⟨[]⟩ : DctI β))) :: ρ) σ Γ := by
  obtain ⟨l, Hd, h1, h2, h3, h4, h5, h6⟩ := h
  have e : Ex H (upd H a (.dK [])) := Ex.new hn
  refine ⟨l, Hd, h1, h2.trans e, h3.trans e, h4, fun p hp => ?_, List.pairwise_cons.mpr ⟨fun q hq b z1 z2 => ?_, h6⟩⟩
  · rcases List.mem_cons.mp hp with z | z
    · rw [z]
      refine ⟨.ref a, rfl, fun b hb => ?_, fun Hd' H' f1 f2 f3 => ⟨rfl, [], ?_, .nil⟩⟩
      · rw [List.mem_singleton.mp hb]
        exact ⟨h3.back hn, h2.back hn, by rw [upd_same]; exact ⟨_, rfl, fun _ z => nomatch z⟩⟩
      · rw [f3 a List.mem_cons_self, upd_same]
    · exact (h5 p z).mono (Ex.refl _) e fun _ _ z => z
  · have z1 : b ∈ [a] := z1
    rw [List.mem_singleton.mp z1] at z2
    exact owns_ne (h5 q hq) z2 hn rfl
/-- an own dict at the top changes -/
theorem HasE.mutDctI {β γ : Type} [Enc β] [Enc γ] {a : Addr} {kvs' : List (L2.Key × V)} {d : DctI β} {d' : DctI γ} (h : HasE K B H ((o, .gen [a] (DPhiI K a d)) :: ρ) σ Γ)
    (hv : ∀ Hd, Ex Hd H → (∀ q ∈ ρ ++ σ.zip Γ, SlotOk K B.2 Hd H q.1 q.2) → (∀ kvs, H a = some (.dK kvs) → DRepI K Hd kvs d) → DRepI K Hd kvs' d') :
    HasE K B (upd H a (.dK kvs')) ((o, .gen [a] (DPhiI K a d')) :: ρ) σ Γ := by
  obtain ⟨l, Hd, h1, h2, h3, h4, h5, h6⟩ := h
  obtain ⟨w, e1, e2, e3⟩ := h5 _ List.mem_cons_self
  obtain ⟨n1, n2, n3⟩ := e2 a List.mem_cons_self
  obtain ⟨w1, kvs, e4, e5⟩ := e3 Hd H (Ex.refl _) (fun b hb => (e2 b hb).2.1) (fun b hb => rfl)
  have h7 := List.pairwise_cons.mp h6
  refine ⟨l, Hd, h1, h2.mut n2, h3.mut n1, h4, fun p hp => ?_, List.pairwise_cons.mpr ⟨fun q hq c o1 o2 => h7.1 q hq c o1 o2, h7.2⟩⟩
  rcases List.mem_cons.mp hp with z | z
  · rw [z]
    have hr := hv Hd h2 (fun q hq => h5 q (List.mem_cons_of_mem _ hq)) fun kvs'' e => by
      rw [e4] at e
      injection e with e
      injection e with e
      subst e
      exact e5
    refine ⟨w, e1, fun b hb => ?_, fun Hd' H' f1 f2 f3 => ⟨w1, kvs', ?_, hr.mono f1⟩⟩
    · rw [List.mem_singleton.mp hb]
      exact ⟨n1, n2, by rw [upd_same]; exact ⟨_, rfl, fun _ z => nomatch z⟩⟩
    · rw [f3 a List.mem_cons_self, upd_same]
  · have ok := h5 p (List.mem_cons_of_mem _ z)
    have hap := h7.1 p z
    obtain ⟨o', s'⟩ := p
    have lne : ∀ (b : Addr) (us : List V), H b = some (.lst us) → b ≠ a := fun b us g c => by
      rw [c, e4] at g
      cases g
    cases s' with
    | no => trivial
    | is x => exact ok
    | own ys => obtain ⟨b, us, g1, g2, g3, g4, g5⟩ := ok; exact ⟨b, us, g1, g2, g3, by rw [upd_ne (lne b us g4)]; exact g4, g5⟩
    | bor ys => obtain ⟨b, us, g1, g4, g5⟩ := ok; exact ⟨b, us, g1, by rw [upd_ne (lne b us g4)]; exact g4, g5⟩
    | arg ys => obtain ⟨b, us, g1, g3, g4, g5⟩ := ok; exact ⟨b, us, g1, g3, by rw [upd_ne (lne b us g4)]; exact g4, g5⟩
    | ownA c ys => obtain ⟨b, us, g1, g2, g3, g4, g5, g6⟩ := ok; exact ⟨b, us, g1, g2, g3, by rw [upd_ne (lne b us g4)]; exact g4, g5, g6⟩
    | gen fp Φ =>
      obtain ⟨w, g1, g2, g3⟩ := ok
      have ne : ∀ b ∈ fp, b ≠ a := fun b hbb c => by
        subst c
        exact hap b List.mem_cons_self hbb
      exact ⟨w, g1, fun b hb => ⟨(g2 b hb).1, (g2 b hb).2.1, by rw [upd_ne (ne b hb)]; exact (g2 b hb).2.2⟩, fun Hd2 H2 f1 f2 f3 => g3 Hd2 H2 f1 f2 fun b hb => by rw [f3 b hb, upd_ne (ne b hb)]⟩
/-- an own dict becomes known data -/
theorem HasE.shareDctI {β : Type} [Enc β] {a : Addr} {d : DctI β} (h : HasE K B H ((o, .gen [a] (DPhiI K a d)) :: ρ) σ Γ) : HasE K B H ((o, .is d) :: ρ) σ Γ := by
  obtain ⟨l, Hd, h1, h2, h3, h4, h5, h6⟩ := h
  obtain ⟨w, e1, e2, e3⟩ := h5 _ List.mem_cons_self
  obtain ⟨n1, n2, n3⟩ := e2 a List.mem_cons_self
  obtain ⟨w1, kvs, e4, e5⟩ := e3 Hd H (Ex.refl _) (fun b hb => (e2 b hb).2.1) (fun b hb => rfl)
  have e1 : o = some w := e1
  subst e1 w1
  have ed : Ex Hd (upd Hd a (.dK kvs)) := Ex.new n2
  have h7 := List.pairwise_cons.mp h6
  refine ⟨l, upd Hd a (.dK kvs), h1.trans ed, fun b u hb => ?_, h3, fun b b1 b2 => ?_, fun p hp => ?_, List.pairwise_cons.mpr ⟨fun q _ => apart_is q, h7.2⟩⟩
  · by_cases z : b = a
    · subst z
      rw [upd_same] at hb
      injection hb with hb
      rw [← hb]
      exact e4
    · rw [upd_ne z] at hb
      exact h2 b u hb
  · by_cases z : b = a
    · subst z
      exact absurd n1 b2
    · rw [upd_ne z]
      exact h4 b b1 b2
  · rcases List.mem_cons.mp hp with z | z
    · rw [z]
      exact ⟨_, rfl, a, kvs, rfl, upd_same, e5.mono ed⟩
    · have ok := h5 p (List.mem_cons_of_mem _ z)
      obtain ⟨o', s'⟩ := p
      have key : ∀ b, owns (o', s') b → b ≠ a := fun b hb z2 => by
        subst z2
        exact h7.1 _ z b List.mem_cons_self hb
      cases s' with
      | no => trivial
      | is x => obtain ⟨v, g1, g2⟩ := ok; exact ⟨v, g1, Enc.mono ed g2⟩
      | own ys =>
        obtain ⟨b, ws, g1, g2, g3, g4, g5⟩ := ok
        exact ⟨b, ws, g1, g2, by rw [upd_ne (key b g1)]; exact g3, g4, PairedMono ed g5⟩
      | bor ys => obtain ⟨b, ws, g1, g4, g5⟩ := ok; exact ⟨b, ws, g1, g4, PairedMono ed g5⟩
      | arg ys => obtain ⟨b, ws, g1, g3, g4, g5⟩ := ok; exact ⟨b, ws, g1, g3, g4, PairedMono ed g5⟩
      | ownA c ys =>
        obtain ⟨b, ws, g1, g2, g3, g4, g5, g6⟩ := ok
        exact ⟨b, ws, g1, g2, by rw [upd_ne (key b g1)]; exact g3, g4, PairedMono ed g5, g6⟩
      | gen fp Φ =>
        obtain ⟨w, g1, g2, g3⟩ := ok
        exact ⟨w, g1, fun b hb => ⟨(g2 b hb).1, by rw [upd_ne (key b hb)]; exact (g2 b hb).2.1, (g2 b hb).2.2⟩, fun Hd2 H2 f1 f2 f3 => g3 Hd2 H2 (ed.trans f1) f2 f3⟩
theorem HasE.shareDctIAt {β : Type} [Enc β] {i : Nat} {a : Addr} {d : DctI β} (h : HasE K B H ρ σ Γ) (g : Γ[i]? = some (.gen [a] (DPhiI K a d))) : HasE K B H ρ σ (Γ.set i (.is d)) := by
  obtain ⟨o, ho, _⟩ := zip_get h.len g
  have h2 := HasE.set i (h.takeOut g ho).shareDctI
  rw [set_same ho, set_set_sl] at h2
  exact h2
/-- the own dict at a slot, as it stands -/
theorem HasE.dctIAt {β : Type} [Enc β] {i : Nat} {a : Addr} {d : DctI β} (h : HasE K B H ρ σ Γ) (g : Γ[i]? = some (.gen [a] (DPhiI K a d))) : σ[i]? = some (some (.ref a)) ∧ ∃ Hd kvs, Ex Hd H ∧ H a = some (.dK kvs) ∧ DRepI K Hd kvs d := by
  obtain ⟨o, ho, hm⟩ := zip_get h.len g
  obtain ⟨l, Hd, h1, h2, h3, h4, h5, h6⟩ := h
  obtain ⟨w, e1, e2, e3⟩ := h5 _ (List.mem_append_right _ hm)
  obtain ⟨w1, kvs, e4, e5⟩ := e3 Hd H (Ex.refl _) (fun b hb => (e2 b hb).2.1) (fun b hb => rfl)
  have e1 : o = some w := e1
  subst e1 w1
  exact ⟨ho, Hd, kvs, h2, e4, e5⟩
end
section
variable {X : Cx} {M : Type} {L : Leaf M} {Γ Γ' : List Sl} {k : List (List Stmt)} {m : M} {st : Stmt} {sts : List Stmt} {e a b c tg iter : Expr} {es : List Expr} {pos p p' p2 apos cpos tpos kpos : Pos} {s : Sl}
theorem dctI_top {β : Type} [Enc β] {K : PySem.W.Frag} {B : Hp × Hp} {H : Hp} {ρ ρ2 : List Slot} {σ : L2.St} {v : V} {d : DctI β} (hh : HasE K B H (ρ2 ++ (some v, .is d) :: ρ) σ Γ) : ∃ ad Hd kvs, v = .ref ad ∧ Ex Hd H ∧ H ad = some (.dK kvs) ∧ DRepI K Hd kvs d := by
  obtain ⟨_, Hd, _, z2, _, _, z5, _⟩ := hh
  obtain ⟨w, f1, ad, kvs, f2, f3, f4⟩ := z5 (some v, .is d) (List.mem_append_left _ (List.mem_append_right _ List.mem_cons_self))
  have f1 : some v = some w := f1
  injection f1 with f1
  subst f1 f2
  exact ⟨ad, Hd, kvs, rfl, z2, z2 _ _ f3, f4⟩
def DctI.at {β : Type} [Inhabited β] (d : DctI β) (j : Int) : β := (d.get? j).getD default
end
end DX
namespace DX
open PySem PySem.Spec PyProof.Rows L2
open DEnc (encD)
inductive AnyW | mk
instance encAnyW : Enc AnyW := ⟨fun _ _ _ _ => True, fun _ _ => trivial⟩
end DX
namespace DX
open PySem PySem.Spec PyProof.Rows L2
open DEnc (encD)
theorem DctI.put_len {β : Type} (d : DctI β) (k : Int) (v : β) : (d.put k v).l.length ≤ d.l.length + 1 := by
  unfold DctI.put
  split
  · show (d.l.map _).length ≤ _
    rw [List.length_map]
    exact Nat.le_succ _
  · show (d.l ++ [(k, v)]).length ≤ _
    rw [List.length_append]
    exact Nat.le_refl _
end DX
namespace L2
open PySem PySem.Spec PyProof
end L2
namespace DX
open PySem PySem.Spec PyProof.Rows L2
open DEnc (encD)
inductive Rul where
  | ltr (c : List Nat)
  | pair (a b : Int)
  | pow (a n : Int)
abbrev tLtr : List Nat := [108, 101, 116, 116, 101, 114]
abbrev tPair : List Nat := [112, 97, 105, 114]
abbrev tPow : List Nat := [112, 111, 119, 101, 114]
def Rul.isLtr : Rul → Bool
  | .ltr _ => true
  | _ => false
def Rul.isPair : Rul → Bool
  | .pair _ _ => true
  | _ => false
def Rul.isPow : Rul → Bool
  | .pow _ _ => true
  | _ => false
def Rul.tag : Rul → List Nat
  | .ltr _ => tLtr
  | .pair _ _ => tPair
  | .pow _ _ => tPow
def Rul.let : Rul → List Nat
  | .ltr c => c
  | _ => []
def Rul.one : Rul → Int
  | .pair a _ => a
  | .pow a _ => a
  | _ => 0
def Rul.two : Rul → Int
  | .pair _ b => b
  | .pow _ n => n
  | _ => 0
instance : Inhabited Rul := ⟨.ltr []⟩
def Rul.reps : Rul → List V
  | .ltr c => [.str (mkS tLtr), .str (mkS c)]
  | .pair a b => [.str (mkS tPair), .int a, .int b]
  | .pow a n => [.str (mkS tPow), .int a, .int n]
instance encRul : Enc Rul where
  rep := fun K H v x => ∃ a, v = .ref a ∧ SqT K H a x.reps
  mono := fun e ⟨a, h1, h2⟩ => ⟨a, h1, ext e h2⟩
def Rul.data : Rul → PyData
  | .ltr c => .tuple [.str (mkS tLtr), .str (mkS c)]
  | .pair a b => .tuple [.str (mkS tPair), .int a, .int b]
  | .pow a n => .tuple [.str (mkS tPow), .int a, .int n]
instance : DEnc Rul := ⟨Rul.data, fun {K H v x} ⟨a, h1, h2⟩ => by
  subst h1
  cases x with
  | ltr c => exact .tup h2 (.cons (.str _) (.cons (.str _) .nil))
  | pair s l => exact .tup h2 (.cons (.str _) (.cons (.int _) (.cons (.int _) .nil)))
  | pow s l => exact .tup h2 (.cons (.str _) (.cons (.int _) (.cons (.int _) .nil)))⟩
instance : DInj Rul := ⟨fun x y => by
  show same x.data y.data = true ↔ x = y
  cases x <;> cases y <;> unfold Rul.data same <;> simp only [sameAll, same_str, same_int, Bool.and_true, Bool.and_eq_true_iff] <;> simp⟩
instance : FL Rul := ⟨2, fun _ => True, fun x n h _ => by
  obtain ⟨k, rfl⟩ : ∃ k, n = k + 2 := ⟨n - 2, by omega⟩
  cases x <;> rfl⟩
instance : DecidableEq Rul := fun a b => match a, b with
  | .ltr c, .ltr d => if h : c = d then .isTrue (by rw [h]) else .isFalse fun z => h (by injection z)
  | .pair s l, .pair t m => if h : s = t ∧ l = m then .isTrue (by rw [h.1, h.2]) else .isFalse fun z => h (by injection z with z1 z2; exact ⟨z1, z2⟩)
  | .pow s l, .pow t m => if h : s = t ∧ l = m then .isTrue (by rw [h.1, h.2]) else .isFalse fun z => h (by injection z with z1 z2; exact ⟨z1, z2⟩)
  | .ltr _, .pair _ _ => .isFalse fun z => nomatch z
  | .ltr _, .pow _ _ => .isFalse fun z => nomatch z
  | .pair _ _, .ltr _ => .isFalse fun z => nomatch z
  | .pair _ _, .pow _ _ => .isFalse fun z => nomatch z
  | .pow _ _, .ltr _ => .isFalse fun z => nomatch z
  | .pow _ _, .pair _ _ => .isFalse fun z => nomatch z
section
variable {X : Cx} {Γ : List Sl} {e a b c : Expr} {es : List Expr} {s : Sl} {ss : List Sl} {pos p p1 p2 p3 apos cpos : Pos} {x : Rul} {j k0 : Nat}
theorem px_ruTag (ha : PX X Γ a (.is x)) (hb : PX X Γ b (.is (0 : Int))) (hs : PlainIx b := by exact fun _ _ => rfl) : PX X Γ (.Subscript a b pos) (.is x.tag) :=
  px_proj ha hb (fun Hd v ⟨t, h1, h2⟩ => by
    cases x with
    | ltr c => exact ⟨t, _, _, h1, h2, rfl, rfl⟩
    | pair s l => exact ⟨t, _, _, h1, h2, rfl, rfl⟩
    | pow s l => exact ⟨t, _, _, h1, h2, rfl, rfl⟩) hs
theorem px_ruLet (ha : PX X Γ a (.is x)) (hb : PX X Γ b (.is (1 : Int))) (hp : x.isLtr = true) (hs : PlainIx b := by exact fun _ _ => rfl) : PX X Γ (.Subscript a b pos) (.is x.let) :=
  px_proj ha hb (fun Hd v ⟨t, h1, h2⟩ => by
    cases x with
    | ltr c => exact ⟨t, _, _, h1, h2, rfl, rfl⟩
    | pair s l => cases hp
    | pow s l => cases hp) hs
theorem px_ruOne (ha : PX X Γ a (.is x)) (hb : PX X Γ b (.is (1 : Int))) (hp : x.isLtr = false) (hs : PlainIx b := by exact fun _ _ => rfl) : PX X Γ (.Subscript a b pos) (.is x.one) :=
  px_proj ha hb (fun Hd v ⟨t, h1, h2⟩ => by
    cases x with
    | ltr c => cases hp
    | pair s l => exact ⟨t, _, _, h1, h2, rfl, rfl⟩
    | pow s l => exact ⟨t, _, _, h1, h2, rfl, rfl⟩) hs
theorem px_ruTwo (ha : PX X Γ a (.is x)) (hb : PX X Γ b (.is (2 : Int))) (hp : x.isLtr = false) (hs : PlainIx b := by exact fun _ _ => rfl) : PX X Γ (.Subscript a b pos) (.is x.two) :=
  px_proj ha hb (fun Hd v ⟨t, h1, h2⟩ => by
    cases x with
    | ltr c => cases hp
    | pair s l => exact ⟨t, _, _, h1, h2, rfl, rfl⟩
    | pow s l => exact ⟨t, _, _, h1, h2, rfl, rfl⟩) hs
theorem tag_ltr : (decide (x.tag = tLtr)) = x.isLtr := by cases x <;> simp [Rul.tag, Rul.isLtr]
theorem tag_pair : (decide (x.tag = tPair)) = x.isPair := by cases x <;> simp [Rul.tag, Rul.isPair]
theorem tag_pow : (decide (x.tag = tPow)) = x.isPow := by cases x <;> simp [Rul.tag, Rul.isPow]
theorem rul_np (h : x.isPair = true) : x.isLtr = false := by cases x <;> first | rfl | cases h
theorem rul_nw (h : x.isPow = true) : x.isLtr = false := by cases x <;> first | rfl | cases h
theorem tx_isLtr (ha : PX X Γ a (.is x)) : TX X Γ (.Compare (.Subscript a (.Constant (.int 0) k0 p1) p2) [.Eq] [.Constant (.str "letter") j p3] pos) x.isLtr := tag_ltr (x := x) ▸ tx_eqS (px_ruTag ha px_int (fun _ _ => rfl)) (px_str (x := tLtr) (by decide +kernel))
theorem px_isPair (ha : PX X Γ a (.is x)) : PX X Γ (.Compare (.Subscript a (.Constant (.int 0) k0 p1) p2) [.Eq] [.Constant (.str "pair") j p3] pos) (.is x.isPair) := tag_pair (x := x) ▸ px_eqS (px_ruTag ha px_int (fun _ _ => rfl)) (px_str (x := tPair) (by decide +kernel))
theorem tx_isPair (ha : PX X Γ a (.is x)) : TX X Γ (.Compare (.Subscript a (.Constant (.int 0) k0 p1) p2) [.Eq] [.Constant (.str "pair") j p3] pos) x.isPair := tag_pair (x := x) ▸ tx_eqS (px_ruTag ha px_int (fun _ _ => rfl)) (px_str (x := tPair) (by decide +kernel))
theorem tx_isPow (ha : PX X Γ a (.is x)) : TX X Γ (.Compare (.Subscript a (.Constant (.int 0) k0 p1) p2) [.Eq] [.Constant (.str "power") j p3] pos) x.isPow := tag_pow (x := x) ▸ tx_eqS (px_ruTag ha px_int (fun _ _ => rfl)) (px_str (x := tPow) (by decide +kernel))
theorem rul_of_pair {c : List Nat} (h : PX X Γ e (.is (tLtr, c))) : PX X Γ e (.is (Rul.ltr c)) := ⟨fun B ρ σ H h' Q q => h.run B ρ σ H h' _ fun v H1 e1 h1 => q v H1 e1 (by
  obtain ⟨l, Hd, z1, z2, z3, z4, z5, z6⟩ := h1
  have z7 := List.pairwise_cons.mp z6
  refine ⟨l, Hd, z1, z2, z3, z4, fun p hp => ?_, List.pairwise_cons.mpr ⟨fun q _ => apart_is q, z7.2⟩⟩
  rcases List.mem_cons.mp hp with z | z
  · rw [z]
    obtain ⟨w, f1, t, v1, v2, f2, f3, f4, f5⟩ := z5 _ List.mem_cons_self
    have f4 : v1 = .str (mkS tLtr) := f4
    have f5 : v2 = .str (mkS c) := f5
    subst f4 f5
    exact ⟨w, f1, t, f2, f3⟩
  · exact z5 p (List.mem_cons_of_mem _ z))⟩
theorem rul_of_t3 {i j : Int} (h : PX X Γ e (.is (T3.mk tPair i j))) : PX X Γ e (.is (Rul.pair i j)) := ⟨fun B ρ σ H h' Q q => h.run B ρ σ H h' _ fun v H1 e1 h1 => q v H1 e1 (by
  obtain ⟨l, Hd, z1, z2, z3, z4, z5, z6⟩ := h1
  have z7 := List.pairwise_cons.mp z6
  refine ⟨l, Hd, z1, z2, z3, z4, fun p hp => ?_, List.pairwise_cons.mpr ⟨fun q _ => apart_is q, z7.2⟩⟩
  rcases List.mem_cons.mp hp with z | z
  · rw [z]
    obtain ⟨w, f1, t, v1, v2, v3, f2, f3, f4, f5, f6⟩ := z5 _ List.mem_cons_self
    have f4 : v1 = .str (mkS tPair) := f4
    have f5 : v2 = .int i := f5
    have f6 : v3 = .int j := f6
    subst f4 f5 f6
    exact ⟨w, f1, t, f2, f3⟩
  · exact z5 p (List.mem_cons_of_mem _ z))⟩
theorem rul_of_pow {i j : Int} (h : PX X Γ e (.is (T3.mk tPow i j))) : PX X Γ e (.is (Rul.pow i j)) := ⟨fun B ρ σ H h' Q q => h.run B ρ σ H h' _ fun v H1 e1 h1 => q v H1 e1 (by
  obtain ⟨l, Hd, z1, z2, z3, z4, z5, z6⟩ := h1
  have z7 := List.pairwise_cons.mp z6
  refine ⟨l, Hd, z1, z2, z3, z4, fun p hp => ?_, List.pairwise_cons.mpr ⟨fun q _ => apart_is q, z7.2⟩⟩
  rcases List.mem_cons.mp hp with z | z
  · rw [z]
    obtain ⟨w, f1, t, v1, v2, v3, f2, f3, f4, f5, f6⟩ := z5 _ List.mem_cons_self
    have f4 : v1 = .str (mkS tPow) := f4
    have f5 : v2 = .int i := f5
    have f6 : v3 = .int j := f6
    subst f4 f5 f6
    exact ⟨w, f1, t, f2, f3⟩
  · exact z5 p (List.mem_cons_of_mem _ z))⟩
end
structure RulD where
  rs : List Rul
instance : Inhabited RulD := ⟨⟨[]⟩⟩
instance encRulD : Enc RulD where
  rep := fun K H v x => ∃ a C dx vp, v = .ref a ∧ ClsAt K "Rules" C ∧ H a = some (.ins C dx [("rules", vp)]) ∧ Enc.rep K H vp (Tup.mk x.rs)
  mono := fun e ⟨a, C, dx, vp, h1, h2, h3, h4⟩ => ⟨a, C, dx, vp, h1, h2, e _ _ h3, Enc.mono e h4⟩
instance : Ob RulD := ⟨"Rules", ["rules"], fun ⟨a, C, dx, vp, h1, h2, h3, h4⟩ => ⟨a, C, dx, _, h1, h2, h3, rfl⟩⟩
section
variable {X : Cx} {Γ : List Sl} {a : Expr} {pos : Pos} {x : RulD} {C : Addr} {fl : List Str}
theorem px_rules (KC : CKg X.K X.mg "Rules" ["rules"] C) (ha : PX X Γ a (.is x)) (hb : attributeBase a "rules" X.env (eval a X.env) = eval a X.env := by rfl) : PX X Γ (.Attribute a "rules" pos) (.is (Tup.mk x.rs)) :=
  px_attr (x := x) KC.at' KC.cl (KC.na _ List.mem_cons_self) (fun Hd v h => by obtain ⟨a, C, dx, vp, h1, h2, h3, h4⟩ := h; exact ⟨a, C, dx, _, vp, h1, h2, h3, rfl, h4⟩) ha hb
end
end DX
namespace DX
open PySem PySem.Spec PyProof.Rows L2
open DEnc (encD)
section
variable {X : Cx} {M : Type} {L : Leaf M} {Γ Γ' : List Sl} {k : List (List Stmt)} {m : M} {st : Stmt} {sts : List Stmt} {e a b c tg iter : Expr} {es : List Expr} {pos p p' p2 apos cpos tpos kpos : Pos} {s : Sl}
theorem dPhiI_nil {β : Type} [Enc β] {K : PySem.W.Frag} {Hd : Hp} {kvs : List (L2.Key × V)} (h : DRepI K Hd kvs (⟨[]⟩ : DctI β)) : kvs = [] := List.eq_nil_of_length_eq_zero (paired_len h)
/-- y = {k: v} -/
theorem sx_newDI1 {β : Type} [Enc β] {j : Int} {x0 : β} {y : Str} {mm : DctI β → M} (i : Nat) (hk : PX X Γ b (.is j)) (he : PX X Γ e (.is x0)) (hr : ∀ (ad : Addr) (x : DctI β), x = (⟨[]⟩ : DctI β).put j x0 → SX X L (Γ.set i (.gen [ad] (DPhiI X.K ad x))) (sts :: k) (mm x)) (hN : X.N.Nodup) (hi : X.N[i]? = some y := by rfl) (hx : Loc X.env.scope y := by first | exact Or.inl rfl | exact Or.inr rfl)
    (hs : swapsWith (.Dict [some b] [e] p2) (some (.Name y p')) pos.line X.env = pure false := by rfl) (hf : X.fn y = true ∨ X.env.scope.names.lookup y = some .local := by first | exact .inl rfl | exact .inr rfl) : SX X L Γ ((.Assign [.Name y p'] (.Dict [some b] [e] p2) pos :: sts) :: k) (lt ((⟨[]⟩ : DctI β).put j x0) mm) :=
  ⟨fun B ρ σ H D hb h l => wC_cons (go1 (ps_set hN hi hx (pe_disp (pps_cons peW peW pps_nil) rfl rfl (fun z => nomatch z) (by show 1 ≤ 15; decide)) hs hf) (fun a hn => by
    refine hk.run B _ σ _ (HasE.newDctI (β := β) h hn) _ fun w H1 e1 h1 => he.run B _ σ H1 h1 _ fun v H2 e2 h2 => ?_
    have ew : w = .int j := by
      have := h2.swap.topSc
      injection this
    have h3 := h2.swap.pop.swap
    obtain ⟨l3, Hd, g1, g2, g3, g4, g5, g6⟩ := id h3
    obtain ⟨w', f1, f2, f3⟩ := g5 _ List.mem_cons_self
    obtain ⟨w1, kvs, e4, e5⟩ := f3 Hd H2 (Ex.refl _) (fun b hb => (f2 b hb).2.1) (fun b hb => rfl)
    have ek := dPhiI_nil e5
    subst ek
    refine ⟨e4, [(keyI j, v)], by rw [ew]; rfl, by show 1 ≤ 15; decide, ?_⟩
    have h4 := HasE.mutDctI (kvs' := putK [] (keyI j) v) (d' := (⟨[]⟩ : DctI β).put j x0) h3 fun Hd' ed' ok own => by
      obtain ⟨v', d1, d2⟩ := ok (some v, .is x0) List.mem_cons_self
      have d1 : some v = some v' := d1
      injection d1 with d1
      subst d1
      exact drepI_put (own [] e4) d2
    exact (hr a _ rfl).run B ρ _ _ D hb (HasE.set i h4.swap.pop) l))⟩
/-- y[key] = e, y an own dict with int keys -/
theorem sx_putDI {β : Type} [Enc β] {d : DctI β} {x0 : β} {j : Int} {y : Str} {ad : Addr} {mm : DctI β → M} (i : Nat) (g : Γ[i]? = some (.gen [ad] (DPhiI X.K ad d))) (hu : X.A.units + 64 < cLine) (he : PX X Γ e (.is x0)) (hj : PX X Γ b (.is j)) (hz : d.l.length < sizeLine) (hr : ∀ x, x = d.put j x0 → SX X L (Γ.set i (.gen [ad] (DPhiI X.K ad x))) (sts :: k) (mm x))
    (hi : X.N[i]? = some y := by rfl) (hv : Vis X.env.scope y := by first | exact Or.inl rfl | exact Or.inr (Or.inl rfl) | exact Or.inr (Or.inr rfl))
    (hd : (y == ("__debug__" : Str)) = false := by decide) (hcd : (y == ("__classdict__" : Str)) = false := by decide)
    (hs : swapsWith e (some (.Subscript (.Name y p) b p2)) pos.line X.env = pure false := by rfl) : SX X L Γ ((.Assign [.Subscript (.Name y p) b p2] e pos :: sts) :: k) (lt (d.put j x0) mm) :=
  ⟨fun B ρ σ H D hb h l => wC_cons (go1 (ps_dput (by omega) (pe_var hi hv hd hcd) peW peW hs) (by
    refine he.run B ρ σ H h _ fun v H1 e1 h1 => ?_
    obtain ⟨ho, _⟩ := h1.dctIAt g
    refine ⟨.ref ad, ho, ?_⟩
    refine hj.run B _ σ H1 h1 _ fun w H2 e2 h2 => ?_
    have ew : w = .int j := by
      have := h2.topSc
      injection this
    subst ew
    obtain ⟨ho2, Hd, kvs, ed, e4, e5⟩ := h2.dctIAt g
    refine ⟨ad, _, rfl, DPut.k (k := keyI j) e4 (by rw [paired_len e5]; exact hz), ?_⟩
    have h3 := (h2.pop).takeOut g ho2
    have h4 := HasE.mutDctI (kvs' := putK kvs (keyI j) v) (d' := d.put j x0) h3 fun Hd' ed' ok own => by
      obtain ⟨v', d1, d2⟩ := ok (some v, .is x0) List.mem_cons_self
      have d1 : some v = some v' := d1
      injection d1 with d1
      subst d1
      exact drepI_put (own kvs e4) d2
    have h5 := HasE.set i h4.pop2
    rw [set_same ho2, set_set_sl] at h5
    exact (hr _ rfl).run B ρ σ _ D hb h5 l))⟩
theorem sx_shareDI {β : Type} [Enc β] {d : DctI β} {ad : Addr} (i : Nat) (g : Γ[i]? = some (.gen [ad] (DPhiI X.K ad d))) (h : SX X L (Γ.set i (.is d)) k m) : SX X L Γ k m := ⟨fun B ρ σ H D hb h' l => h.run B ρ σ H D hb (h'.shareDctIAt g) l⟩
theorem valI {β : Type} [Enc β] {K : PySem.W.Frag} {H : Hp} {j : Int} {kvs : List (L2.Key × V)} {d : DctI β} (h : DRepI K H kvs d) : (valV kvs (keyI j)).isSome = (d.get? j).isSome := by
  have g := drepI_get (k := j) (l := d.l) h
  cases q1 : valV kvs (keyI j) with
  | none =>
    cases q2 : d.get? j with
    | none => rfl
    | some x =>
      have q3 : DctI.get? ⟨d.l⟩ j = some x := q2
      rw [q1, q3] at g
      exact g.elim
  | some v =>
    cases q2 : d.get? j with
    | none =>
      have q3 : DctI.get? ⟨d.l⟩ j = none := q2
      rw [q1, q3] at g
      exact g.elim
    | some x => rfl
theorem tx_niDI {β : Type} [Enc β] {d : DctI β} {j : Int} {y : Str} {ad : Addr} (i : Nat) (g : Γ[i]? = some (.gen [ad] (DPhiI X.K ad d))) (hu : X.A.units + 64 < cLine) (ha : PX X Γ a (.is j))
    (hi : X.N[i]? = some y := by rfl) (hv : Vis X.env.scope y := by first | exact Or.inl rfl | exact Or.inr (Or.inl rfl) | exact Or.inr (Or.inr rfl))
    (hd : (y == ("__debug__" : Str)) = false := by decide) (hcd : (y == ("__classdict__" : Str)) = false := by decide) : TX X Γ (.Compare a [.NotIn] [.Name y p] pos) (!(d.get? j).isSome) :=
  ⟨fun B ρ σ H h Q q => goT (pt_cmp (pc_dnotin (by omega) peW (pe_var hi hv hd hcd))) (ha.run B ρ σ H h _ fun v H1 e1 h1 => by
    have ev : v = .int j := by
      have := h1.topSc
      injection this
    subst ev
    obtain ⟨ho, Hd, kvs, ed, e4, e5⟩ := h1.dctIAt g
    refine ⟨.ref ad, ho, ad, _, rfl, DGet.k (k := keyI j) e4, _, rfl, ?_⟩
    rw [valI e5]
    exact q H1 e1 h1.pop)⟩
theorem keys_inl {β : Type} [Enc β] {K : PySem.W.Frag} {H : Hp} : ∀ {kvs : List (L2.Key × V)} {l : List (Int × β)}, DRepI K H kvs ⟨l⟩ → kvs.map (·.1) = (l.map (·.1)).map Sum.inl
  | _, _, .nil => rfl
  | _, _, .cons r t => by
    rw [List.map_cons, List.map_cons, List.map_cons, keys_inl t, r.1]
    rfl
/-- sorted(d), the keys numbers: of any length -/
theorem cr_sortedDK (calm : X.calm = true) : CallR X (.builtin "sorted") (fun vs H Q => ∃ (a : Addr) (kvs : List (L2.Key × V)) (ks : List Int), vs = [V.ref a] ∧ H a = some (.dK kvs) ∧ kvs.map (·.1) = ks.map Sum.inl ∧ ks.length ≤ 1000 ∧
    ∀ p, H p = none → Q (.ref p) (upd H p (.lst ((sortI ks).map V.int)))) := by
  intro pins s σ H vs us Q I r h
  obtain ⟨a, kvs, ks, rfl, hd, hks, few, q⟩ := h
  rw [Vals.ref1 r]
  obtain ⟨z, lo, ws, rel, dd⟩ := dk_rd I.hok (.inl hd)
  obtain ⟨ep, hat⟩ := dd.dictAt
  have hkeys : ws.map (·.1) = ks.map Sum.inl := rel.keys.symm.trans hks
  have hl : ws.length = ks.length := by
    have := congrArg List.length hkeys
    rwa [List.length_map, List.length_map] at this
  have big : ks.length ≤ sizeLine := Nat.le_trans few (by decide)
  refine Calls.call_function_entry kind_sorted plain_sorted entry_sorted (args_sorted1 _) ?_
  unfold Builtin.«sorted»
  refine wpAny_bind (m := checkCount "sorted" 1 1 _) (wpAny_pure ?_)
  refine wpAny_bind (PySem.W.kdu_collect (A := X.A.in1) (PySem.W.kdl_dict (knd := mixKind X.prog X.w) (kvs := ws) (ep := ep) lo) (I.ok.hd calm) hat (by omega) fun h' tk acc hk hacc => ?_)
  have hal : acc.toList.length = ks.length := by rw [Array.length_toList, hacc.1, hl]
  have hS : IntsAre acc.toList ks := ints_each hal fun j v e => by
    obtain ⟨kk, x, e1, e2⟩ := hacc.2 j v (by rw [← Array.getElem?_toList]; exact e)
    have e3 : (ks.map (Sum.inl : Int → L2.Key))[j]? = some kk := by rw [← hkeys, List.getElem?_map, e1]; rfl
    rw [List.getElem?_map, Option.map_eq_some_iff] at e3
    obtain ⟨y, e4, e5⟩ := e3
    subst e5
    rcases keyIs_shape (show keyIs (Sum.inl y) v = true from e2) with ⟨i, t, ek, ev⟩ | ⟨_, _, ek, _⟩
    · injection ek with ek
      exact ⟨y, t, e4, by rw [ev, ek]⟩
    · cases ek
  have J : Inv X pins σ H { s with heap := h', toks := tk } := I.kept hk
  refine wpAny_bind (wpAny_newList ?_ (by rw [hal]; exact big))
  have hoL : (h'.push (seqObj "list" acc.toList.toArray 0)).get? h'.objs.size = some (seqObj "list" acc.toList.toArray 0) := Heap.get?_push_size _ rfl
  refine wpAny_bind (wpAny_holding (wpAny_call_entry slot_list_sort ⟨_, hoL, rfl⟩ entry_list_sort
    (SrtO.list_sort_ord SrtO.swo_int hoL (by rw [hal]; exact big) (fun h2 => SrtO.ints_sortable hS h2) fun out o1 o2 => ⟨_, rfl, ?_⟩) (args_list_sort _)))
  obtain ⟨k1, k2, k3⟩ := SrtO.ints_out hS o1 o2
  obtain ⟨c, hc⟩ := sortedHeap_at (vs := acc.toList) (out := out.toArray) hoL
  have es : out.map SrtO.iv = sortI ks := sorted_unique (k2.trans (sortI_perm ks).symm) k3 (sortI_sorted ks)
  rw [es] at k1
  have hlen : ((sortI ks).map V.int).length ≤ sizeLine := by
    rw [List.length_map, (sortI_perm ks).length_eq]
    exact big
  refine wpAny_pure ⟨_, rfl, .ref h'.objs.size, upd H h'.objs.size (.lst ((sortI ks).map V.int)), J.laid (t' := tk) (fun b u f => ?_) (Nat.le_refl _) ⟨hlen, out, c, vals_of_ints k1, hc⟩, rfl, q _ (J.hok.fresh (Nat.le_refl _))⟩
  have hb : b < h'.objs.size := Heap.lt_size f
  rw [sortedHeap_old (Nat.ne_of_lt hb) (by rw [size_push']; exact Nat.lt_succ_of_lt hb)]
  exact Heap.get?_push_of_some _ f
theorem px_sortedDI {β : Type} [Enc β] {d : DctI β} (calm : X.calm = true) (hm : X.mg "sorted" = none) (ha : PX X Γ a (.is d)) (few : d.l.length ≤ 1000) (hg : Gl X "sorted" := by rfl) (he : starEach [a] X.env = (false, eval a X.env) :: starEach [] X.env := by rfl) :
    PX X Γ (.Call (.Name "sorted" p) [a] [] pos) (.own (sortI (d.l.map (·.1)))) :=
  ⟨fun B ρ σ H h Q q => goE (pe_callB (cr_sortedDK calm) hg hm (by decide +kernel) (pa_cons peW pa_nil he) (by decide) (by decide) he rfl) (ha.run B ρ σ H h _ fun v H1 e1 h1 => by
    obtain ⟨ad, Hd, kvs, ev, ed, e4, e5⟩ := dctI_top (ρ2 := []) h1
    subst ev
    refine ⟨ad, kvs, d.l.map (·.1), rfl, e4, keys_inl e5, by rw [List.length_map]; exact few, fun t ht => ?_⟩
    exact q _ _ (e1.trans (Ex.new ht)) (HasE.newOwn (xs := sortI (d.l.map (·.1))) h1 ht fun Hd' ed ok => paired_ints _).pop2)⟩
end
end DX
namespace DX
open PySem PySem.Spec PyProof.Rows L2
open DEnc (encD)
instance : QEnc Bool where
  eqv x y := by
    cases x <;> cases y <;> (show PyData.eqv (.bool _) (.bool _) = _; simp only [PyData.eqv]; rfl)
  dep := 0
  dle _ := Nat.le_refl _
  lay _ := True
  ok _ _ := rfl
section
variable {X : Cx} {Γ : List Sl} {a b : Expr} {pos : Pos} {s : Sl}
theorem tx_cmpCD {op : CmpOp} {r : R2} {d e : PyData} (z : Bool) (ho : OpR X (compareOp op) r) (hm : behindInMarks op b = false) (hr : ∀ (x y : V) H (Q : VK), Dp X.K H x d → Dp X.K H y e → Q (.bl z) H → r x y H Q)
    (ha : PC X Γ a d) (hb : PX X Γ b (.is e)) : TX X Γ (.Compare a [op] [b] pos) z := ⟨fun B ρ σ H h Q q => goT (pt_cmpR ho peW peW hm) (ha.run B ρ σ H h _ fun v H1 e1 f1 h1 => hb.run B _ σ H1 h1 _ fun w H2 e2 h2 => by
  obtain ⟨w', g1, g2⟩ := topD h2
  injection g1 with g1
  subst g1
  exact hr _ _ _ _ (Enc.mono e2 f1) g2 ⟨z, rfl, q H2 (e1.trans e2) h2.pop⟩)⟩
theorem tx_eqQO {α : Type} [Enc α] [DEnc α] [DecidableEq α] [QEnc α] {x y : List α} (lk : Lk s x) (hu : X.A.units + 64 < cLine) (hx : @QEnc.lay (List α) encList dencList _ qencList x) (hy : @QEnc.lay (List α) encList dencList _ qencList y) (ha : PX X Γ a s) (hb : @PX X Γ b (@Sl.is (List α) encList y)) (hd : @QEnc.dep (List α) encList dencList _ qencList ≤ 64 := by decide) : TX X Γ (.Compare a [.Eq] [b] pos) (decide (x = y)) :=
  tx_cmpCD _ (op_eqD hu) (nomark _) (fun v w H Q h1 h2 q => ⟨_, _, h1, h2, shaped_q (α := List α) hx hd, shaped_q (α := List α) hy hd, by rw [QEnc.eqv]; exact q⟩) (pc_D (pc_lk lk ha)) (px_toD hb)
end
end DX
namespace DX
open PySem PySem.Spec PyProof.Rows L2
open DEnc (encD)
section
variable {X : Cx} {M : Type} {L : Leaf M} {Γ Γ' : List Sl} {k : List (List Stmt)} {m : M} {st : Stmt} {sts : List Stmt} {e a b c tg iter e1 e2 : Expr} {es : List Expr} {ss : List Sl} {pos pos1 pos2 pos3 p p' p1 p2 p3 p4 p5 p6 p7 lpos apos cpos tpos kpos : Pos} {s : Sl}
/-- one list of a list of lists, now -/
theorem HasE.llItem {β : Type} [Enc β] {K : PySem.W.Frag} {B : Hp × Hp} {H : Hp} {ρ : List Slot} {σ : L2.St} {n : Nat} {fp : List Addr} {xss : List (List β)} (h : HasE K B H ρ σ Γ) (g : Γ[n]? = some (.gen fp (LLPhi K xss fp))) {a0 : Addr} (hσ : σ[n]? = some (some (.ref a0))) : ∃ ws, H a0 = some (.lst ws) ∧ ws.length = xss.length ∧ ∀ (i : Nat) (x : List β) (v : V), xss[i]? = some x → ws[i]? = some v → HasE K B H ((some v, .bor x) :: ρ) σ Γ ∧ Enc.rep (self := @encList β _) K H v x := by
  obtain ⟨a, als, Hd, o1, o2, r2, r3, r4, r5⟩ := h.llAt g
  rw [hσ] at o1
  injection o1 with o1
  injection o1 with o1
  injection o1 with o1
  subst o1
  refine ⟨_, r4, by rw [← r5, List.length_map, List.length_map], fun i x v hx hv => ?_⟩
  rw [← r5, List.getElem?_map] at hx
  rw [List.getElem?_map] at hv
  cases q : als[i]? with
  | none => rw [q] at hx; cases hx
  | some y =>
    rw [q] at hx hv
    have hx : some y.l = some x := hx
    have hv : some (V.ref y.a) = some v := hv
    injection hx with hx
    injection hv with hv
    subst hx
    subst hv
    obtain ⟨_, _, us, u1, u2⟩ := r3 y (List.mem_of_getElem? q)
    refine ⟨?_, y.a, us, rfl, u1, PairedMono o2 u2⟩
    obtain ⟨o, ho, hm⟩ := zip_get h.len g
    rw [hσ] at ho
    injection ho with ho
    subst ho
    obtain ⟨l, Hd2, z1, z2, z3, z4, z5, z6⟩ := id h
    refine ⟨l, Hd2, z1, z2, z3, z4, fun r hr => ?_, List.pairwise_cons.mpr ⟨fun r _ => apart_bor r, z6⟩⟩
    rcases List.mem_cons.mp hr with z | z
    · rw [z]
      obtain ⟨w7, g1, g2, g3⟩ := z5 _ (List.mem_append_right _ hm)
      have g1 : some (V.ref a0) = some w7 := g1
      injection g1 with g1
      obtain ⟨a5, als5, f1, f2, f3, f4, f5⟩ := g3 Hd2 H (Ex.refl _) (fun b hb => (g2 b hb).2.1) (fun b _ => rfl)
      rw [← g1] at f1
      injection f1 with f1
      subst f1
      rw [r4] at f4
      injection f4 with f4
      injection f4 with f4
      have e2 : als5[i]? = some y := by
        rw [al_eq (l := als5) (l2 := als) (by
          have := congrArg (fun l => l.map fun v : V => match v with | .ref a => a | _ => 0) f4
          simpa [List.map_map, Function.comp_def] using this.symm) (by rw [f5, r5])]
        exact q
      obtain ⟨_, _, us5, v1, v2⟩ := f3 y (List.mem_of_getElem? e2)
      exact ⟨y.a, us5, rfl, v1, v2⟩
    · exact z5 r z
/-- [e for here in y], y a list of lists of one's own, here lent to e -/
theorem lc_runLL {α β : Type} [Enc α] [Enc β] {elt : Expr} {scope : Scope} {xs : List (List α)} {fp : List Addr} {y : Str} {tt : TT} (n j : Nat) (g : List α → β) (gn : Γ[n]? = some (.gen fp (LLPhi X.K xs fp))) (hz : xs.length ≤ 1000)
    (ht : ∀ (σ : L2.St) (H : Hp) (Q : Bool → Hp → Prop), Q true H → tt σ H Q)
    (he : ∀ (i : Nat) (x : List α), xs[i]? = some x → ∀ (s : Shared) (H : Hp) (C : Addr) (cl : List (Str × Addr)) (fp : List Addr), PX (X.blk s H scope (compEnvC scope cl C X.env) fp) ((Γ.map lend).set j (.bor x)) elt (.is (g x)))
    (hi : X.N[n]? = some y) (hv : Vis X.env.scope y) (hd : (y == ("__debug__" : Str)) = false) (hcd : (y == ("__classdict__" : Str)) = false)
    (B : Hp × Hp) (ρ : List Slot) (σ : L2.St) (H : Hp) (h : HasE X.K B H ρ σ Γ) (Q : VK) (q : ∀ v H', Ex H H' → HasE X.K B H' ((some v, .own (xs.map g)) :: ρ) σ Γ → Q v H') :
    tLc (wI X tg (.Name y p)) (gName j) tt (wEb X scope elt) [j] σ H Q := by
  have hl := h.len
  obtain ⟨a0, _, _, o1, _⟩ := h.llAt gn
  obtain ⟨ws0, w01, w02, _⟩ := h.llItem gn o1
  refine goI (pi_list (pe_var hi hv hd hcd)) ?_
  refine ⟨.ref a0, o1, a0, rfl, ⟨_, SqL.of w01⟩, fun D hD => ?_⟩
  refine ⟨fun i m H' => m = xs.length - i ∧ i ≤ xs.length ∧ Ex H H' ∧ HasE X.K B H' ([(some (V.ref D), .own ((xs.take i).map g))] ++ ρ) σ Γ, ⟨xs.length, by simp, Nat.zero_le _, Ex.new hD, ?_⟩, ?_⟩
  · exact HasE.newOwn (xs := ([] : List β)) h hD fun Hd _ _ => .nil
  · rintro i m H2 ⟨rfl, hin, ex2, k⟩
    obtain ⟨ws, w1, w2, w3⟩ := k.llItem gn o1
    by_cases hlt : i < xs.length
    · have hx : xs[i]? = some xs[i] := List.getElem?_eq_getElem hlt
      have hwl : i < ws.length := by omega
      have hw0 : ws[i]? = some ws[i] := List.getElem?_eq_getElem hwl
      refine .inr ⟨⟨ws, ws[i], SqL.of w1, hw0⟩, fun H' => Ex H H' ∧ HasE X.K B H' ([(some (V.ref D), .own ((xs.take (i + 1)).map g))] ++ ρ) σ Γ, fun H' p => ⟨xs.length - (i + 1), by omega, rfl, hlt, p.1, p.2⟩, fun x H3 y => ?_⟩
      obtain ⟨y1, y2⟩ := y
      subst y1
      have ev : ws[i]? = some x := y2 ws (SqL.of w1)
      have k3 := (w3 i _ x hx ev).1
      have hw : L2.wipe ((L2.wipe σ [j]).set j (some x)) [j] = L2.wipe σ [j] := by
        show ((σ.set j none).set j (some x)).set j none = σ.set j none
        rw [List.set_set, List.set_set]
      have hσ : (L2.wipe σ [j]).set j (some x) = σ.set j (some x) := by
        show (σ.set j none).set j (some x) = _
        rw [List.set_set]
      have tk : (xs.take (i + 1)) = xs.take i ++ [xs[i]] := by
        rw [List.take_succ, hx]
        rfl
      have k4 : HasE X.K B H3 (σ.zip Γ ++ ([(some (V.ref D), .own ((xs.take i).map g))] ++ ρ)) (σ.set j (some x)) ((Γ.map lend).set j (.bor xs[i])) := by
        have a := k3.fork
        obtain ⟨l, Hd, a1, a2, a3, a4, a5, a6⟩ := a
        refine HasE.set j ⟨l, Hd, a1, a2, a3, a4, fun p hp => a5 p ?_, ?_⟩
        · rcases List.mem_append.mp hp with z | z
          · rcases List.mem_cons.mp z with z | z
            · rw [z]; exact List.mem_append_left _ (List.mem_append_right _ List.mem_cons_self)
            · rcases List.mem_append.mp z with z | z
              · exact List.mem_append_left _ (List.mem_append_left _ z)
              · exact List.mem_append_left _ (List.mem_append_right _ (List.mem_cons_of_mem _ z))
          · exact List.mem_append_right _ z
        · have b := List.pairwise_append.mp a6
          have c := List.pairwise_append.mp b.1
          have d := List.pairwise_cons.mp c.2.1
          refine List.pairwise_append.mpr ⟨List.pairwise_cons.mpr ⟨fun r _ => apart_bor r, List.pairwise_append.mpr ⟨c.1, d.2, fun p hp q hq => c.2.2 p hp q (List.mem_cons_of_mem _ hq)⟩⟩, b.2.1, fun p hp q hq => ?_⟩
          rcases List.mem_cons.mp hp with z | z
          · rw [z]; exact apart_bor q
          · refine b.2.2 p ?_ q hq
            rcases List.mem_append.mp z with z | z
            · exact List.mem_append_left _ z
            · exact List.mem_append_right _ (List.mem_cons_of_mem _ z)
      show L2.wipe ((L2.wipe σ [j]).set j (some x)) [j] = L2.wipe σ [j] ∧ _
      refine ⟨hw, ?_⟩
      rw [hσ]
      refine ht _ _ _ ?_
      rw [if_pos rfl]
      intro s0 H0 C cl fp0
      refine (he i xs[i] hx s0 H0 C cl fp0).run B _ _ H3 k4 _ fun y' H5 e5 k6 => ?_
      have k7 : HasE X.K B H5 ((some y', .is (g xs[i])) :: ([(some (V.ref D), .own ((xs.take i).map g))] ++ ρ)) σ Γ := HasE.join1 hl k6
      have k8 := k7.swap
      obtain ⟨l, Hd, a1, a2, a3, a4, a5, a6⟩ := id k8
      obtain ⟨b, us, c1, c2, c3, c4, c5⟩ := a5 _ List.mem_cons_self
      have c1 : some (V.ref D) = some (V.ref b) := c1
      injection c1 with c1
      injection c1 with c1
      subst c1
      have us_len : us.length ≤ i := by
        rw [paired_len c5, List.length_map, List.length_take]
        omega
      refine ⟨us, c4, Nat.lt_of_le_of_lt (show us.length ≤ 1000 by omega) (by rw [sizeLine_eq]; decide), (ex2.trans e5).mut hD, ?_⟩
      rw [tk, List.map_append]
      refine (HasE.mut (xs' := (xs.take i).map g ++ [xs[i]].map g) (vs := us) k8 (fun p hp lp => ?_) fun Hd' ed ok own => ?_).pop2
      · rcases List.mem_append.mp hp with z | z
        · rcases List.mem_cons.mp z with z | z
          · rw [z] at lp; exact lp
          · exact HasE.lent h (List.mem_append_left _ z) lp hD
        · exact HasE.lent h (List.mem_append_right _ z) lp hD
      · obtain ⟨v', d1, d2⟩ := ok (some y', .is (g xs[i])) List.mem_cons_self
        have d1 : some y' = some v' := d1
        injection d1 with d1
        subst d1
        exact paired_append (own us c4) (.cons d2 .nil)
    · have e : i = xs.length := by omega
      subst e
      rw [List.take_length] at k
      exact .inl ⟨⟨ws, SqL.of w1, by omega⟩, q _ H2 ex2 k⟩
theorem px_lcLL {α β : Type} [Enc α] [Enc β] {elt : Expr} {scope : Scope} {nm y : Str} {xs : List (List α)} {fp : List Addr} (n j : Nat) (g : List α → β) (gn : Γ[n]? = some (.gen fp (LLPhi X.K xs fp))) (hz : xs.length ≤ 1000)
    (htg : ∀ (s : Shared) (H : Hp) (C : Addr) (cl : List (Str × Addr)) (fp : List Addr), PG (X.blk s H scope (compEnvC scope cl C X.env) fp) tg (gName j)) (ok : BlkOk X.N X.env.scope scope [(nm, j)]) (hN : X.N.Nodup) (hc : X.calm = true)
    (he : ∀ (i : Nat) (x : List α), xs[i]? = some x → ∀ (s : Shared) (H : Hp) (C : Addr) (cl : List (Str × Addr)) (fp : List Addr), PX (X.blk s H scope (compEnvC scope cl C X.env) fp) ((Γ.map lend).set j (.bor x)) elt (.is (g x)))
    (hi : X.N[n]? = some y := by rfl) (hv : Vis X.env.scope y := by first | exact Or.inl rfl | exact Or.inr (Or.inl rfl) | exact Or.inr (Or.inr rfl))
    (hd : (y == ("__debug__" : Str)) = false := by decide) (hcd : (y == ("__classdict__" : Str)) = false := by decide)
    (hs : ∀ x, foldedSetIterable (.Name y p) X.env x = pure x := by intro _; rfl) : PX X Γ (.ListComp elt [⟨tg, .Name y p, [], 0⟩] scope pos) (.own (xs.map g)) :=
  ⟨fun B ρ σ H h Q q => goE (pe_lc (own := [(nm, j)]) (te := wEb X scope elt) hc hN piW ok htg (fun s H C cl fp => pts_nil) (fun s H C cl fp => ⟨fun pins s' σ H' Q I h => h s H C cl fp pins s' I⟩) hs)
    (lc_runLL n j g gn hz (fun σ H Q h => h) he hi hv hd hcd B ρ σ H h Q q)⟩
/-- y[k] as data, now -/
theorem pc_ixLL {β : Type} [Enc β] {xss : List (List β)} {fp : List Addr} {y : Str} {i : Int} (n : Nat) (g : Γ[n]? = some (.gen fp (LLPhi X.K xss fp))) (hb : PX X Γ b (.is i)) (hi0 : -(xss.length : Int) ≤ i ∧ i < xss.length) (hi : X.N[n]? = some y := by rfl) (hv : Vis X.env.scope y := by first | exact Or.inl rfl | exact Or.inr (Or.inl rfl) | exact Or.inr (Or.inr rfl))
    (hd : (y == ("__debug__" : Str)) = false := by decide) (hcd : (y == ("__classdict__" : Str)) = false := by decide) (hs : PlainIx b := by exact fun _ _ => rfl) : @PC X Γ (.Subscript (.Name y p) b pos) (List β) (@encList _ _) (ix xss i) :=
  @PC.mk X Γ (.Subscript (.Name y p) b pos) (List β) (@encList _ _) (ix xss i) (fun B ρ σ H h Q q => goE (pe_ix ix_list (pe_var hi hv hd hcd) peW hs) (by
    obtain ⟨a0, _, _, o1, _⟩ := h.llAt g
    refine ⟨.ref a0, o1, hb.run B ρ σ H h _ fun w H2 e2 h2 => ?_⟩
    have ew := h2.topSc
    injection ew with ew
    subst ew
    have h3 := h2.pop
    obtain ⟨ws, w1, w2, w3⟩ := h3.llItem g o1
    have e := ix_ok hi0
    unfold atI at e
    cases qn : ixN xss.length i with
    | none => rw [qn] at e; cases e
    | some t =>
      rw [qn] at e
      have e : xss[t]? = some (ix xss i) := e
      have tl := (List.getElem?_eq_some_iff.mp e).1
      have hw0 : ws[t]? = some ws[t] := List.getElem?_eq_getElem (by omega)
      refine ⟨a0, ws, i, ws[t], rfl, rfl, SqL.of w1, ?_, q _ H2 e2 (w3 t _ _ e hw0).2 h3⟩
      unfold atI
      have qw : ixN ws.length i = some t := by rw [w2]; exact qn
      rw [qw]
      exact hw0))
/-- a list of lists that nobody reads any more -/
def OutLL (fp : List Addr) (n N : Nat) : Hp → Hp → V → Prop := fun _ H v => ∃ (a : Addr) (as : List Addr), v = .ref a ∧ a ∈ fp ∧ as.length = n ∧ H a = some (.lst (as.map .ref)) ∧ ∀ x ∈ as, x ∈ fp ∧ x ≠ a ∧ ∃ us, H x = some (.lst us) ∧ 0 ≤ us.length ∧ us.length ≤ N
theorem HasE.outLL {K : PySem.W.Frag} {B : Hp × Hp} {H : Hp} {ρ : List Slot} {σ : L2.St} {i : Nat} {fp : List Addr} {n N : Nat} (h : HasE K B H ρ σ Γ) (g : Γ[i]? = some (.gen fp (OutLL fp n N))) : ∃ (a : Addr) (as : List Addr), σ[i]? = some (some (.ref a)) ∧ a ∈ fp ∧ as.length = n ∧ H a = some (.lst (as.map .ref)) ∧ ∀ x ∈ as, x ∈ fp ∧ x ≠ a ∧ ∃ us, H x = some (.lst us) ∧ 0 ≤ us.length ∧ us.length ≤ N := by
  obtain ⟨v, Hd, h1, h2, ⟨a, as, r1, r2⟩, _⟩ := h.genAt g
  subst r1
  exact ⟨a, as, h1, r2⟩
/-- the slot's lists after one of them changed -/
theorem HasE.outMut {K : PySem.W.Frag} {B : Hp × Hp} {H : Hp} {ρ : List Slot} {σ : L2.St} {i : Nat} {fp : List Addr} {n N N' : Nat} {o : Option V} {s0 : Sl} {x : Addr} {us : List V} {a : Addr} {as : List Addr}
    (h : HasE K B H ((o, s0) :: ρ) σ Γ) (g : Γ[i]? = some (.gen fp (OutLL fp n N))) (hσ : σ[i]? = some (some (.ref a))) (r : a ∈ fp ∧ as.length = n ∧ H a = some (.lst (as.map .ref)) ∧ ∀ x ∈ as, x ∈ fp ∧ x ≠ a ∧ ∃ us, H x = some (.lst us) ∧ 0 ≤ us.length ∧ us.length ≤ N) (hx : x ∈ as)
    (hu : 0 ≤ us.length ∧ us.length ≤ N') (hN : N ≤ N') (hs0 : noBor (o, s0)) (hb : ∀ p ∈ ρ, noBor p) (hbo : Γ.any bors = false) :
    HasE K B (upd H x (.lst us)) ρ σ (Γ.set i (.gen fp (OutLL fp n N'))) := by
  obtain ⟨r1, r2, r3, r4⟩ := r
  have hx1 := (r4 x hx).1
  have hx2 := (r4 x hx).2.1
  have h2 := h.takeOut g hσ
  have h3 := HasE.mutGenL (b := x) (u := .lst us) (Φ' := OutLL fp n N') h2 hx1 (fun q hq lq => by
    rcases List.mem_append.mp hq with z | z
    · rcases List.mem_cons.mp z with z | z
      · rw [z] at lq
        cases s0 with
        | bor ys => exact hs0
        | _ => exact lq
      · exact no_lends (σ := σ) (Γ := Γ) hb hbo q (List.mem_append_left _ z) lq
    · exact no_lends (σ := σ) (Γ := Γ.set i .no) hb (bors_set hbo) q (List.mem_append_right _ z) lq) (fun Hd9 v9 f1 f2 f3 f4 Hd' H9 f5 f6 => by
    obtain ⟨a5, as5, g1, g2, g3, g4, g5⟩ := f4
    injection f2 with f2
    rw [g1] at f2
    injection f2 with f2
    subst f2
    rw [r3] at g4
    injection g4 with g4
    injection g4 with g4
    have e5 : as5 = as := by
      have := congrArg (fun l => l.map fun v : V => match v with | .ref a => a | _ => 0) g4
      simpa [List.map_map, Function.comp_def] using this.symm
    subst e5
    refine ⟨_, as5, g1, g2, g3, by rw [f6 _ g2, upd_ne hx2.symm]; exact r3, fun z hz => ⟨(g5 z hz).1, (g5 z hz).2.1, ?_⟩⟩
    by_cases c : z = x
    · exact ⟨us, by rw [f6 _ (g5 z hz).1, c, upd_same], hu⟩
    · obtain ⟨us4, u4, u5, u6⟩ := (g5 z hz).2.2
      exact ⟨us4, by rw [f6 _ (g5 z hz).1, upd_ne c]; exact u4, u5, by omega⟩)
  have h4 := HasE.set i h3.swap.pop
  rw [set_same hσ, set_set_sl] at h4
  exact h4
/-- row = y[k]; row.append(e1); row[k2] = e2 -/
theorem sx_rowTurn {s1 : Sl} {fp : List Addr} {n N : Nat} {kk : Int} {y w : Str} {α1 : Type} [Enc α1] {x2 : α1} (i j : Nat) (hij : i ≠ j) (g : Γ[i]? = some (.gen fp (OutLL fp n N))) (hN : N ≤ 100000) (hb : PX X Γ b (.is kk)) (hk : 0 ≤ kk ∧ kk < n)
    (he1 : PX X (Γ.set j .no) e1 s1) (hc0 : PX X ((Γ.set j .no).set i (.gen fp (OutLL fp n (N + 1)))) c (.is (0 : Int))) (he2 : PX X ((Γ.set j .no).set i (.gen fp (OutLL fp n (N + 1)))) e2 (.is x2))
    (hr : SX X L ((Γ.set j .no).set i (.gen fp (OutLL fp n (N + 1)))) (sts :: k) m) (hbo : Γ.any bors = false) (hs1 : ∀ o, noBor (o, s1))
    (hNd : X.N.Nodup) (hi : X.N[i]? = some y) (hv : Vis X.env.scope y) (hd : (y == ("__debug__" : Str)) = false) (hcd : (y == ("__classdict__" : Str)) = false)
    (hjN : X.N[j]? = some w) (hjl : j < Γ.length) (hlw : Loc X.env.scope w) (hvw : Vis X.env.scope w) (hdw : (w == ("__debug__" : Str)) = false) (hcdw : (w == ("__classdict__" : Str)) = false)
    (hs0 : swapsWith (.Subscript (.Name y p) b p1) (some (.Name w p2)) pos1.line X.env = pure false) (hf0 : X.fn w = true ∨ X.env.scope.names.lookup w = some .local) (hpb : PlainIx b)
    (hbase : attributeBase (.Name w p3) "append" X.env (eval (.Name w p3) X.env) = eval (.Name w p3) X.env)
    (hfew : ((backTo cpos (starEach [e1] X.env)).all (fun x => !x.1) && (backToKw cpos (keywordEach [] X.env)).all (fun x => x.1.isSome)
      && decide (([e1] : List Expr).length + ([] : List Keyword).length + (if ([] : List Keyword).isEmpty then 0 else 1) < 30)) = true)
    (hline : (apos.endLine == cpos.line) = true) (hs : starEach [e1] X.env = (false, eval e1 X.env) :: starEach [] X.env) (hplain : (backTo cpos (starEach [] X.env)).any (·.1) = false)
    (hsw : swapsWith (.Call (.Attribute (.Name w p3) "append" apos) [e1] [] cpos) none pos2.line X.env = pure false)
    (hsub : PG X (.Subscript (.Name w p4) c p5) (gSub (tVar j) (wE X c) rSetL)) (hs2 : swapsWithSole [.Subscript (.Name w p4) c p5] e2 pos3.line X.env = pure false) (hw2 : swappedStores [.Subscript (.Name w p4) c p5] e2 X.env = pure none)
    (h12 : (assignEach [.Subscript (.Name w p4) c p5] X.env).map (·.2) = [assign (.Subscript (.Name w p4) c p5) X.env]) :
    SX X L Γ ((.Assign [.Name w p2] (.Subscript (.Name y p) b p1) pos1 :: .Expr (.Call (.Attribute (.Name w p3) "append" apos) [e1] [] cpos) pos2 :: .Assign [.Subscript (.Name w p4) c p5] e2 pos3 :: sts) :: k) m := by
  refine ⟨fun B ρ σ H D hbn h l => wC_cons (go1 (ps_set hNd hjN hlw peW hs0 hf0) (goE (pe_ix ix_list (pe_var hi hv hd hcd) peW hpb) ?_))⟩
  obtain ⟨a0, as, o1, r1, r2, r3, r4⟩ := h.outLL g
  refine ⟨.ref a0, o1, hb.run B ρ σ H h _ fun w9 H2 e2 h2 => ?_⟩
  have ew := h2.topSc
  injection ew with ew
  subst ew
  have h3 := h2.pop
  obtain ⟨a1, as1, o1', r1, r2, r3, r4⟩ := h3.outLL g
  rw [o1] at o1'
  injection o1' with o1'
  injection o1' with o1'
  injection o1' with o1'
  subst o1'
  have hkl : kk.toNat < as1.length := by omega
  have hx0 : as1[kk.toNat]? = some as1[kk.toNat] := List.getElem?_eq_getElem hkl
  generalize hxe : as1[kk.toNat] = x at hx0
  have hxm : x ∈ as1 := List.mem_of_getElem? hx0
  refine ⟨a0, _, kk, .ref x, rfl, rfl, SqL.of r3, ?_, ?_⟩
  · unfold atI
    have q : ixN (as1.map V.ref).length kk = some kk.toNat := ixN_nn hk.1 (by rw [List.length_map]; omega)
    rw [q]
    show (as1.map V.ref)[kk.toNat]? = _
    rw [List.getElem?_map, hx0]
    rfl
  have lσ := h3.len
  have hjσ : j < σ.length := by rw [lσ]; exact hjl
  have h4 : HasE X.K B H2 ρ (σ.set j (some (.ref x))) (Γ.set j .no) := h3.clear j (some (.ref x))
  have g4 : (Γ.set j .no)[i]? = some (.gen fp (OutLL fp n N)) := by rw [List.getElem?_set_ne (fun z => hij z.symm)]; exact g
  have o4 : (σ.set j (some (V.ref x)))[i]? = some (some (.ref a0)) := by rw [List.getElem?_set_ne (fun z => hij z.symm)]; exact o1
  have j4 : (σ.set j (some (V.ref x)))[j]? = some (some (.ref x)) := List.getElem?_set_self hjσ
  obtain ⟨us, u1, u2, u3⟩ := (r4 x hxm).2.2
  refine wC_cons (go1 (ps_expr (pe_bm PySem.F.plainAttrs_list PySem.F.slot_list_append PySem.F.type_list_append mt_append (pe_var hjN hvw hdw hcdw) (pa_cons peW pa_nil hs) hbase hfew hline hs hplain) hsw) ?_)
  refine ⟨.ref x, j4, .inl ⟨rfl, us, SqL.of u1⟩, ?_⟩
  refine he1.run B ρ _ H2 h4 _ fun v5 H5 e5 h5 => ?_
  have ux := e5 _ _ u1
  refine ⟨x, us, v5, rfl, rfl, ux, Nat.lt_of_le_of_lt (show us.length ≤ 100000 by omega) (by rw [sizeLine_eq]; decide), ?_⟩
  have m5 : ∀ z ∈ as1, z ∈ fp ∧ z ≠ a0 ∧ ∃ us, H5 z = some (.lst us) ∧ 0 ≤ us.length ∧ us.length ≤ N := fun z hz => by
    obtain ⟨z1, z2, us6, z3, z4⟩ := r4 z hz
    exact ⟨z1, z2, us6, e5 _ _ z3, z4⟩
  have h6 := HasE.outMut (us := us ++ [v5]) (N' := N + 1) h5 g4 o4 ⟨r1, r2, e5 _ _ r3, m5⟩ hxm ⟨by rw [List.length_append]; omega, by rw [List.length_append, List.length_singleton]; omega⟩ (Nat.le_succ _) (hs1 _) hbn (bors_set hbo)
  refine wC_cons (go1 (ps_asg peW hsub hs2 hw2 h12) ?_)
  refine he2.run B ρ _ _ h6 _ fun v7 H7 e7 h7 => ?_
  refine ⟨.ref x, j4, ?_⟩
  refine hc0.run B _ _ H7 h7 _ fun w8 H8 e8 h8 => ?_
  have ew := h8.topSc
  injection ew with ew
  subst ew
  have u8 : H8 x = some (.lst (us ++ [v5])) := e8 _ _ (e7 _ _ upd_same)
  refine ⟨x, us ++ [v5], 0, 0, rfl, rfl, u8, ixN_nn (Int.le_refl 0) (by rw [List.length_append, List.length_singleton]; omega), ?_⟩
  have g9 : ((Γ.set j .no).set i (.gen fp (OutLL fp n (N + 1))))[i]? = some (.gen fp (OutLL fp n (N + 1))) := List.getElem?_set_self (by rw [List.length_set]; exact (List.getElem?_eq_some_iff.mp g).1)
  obtain ⟨a9, as9, q1, q2, q3, q4, q5⟩ := h8.outLL g9
  rw [o4] at q1
  injection q1 with q1
  injection q1 with q1
  injection q1 with q1
  subst q1
  have a8 : H8 a0 = some (.lst (as1.map .ref)) := e8 _ _ (e7 _ _ (by rw [upd_ne (r4 x hxm).2.1.symm]; exact e5 _ _ r3))
  rw [a8] at q4
  injection q4 with q4
  injection q4 with q4
  have e9 : as9 = as1 := by
    have := congrArg (fun l => l.map fun v : V => match v with | .ref a => a | _ => 0) q4
    simpa [List.map_map, Function.comp_def] using this.symm
  subst e9
  have h10 := HasE.outMut (us := (us ++ [v5]).set 0 v7) (N' := N + 1) h8.pop g9 o4 ⟨q2, q3, a8, q5⟩ hxm ⟨by rw [List.length_set, List.length_append]; omega, by rw [List.length_set, List.length_append, List.length_singleton]; omega⟩ (Nat.le_refl _) (by trivial) hbn (by rw [List.any_eq_false]; intro s hs; rcases List.mem_or_eq_of_mem_set hs with z | z; exact List.any_eq_false.mp (bors_set hbo) s z; rw [z]; exact Bool.false_ne_true)
  rw [set_set_sl] at h10
  exact hr.run B ρ _ _ D hbn h10 l
/-- a list of lists is let go -/
theorem sx_weakLL {β : Type} [Enc β] {xss : List (List β)} {fp : List Addr} {N : Nat} {st : List (List Stmt)} (i : Nat) (g : Γ[i]? = some (.gen fp (LLPhi X.K xss fp))) (hz : ∀ l ∈ xss, 0 ≤ l.length ∧ l.length ≤ N) (hr : SX X L (Γ.set i (.gen fp (OutLL fp xss.length N))) st m) : SX X L Γ st m :=
  ⟨fun B ρ σ H D hb h l => by
    obtain ⟨a0, _, _, o1, _⟩ := h.llAt g
    refine hr.run B ρ σ H D hb ?_ l
    have h1 := h.takeOut g o1
    have h2 : HasE X.K B H ((some (.ref a0), .gen fp (OutLL fp xss.length N)) :: ρ) σ (Γ.set i .no) := by
      obtain ⟨l7, Hd7, z1, z2, z3, z4, z5, z6⟩ := id h1
      refine ⟨l7, Hd7, z1, z2, z3, z4, fun q hq => ?_, List.pairwise_cons.mpr ⟨fun q hq => (List.pairwise_cons.mp z6).1 q hq, (List.pairwise_cons.mp z6).2⟩⟩
      rcases List.mem_cons.mp hq with z | z
      · rw [z]
        obtain ⟨w7, g1, g2, g3⟩ := z5 _ List.mem_cons_self
        refine ⟨w7, g1, g2, fun Hd' H' f1 f2 f3 => ?_⟩
        obtain ⟨a, als, q1, q2, q3, q4, q5⟩ := g3 Hd' H' f1 f2 f3
        refine ⟨a, als.map fun x => x.a, q1, q2, by rw [← q5, List.length_map, List.length_map], by rw [List.map_map]; exact q4, fun x hx => ?_⟩
        obtain ⟨y, hy, ey⟩ := List.mem_map.mp hx
        obtain ⟨y1, y2, us, y3, y4⟩ := q3 y hy
        have b := hz y.l (by rw [← q5]; exact List.mem_map.mpr ⟨y, hy, rfl⟩)
        rw [← ey]
        exact ⟨y1, y2, us, y3, by rw [paired_len y4]; exact b⟩
      · exact z5 q (List.mem_cons_of_mem _ z)
    have h3 := HasE.set i h2
    rw [set_same o1, set_set_sl] at h3
    exact h3⟩
/-- a for whose turns are counted -/
theorem sx_forC {α : Type} [Enc α] {xs : List α} {P : Prop} {body : List Stmt} (j : Nat) (Γf : Nat → List Sl) (hi : IX X Γ tg iter xs P) (hg : PG X tg (gName j)) (hst : Wk Γ (Γf 0))
    (hbd : ∀ (i : Nat) (x : α), xs[i]? = some x → SX X (LNx X.K Γf) ((Γf i).set j (.is x)) [body] (i + 1)) (hrest : SX X L (Γf xs.length) (sts :: k) m)
    (hc : X.calm = true := by rfl) (hp : PassesOwn (model X.prog X.w) X.A X.env X.xe := by first | exact PassesOwn.never | exact PassesOwn.leaving) (hs : ∀ x, foldedSetIterable iter X.env x = pure x := by intro _; rfl) : SX X L Γ ((.For tg iter body [] pos :: sts) :: k) m :=
  sx_forF (mm := fun _ => m) j Γf (fun s _ => s + 1) 0 (fun i s => s = i) hi hg hst rfl (fun i s x hx e => by subst e; exact hbd _ x hx) (fun i s x hx e => by rw [e]) (fun s h e => by rw [e]; exact hrest) hc hp hs
end
end DX
namespace DX
open PySem PySem.Spec PyProof.Rows L2
open DEnc (encD)
def topS (i : Nat) : Stmt := PySem.Challenge.pw_pressroots_k18_rules_form.main.body.getD i (.Pass ⟨0, 0, 0, 0⟩)
/-- the built-in names that the text uses stand as they were -/
structure Bt (mg : Str → Option Value) : Prop where
  ValueError_ : mg "ValueError" = none
  abs_ : mg "abs" = none
  any_ : mg "any" = none
  bool_ : mg "bool" = none
  enumerate_ : mg "enumerate" = none
  int_ : mg "int" = none
  isinstance_ : mg "isinstance" = none
  iter_ : mg "iter" = none
  len_ : mg "len" = none
  list_ : mg "list" = none
  max_ : mg "max" = none
  min_ : mg "min" = none
  range_ : mg "range" = none
  sorted_ : mg "sorted" = none
  str_ : mg "str" = none
  sum_ : mg "sum" = none
  tuple_ : mg "tuple" = none
theorem if_ind {α : Type} {P : α → Prop} {b : Bool} {x y : α} (h1 : b = true → P x) (h2 : b = false → P y) : P (if b = true then x else y) := by
  cases b with
  | true => exact h1 rfl
  | false => exact h2 rfl
theorem foldl_ix {S α : Type} (I : Nat → S → Prop) (step : S → α → S) (s0 : S) (xs : List α) (h0 : I 0 s0) (h : ∀ (i : Nat) (s : S) (x : α), xs[i]? = some x → I i s → I (i + 1) (step s x)) : I xs.length (xs.foldl step s0) := by
  have key : ∀ (n : Nat), n ≤ xs.length → I n ((xs.take n).foldl step s0) := by
    intro n
    induction n with
    | zero => intro _; exact h0
    | succ n ih =>
      intro hn
      have hx : xs[n]? = some xs[n] := List.getElem?_eq_getElem (by omega)
      rw [List.take_succ, hx, List.foldl_append]
      exact h n _ _ hx (ih (by omega))
  have := key xs.length (Nat.le_refl _)
  rw [List.take_length] at this
  exact this
theorem emod_bd (a : Int) {m : Int} (h : 0 < m) : 0 ≤ a % m ∧ a % m < m := ⟨Int.emod_nonneg a (by omega), Int.emod_lt_of_pos a h⟩
theorem sl_to_le {α : Type} (xs : List α) {i : Int} (h : 0 ≤ i) : (sl xs none (some i)).length ≤ i.toNat := by
  rw [sl_to h, List.length_take]
  omega
def DrawsPre (sizes : List Int) : Prop := sizes.length ≤ 10000 ∧ ∀ s ∈ sizes, 0 < s ∧ s < 2 ^ 200
theorem draws_ix {sizes : List Int} (h : DrawsPre sizes) {k : Int} (h0 : 0 ≤ k) (h1 : k < sizes.length) : 0 < ix sizes k ∧ ix sizes k < 2 ^ 200 := h.2 _ (List.mem_of_getElem? (ix_nn h0 h1))
def m__law_cell (a_script : Scr) (a_k : Int) : Int :=
  (if (decide (a_k < (a_script.l.length : Int))) = true then (ix a_script.l a_k) else 
  (0 : Int))
abbrev s__law_cell : Stmt := topS 55
abbrev N__law_cell : List Str := ["script", "k"]
theorem sc__law_cell : FnScope N__law_cell ["script", "k"] (defScope s__law_cell) := ⟨rfl, rfl, rfl, by decide +kernel, rfl, by decide +kernel, by decide +kernel⟩
abbrev Ok__law_cell (P : Program) (w : World) (K : PySem.W.Frag) (mg : Str → Option Value) (base : Heap) : Prop :=
  DefOk P w K mg base 1 "_law_cell" 2 (spD (ι := Scr × Int) K (fun i => 0 ≤ i.2) (fun i => [.is i.1, .is i.2]) (fun i => .is (m__law_cell i.1 i.2)))
theorem ok__law_cell {P : Program} {w : World} {K : PySem.W.Frag} {mg : Str → Option Value} {base : Heap} {f : Addr} {fd : FuncData} (F : Fun K "_law_cell" "_law_cell" s__law_cell f fd) (hm : mg "_law_cell" = some (.ref f)) (bd : Binds K fd ["script", "k"] []) (T : Bt mg)  : Ok__law_cell P w K mg base := by
  refine defOk (kk := 0) (R := Int) F hm sc__law_cell bd _ _ (fun r => .is r) _ (fun _ => rfl) (fun i hp cdv A outer s H E hr => ?_)
  obtain ⟨a_script, a_k⟩ := i
  have hp : 0 ≤ a_k := hp
  show SX _ _ [.is a_script, .is a_k] _ (m__law_cell a_script a_k)
  unfold m__law_cell
  refine sx_if (tx_lt (px_var 1 rfl) (px_lenScr T.len_ (px_var 0 rfl))) (fun hc1 => ?_) (fun hc1 => ?_)
  · try simp only [Bool.and_eq_true, Bool.or_eq_true, Bool.not_eq_true', Bool.and_eq_false_iff, Bool.or_eq_false_iff, Bool.not_eq_false', decide_eq_true_eq, decide_eq_false_iff_not, Classical.not_not] at hc1
    exact sx_retI (mr := (fun r => r)) (rets_ret) rfl (px_ixScr (px_var 0 rfl) (px_var 1 rfl) (by first | (constructor <;> omega) | (have tc_ := tc (by first | assumption | exact Bool.eq_false_iff.mpr (by assumption)); constructor <;> omega) | (have tp_ := tp (by assumption); constructor <;> omega) | (simp only [Bool.and_eq_true, Bool.or_eq_true, Bool.not_eq_true', Bool.and_eq_false_iff, Bool.or_eq_false_iff, Bool.not_eq_false', decide_eq_true_eq, decide_eq_false_iff_not, Classical.not_not] at *; constructor <;> omega) | (simp only [Bool.and_eq_true, Bool.or_eq_true, Bool.not_eq_true', Bool.and_eq_false_iff, Bool.or_eq_false_iff, Bool.not_eq_false', decide_eq_true_eq, decide_eq_false_iff_not, Classical.not_not, lt, List.length_cons, List.length_nil, List.length_append, List.length_map, List.length_reverse, List.length_set, rangeI_length] at *; constructor <;> omega)))
  · try simp only [Bool.and_eq_true, Bool.or_eq_true, Bool.not_eq_true', Bool.and_eq_false_iff, Bool.or_eq_false_iff, Bool.not_eq_false', decide_eq_true_eq, decide_eq_false_iff_not, Classical.not_not] at hc1
    refine sx_nil ?_
    exact sx_retI (mr := (fun r => r)) (rets_ret) rfl px_int
def m__law_draws (a_cell : Int) (a_sizes : (List Int)) : (List Int) :=
  lt (if a_cell < 0 then -a_cell else a_cell : Int) fun (v1_number : Int) => 
  lt v1_number fun (v2_rest : Int) => 
  lt (if (decide (v1_number < (1000000000000000000 : Int))) = true then lt (0 : Int) fun (v5_rest : Int) => 
    v5_rest else v2_rest : Int) fun (s4 : Int) => 
  lt ([] : List Int) fun (v6_draws : (List Int)) => 
  lt (List.foldl (fun (s7 : (List Int) × Int) (x7_k : Int) => lt (if (decide (s7.2 > (0 : Int))) = true then lt (s7.1 ++ [(s7.2 % (ix a_sizes x7_k))]) fun (v11_draws : (List Int)) => 
      lt (s7.2 / (ix a_sizes x7_k)) fun (v12_rest : Int) => 
      (v11_draws, v12_rest) else lt (((v1_number * (48271 : Int)) + ((69621 : Int) * (x7_k + (1 : Int)))) % (2147483647 : Int)) fun (v13_seed : Int) => 
      lt (((v13_seed * v13_seed) + ((40692 : Int) * (x7_k + (3 : Int)))) % (2147483399 : Int)) fun (v14_seed : Int) => 
      lt (((v14_seed * v14_seed) + (16807 : Int)) % (2147483563 : Int)) fun (v15_seed : Int) => 
      lt (s7.1 ++ [((v15_seed / (11 : Int)) % (ix a_sizes x7_k))]) fun (v16_draws : (List Int)) => 
      (v16_draws, s7.2) : (List Int) × Int) fun (s10 : (List Int) × Int) => 
    (s10.1, s10.2)) ((v6_draws, s4) : (List Int) × Int) (rangeI 0 ((a_sizes.length : Int)).toNat)) fun (s8 : (List Int) × Int) => 
  s8.1
abbrev s__law_draws : Stmt := topS 56
abbrev N__law_draws : List Str := ["cell", "sizes", "number", "rest", "draws", "k", "seed"]
theorem sc__law_draws : FnScope N__law_draws ["cell", "sizes"] (defScope s__law_draws) := ⟨rfl, rfl, rfl, by decide +kernel, rfl, by decide +kernel, by decide +kernel⟩
abbrev Ok__law_draws (P : Program) (w : World) (K : PySem.W.Frag) (mg : Str → Option Value) (base : Heap) : Prop :=
  DefOk P w K mg base 1 "_law_draws" 2 (spD (ι := Int × (List Int)) K (fun i => DrawsPre i.2) (fun i => [.is i.1, .arg i.2]) (fun i => .own (m__law_draws i.1 i.2)))
theorem ok__law_draws {P : Program} {w : World} {K : PySem.W.Frag} {mg : Str → Option Value} {base : Heap} {f : Addr} {fd : FuncData} (F : Fun K "_law_draws" "_law_draws" s__law_draws f fd) (hm : mg "_law_draws" = some (.ref f)) (bd : Binds K fd ["cell", "sizes"] []) (T : Bt mg)  : Ok__law_draws P w K mg base := by
  refine defOk (kk := 0) (R := (List Int)) F hm sc__law_draws bd _ _ (fun r => .own r) _ (fun _ => rfl) (fun i hp cdv A outer s H E hr => ?_)
  obtain ⟨a_cell, a_sizes⟩ := i
  have hp : DrawsPre a_sizes := hp
  show SX _ _ [.is a_cell, .arg a_sizes, .no, .no, .no, .no, .no] _ (m__law_draws a_cell a_sizes)
  unfold m__law_draws
  refine sx_set 2 (px_abs T.abs_ (px_var 0 rfl)) (fun v1_number h1 => ?_) sc__law_draws.nd
  refine sx_set 3 (px_var 2 rfl) (fun v2_rest h2 => ?_) sc__law_draws.nd
  refine sx_ifj (fun (s4 : Int) => [.is a_cell, .arg a_sizes, .is v1_number, .is s4, .no, .no, .no]) (tx_lt (px_var 2 rfl) (px_powC (z := 1000000000000000000) px_int px_int (by exact ⟨by decide, by decide, by decide⟩) (by decide +kernel))) (fun hc4 => ?_) (fun hc4 => ?_) (fun s4 h4 => ?_)
  · try simp only [Bool.and_eq_true, Bool.or_eq_true, Bool.not_eq_true', Bool.and_eq_false_iff, Bool.or_eq_false_iff, Bool.not_eq_false', decide_eq_true_eq, decide_eq_false_iff_not, Classical.not_not] at hc4
    refine sx_set 3 px_int (fun v5_rest h5 => ?_) sc__law_draws.nd
    exact sx_nil (sx_endN (.same (.same (.same (.same (.same (.same (.same .nil))))))))
  · try simp only [Bool.and_eq_true, Bool.or_eq_true, Bool.not_eq_true', Bool.and_eq_false_iff, Bool.or_eq_false_iff, Bool.not_eq_false', decide_eq_true_eq, decide_eq_false_iff_not, Classical.not_not] at hc4
    exact sx_nil (sx_endN (.same (.same (.same (.same (.same (.same (.same .nil))))))))
  refine sx_setO 4 (px_list ([] : List Int) ax_nil) (fun v6_draws h6 => ?_) sc__law_draws.nd
  refine sx_forF 5 (fun (s7 : (List Int) × Int) => [.is a_cell, .arg a_sizes, .is v1_number, .is s7.2, .own s7.1, .no, .no]) _ ((v6_draws, s4) : (List Int) × Int) (fun i s => (s.1 : List Int).length = i) (it_range1 T.range_ (px_len (.bor _) T.len_ (px_varO 1 (.arg _) rfl)) (by have := hp.1; constructor <;> omega)) (pg_name (i := 5) sc__law_draws.nd rfl (by first | exact Or.inl rfl | exact Or.inr rfl)) (.same (.same (.same (.same (.same (.same (.same .nil))))))) (by rw [h6]; rfl) (fun i7 s7 x7_k hx7 hI7 => ?_) (fun i7 s7 x7_k hx7 hI7 => ?_) (fun s8 h8 hI8 => ?_)
  · have hr7 := rangeI_get hx7
    have hd := draws_ix hp (k := x7_k) (by omega) (by omega)
    have hl := hp.1
    refine sx_ifj (fun (s10 : (List Int) × Int) => [.is a_cell, .arg a_sizes, .is v1_number, .is s10.2, .own s10.1, .is x7_k, .no]) (tx_gt (px_var 3 rfl) px_int) (fun hc10 => ?_) (fun hc10 => ?_) (fun s10 h10 => ?_)
    · try simp only [Bool.and_eq_true, Bool.or_eq_true, Bool.not_eq_true', Bool.and_eq_false_iff, Bool.or_eq_false_iff, Bool.not_eq_false', decide_eq_true_eq, decide_eq_false_iff_not, Classical.not_not] at hc10
      refine sx_app 4 rfl (px_mod (px_int1 T.int_ (px_var 3 rfl)) (px_ixL (.bor _) (px_varO 1 (.arg _) rfl) (px_var 5 rfl) (by first | (constructor <;> omega) | (have tc_ := tc (by first | assumption | exact Bool.eq_false_iff.mpr (by assumption)); constructor <;> omega) | (have tp_ := tp (by assumption); constructor <;> omega) | (simp only [Bool.and_eq_true, Bool.or_eq_true, Bool.not_eq_true', Bool.and_eq_false_iff, Bool.or_eq_false_iff, Bool.not_eq_false', decide_eq_true_eq, decide_eq_false_iff_not, Classical.not_not] at *; constructor <;> omega) | (simp only [Bool.and_eq_true, Bool.or_eq_true, Bool.not_eq_true', Bool.and_eq_false_iff, Bool.or_eq_false_iff, Bool.not_eq_false', decide_eq_true_eq, decide_eq_false_iff_not, Classical.not_not, lt, List.length_cons, List.length_nil, List.length_append, List.length_map, List.length_reverse, List.length_set, rangeI_length] at *; constructor <;> omega))) (by omega)) (by exact Nat.lt_of_le_of_lt (show _ ≤ 100000 by first | omega | (have tc_ := tc (by first | assumption | exact Bool.eq_false_iff.mpr (by assumption)); omega) | (have tp_ := tp (by assumption); omega) | (simp only [Bool.and_eq_true, Bool.or_eq_true, Bool.not_eq_true', Bool.and_eq_false_iff, Bool.or_eq_false_iff, Bool.not_eq_false', decide_eq_true_eq, decide_eq_false_iff_not, Classical.not_not] at *; omega) | (simp only [Bool.and_eq_true, Bool.or_eq_true, Bool.not_eq_true', Bool.and_eq_false_iff, Bool.or_eq_false_iff, Bool.not_eq_false', decide_eq_true_eq, decide_eq_false_iff_not, Classical.not_not, lt, List.length_cons, List.length_nil, List.length_append, List.length_map, List.length_reverse, List.length_set, rangeI_length] at *; omega)) (by decide)) (fun v11_draws h11 => ?_)
      refine sx_set 3 (px_div (px_var 3 rfl) (px_ixL (.bor _) (px_varO 1 (.arg _) rfl) (px_var 5 rfl) (by first | (constructor <;> omega) | (have tc_ := tc (by first | assumption | exact Bool.eq_false_iff.mpr (by assumption)); constructor <;> omega) | (have tp_ := tp (by assumption); constructor <;> omega) | (simp only [Bool.and_eq_true, Bool.or_eq_true, Bool.not_eq_true', Bool.and_eq_false_iff, Bool.or_eq_false_iff, Bool.not_eq_false', decide_eq_true_eq, decide_eq_false_iff_not, Classical.not_not] at *; constructor <;> omega) | (simp only [Bool.and_eq_true, Bool.or_eq_true, Bool.not_eq_true', Bool.and_eq_false_iff, Bool.or_eq_false_iff, Bool.not_eq_false', decide_eq_true_eq, decide_eq_false_iff_not, Classical.not_not, lt, List.length_cons, List.length_nil, List.length_append, List.length_map, List.length_reverse, List.length_set, rangeI_length] at *; constructor <;> omega))) (by exact wide_div (b := 200) (by omega) (by omega) (by decide) (by decide))) (fun v12_rest h12 => ?_) sc__law_draws.nd
      exact sx_nil (sx_endN (.same (.same (.same (.same (.same (.same (.same .nil))))))))
    · try simp only [Bool.and_eq_true, Bool.or_eq_true, Bool.not_eq_true', Bool.and_eq_false_iff, Bool.or_eq_false_iff, Bool.not_eq_false', decide_eq_true_eq, decide_eq_false_iff_not, Classical.not_not] at hc10
      refine sx_set 6 (px_mod (px_int1 T.int_ (px_add (px_mul (px_var 2 rfl) px_int (by first | exact .inl ⟨by omega, by omega⟩ | exact .inr ⟨by omega, by omega⟩)) (px_mul px_int (px_add (px_var 5 rfl) px_int) (by first | exact .inl ⟨by omega, by omega⟩ | exact .inr ⟨by omega, by omega⟩)))) px_int (by first | omega | (have tc_ := tc (by first | assumption | exact Bool.eq_false_iff.mpr (by assumption)); omega) | (have tp_ := tp (by assumption); omega) | (simp only [Bool.and_eq_true, Bool.or_eq_true, Bool.not_eq_true', Bool.and_eq_false_iff, Bool.or_eq_false_iff, Bool.not_eq_false', decide_eq_true_eq, decide_eq_false_iff_not, Classical.not_not] at *; omega) | (simp only [Bool.and_eq_true, Bool.or_eq_true, Bool.not_eq_true', Bool.and_eq_false_iff, Bool.or_eq_false_iff, Bool.not_eq_false', decide_eq_true_eq, decide_eq_false_iff_not, Classical.not_not, lt, List.length_cons, List.length_nil, List.length_append, List.length_map, List.length_reverse, List.length_set, rangeI_length] at *; omega))) (fun v13_seed h13 => ?_) sc__law_draws.nd
      refine sx_set 6 (px_mod (px_int1 T.int_ (px_add (px_mul (px_var 6 rfl) (px_var 6 rfl) (by first | exact .inl ⟨by omega, by omega⟩ | exact .inr ⟨by omega, by omega⟩)) (px_mul px_int (px_add (px_var 5 rfl) px_int) (by first | exact .inl ⟨by omega, by omega⟩ | exact .inr ⟨by omega, by omega⟩)))) px_int (by first | omega | (have tc_ := tc (by first | assumption | exact Bool.eq_false_iff.mpr (by assumption)); omega) | (have tp_ := tp (by assumption); omega) | (simp only [Bool.and_eq_true, Bool.or_eq_true, Bool.not_eq_true', Bool.and_eq_false_iff, Bool.or_eq_false_iff, Bool.not_eq_false', decide_eq_true_eq, decide_eq_false_iff_not, Classical.not_not] at *; omega) | (simp only [Bool.and_eq_true, Bool.or_eq_true, Bool.not_eq_true', Bool.and_eq_false_iff, Bool.or_eq_false_iff, Bool.not_eq_false', decide_eq_true_eq, decide_eq_false_iff_not, Classical.not_not, lt, List.length_cons, List.length_nil, List.length_append, List.length_map, List.length_reverse, List.length_set, rangeI_length] at *; omega))) (fun v14_seed h14 => ?_) sc__law_draws.nd
      refine sx_set 6 (px_mod (px_int1 T.int_ (px_add (px_mul (px_var 6 rfl) (px_var 6 rfl) (by first | exact .inl ⟨by omega, by omega⟩ | exact .inr ⟨by omega, by omega⟩)) px_int)) px_int (by first | omega | (have tc_ := tc (by first | assumption | exact Bool.eq_false_iff.mpr (by assumption)); omega) | (have tp_ := tp (by assumption); omega) | (simp only [Bool.and_eq_true, Bool.or_eq_true, Bool.not_eq_true', Bool.and_eq_false_iff, Bool.or_eq_false_iff, Bool.not_eq_false', decide_eq_true_eq, decide_eq_false_iff_not, Classical.not_not] at *; omega) | (simp only [Bool.and_eq_true, Bool.or_eq_true, Bool.not_eq_true', Bool.and_eq_false_iff, Bool.or_eq_false_iff, Bool.not_eq_false', decide_eq_true_eq, decide_eq_false_iff_not, Classical.not_not, lt, List.length_cons, List.length_nil, List.length_append, List.length_map, List.length_reverse, List.length_set, rangeI_length] at *; omega))) (fun v15_seed h15 => ?_) sc__law_draws.nd
      refine sx_app 4 rfl (px_mod (px_int1 T.int_ (px_div (px_var 6 rfl) px_int (by exact wide_div (b := 64) (by omega) (by omega) (by decide) (by decide)))) (px_ixL (.bor _) (px_varO 1 (.arg _) rfl) (px_var 5 rfl) (by first | (constructor <;> omega) | (have tc_ := tc (by first | assumption | exact Bool.eq_false_iff.mpr (by assumption)); constructor <;> omega) | (have tp_ := tp (by assumption); constructor <;> omega) | (simp only [Bool.and_eq_true, Bool.or_eq_true, Bool.not_eq_true', Bool.and_eq_false_iff, Bool.or_eq_false_iff, Bool.not_eq_false', decide_eq_true_eq, decide_eq_false_iff_not, Classical.not_not] at *; constructor <;> omega) | (simp only [Bool.and_eq_true, Bool.or_eq_true, Bool.not_eq_true', Bool.and_eq_false_iff, Bool.or_eq_false_iff, Bool.not_eq_false', decide_eq_true_eq, decide_eq_false_iff_not, Classical.not_not, lt, List.length_cons, List.length_nil, List.length_append, List.length_map, List.length_reverse, List.length_set, rangeI_length] at *; constructor <;> omega))) (by omega)) (by exact Nat.lt_of_le_of_lt (show _ ≤ 100000 by first | omega | (have tc_ := tc (by first | assumption | exact Bool.eq_false_iff.mpr (by assumption)); omega) | (have tp_ := tp (by assumption); omega) | (simp only [Bool.and_eq_true, Bool.or_eq_true, Bool.not_eq_true', Bool.and_eq_false_iff, Bool.or_eq_false_iff, Bool.not_eq_false', decide_eq_true_eq, decide_eq_false_iff_not, Classical.not_not] at *; omega) | (simp only [Bool.and_eq_true, Bool.or_eq_true, Bool.not_eq_true', Bool.and_eq_false_iff, Bool.or_eq_false_iff, Bool.not_eq_false', decide_eq_true_eq, decide_eq_false_iff_not, Classical.not_not, lt, List.length_cons, List.length_nil, List.length_append, List.length_map, List.length_reverse, List.length_set, rangeI_length] at *; omega)) (by decide)) (fun v16_draws h16 => ?_)
      exact sx_nil (sx_endN (.same (.same (.same (.same (.same (.same (.drop .nil))))))))
    exact sx_nil (sx_endN (.same (.same (.same (.same (.same (.drop (.same .nil))))))))
  · have hr7 := rangeI_get hx7
    have hd := draws_ix hp (k := x7_k) (by omega) (by omega)
    have hl := hp.1
    (first | (show List.length (Prod.fst _) = _; simp only [lt]; split <;> simp only [List.length_append, List.length_cons, List.length_nil] <;> omega))
  exact sx_retV (mr := (fun r => r)) 4 rfl (rets_ret) rfl
theorem draws_paired (c : Int) (s : List Int) (hp : DrawsPre s) : Paired (fun k y => 0 ≤ y ∧ y < ix s k) (rangeI 0 ((s.length : Int)).toNat) (m__law_draws c s) := by
  unfold m__law_draws
  simp only [lt]
  refine foldl_grow0 _ _ _ (fun st x hx => ?_) _
  have hr := mem_rangeI.mp hx
  have hd := draws_ix hp (k := x) (by omega) (by omega)
  split
  · exact ⟨_, rfl, Int.emod_nonneg _ (by omega), Int.emod_lt_of_pos _ (by omega)⟩
  · exact ⟨_, rfl, Int.emod_nonneg _ (by omega), Int.emod_lt_of_pos _ (by omega)⟩
theorem draws_len (c : Int) (s : List Int) (hp : DrawsPre s) : (m__law_draws c s).length = s.length := by
  have h := paired_len (draws_paired c s hp)
  rw [rangeI_length] at h
  omega
theorem draws_all {c : Int} {s v : List Int} (h : v = m__law_draws c s) (hp : DrawsPre s) : v.length = s.length ∧ ∀ (k : Int) (x : Int), s[k.toNat]? = some x → 0 ≤ k → 0 ≤ ix v k ∧ ix v k < x := by
  subst h
  have hl := draws_len c s hp
  refine ⟨hl, fun k x hx hk => ?_⟩
  have hlt := (List.getElem?_eq_some_iff.mp hx).1
  have e1 := ix_nn (xs := m__law_draws c s) hk (by omega)
  obtain ⟨k', f1, f2⟩ := paired_get (draws_paired c s hp) e1
  have hk' := rangeI_get f1
  have : k' = k := by omega
  subst this
  have e2 := ix_nn (xs := s) hk (by omega)
  rw [hx] at e2
  injection e2 with e2
  rw [e2]
  exact f2
theorem draws_pre_rep {a b : List Int} {k : Int} (ha : DrawsPre a) (hb : ∀ s ∈ b, 0 < s ∧ s < 2 ^ 200) (hl : a.length + k.toNat * b.length ≤ 10000) : DrawsPre (a ++ repL b k) := by
  refine ⟨by rw [List.length_append, repL_length]; exact hl, fun s hs => ?_⟩
  rcases List.mem_append.mp hs with z | z
  · exact ha.2 s z
  · exact hb s (mem_repL z)
theorem repL_get {b : List Int} (hb : 0 < b.length) : ∀ (k i : Nat), i < k * b.length → (repL b (k : Int))[i]? = b[i % b.length]?
  | 0, i, h => by omega
  | k + 1, i, h => by
    have e : repL b ((k + 1 : Nat) : Int) = b ++ repL b (k : Int) := by
      unfold repL
      rw [Int.toNat_natCast, Int.toNat_natCast, List.replicate_succ, List.flatten_cons]
    rw [e]
    by_cases h1 : i < b.length
    · rw [List.getElem?_append_left h1, Nat.mod_eq_of_lt h1]
    · have e2 : i % b.length = (i - b.length) % b.length := Nat.mod_eq_sub_mod (by omega)
      rw [List.getElem?_append_right (by omega), repL_get hb k (i - b.length) (by rw [Nat.succ_mul] at h; omega), e2]
theorem draws_rest {c : Int} {a b v : List Int} {k j : Int} (h : v = sl (m__law_draws c (a ++ repL b k)) (some j) none) (hj : j = a.length) (ha : DrawsPre a) (hb : ∀ s ∈ b, 0 < s ∧ s < 2 ^ 200) (hl : a.length + k.toNat * b.length ≤ 10000) :
    v.length = k.toNat * b.length ∧ ∀ (i : Int) (x : Int), 0 ≤ i → i < ((k.toNat * b.length : Nat) : Int) → b[i.toNat % b.length]? = some x → 0 ≤ ix v i ∧ ix v i < x := by
  have hp := draws_pre_rep ha hb hl
  have e := draws_len c _ hp
  rw [List.length_append, repL_length] at e
  have hv : v.length = k.toNat * b.length := by
    rw [h, sl_from (by omega), List.length_drop, e]
    omega
  refine ⟨hv, fun i x h0 h1 hx => ?_⟩
  have hD := (draws_all (c := c) rfl hp).2 (j + i) x
  have g : (a ++ repL b k)[(j + i).toNat]? = some x := by
    have hb0 : 0 < b.length := by
      rcases Nat.eq_zero_or_pos b.length with z | z
      · rw [z] at hx; simp at hx; have := List.length_eq_zero_iff.mp z; subst this; simp at hx
      · exact z
    rw [List.getElem?_append_right (by omega)]
    have e1 : (j + i).toNat - a.length = i.toNat := by omega
    have e2 : repL b k = repL b ((k.toNat : Nat) : Int) := by unfold repL; rw [Int.toNat_natCast]
    rw [e1, e2, repL_get hb0 k.toNat i.toNat (by omega)]
    exact hx
  have r := hD g (by omega)
  have e3 : ix v i = ix (m__law_draws c (a ++ repL b k)) (j + i) := by
    have q1 := ix_nn (xs := v) (i := i) h0 (by omega)
    have q2 := ix_nn (xs := m__law_draws c (a ++ repL b k)) (i := j + i) (by omega) (by rw [e]; omega)
    rw [h, sl_from (by omega), List.getElem?_drop] at q1
    have e4 : j.toNat + i.toNat = (j + i).toNat := by omega
    rw [e4, q2] at q1
    injection q1 with q1
    rw [h, sl_from (by omega)]
    exact q1.symm
  rw [e3]
  exact r
def m__law_letter (a_number : Int) : (List Nat) :=
  [ix ([97, 98, 99, 100, 101, 102, 103, 104, 105, 106, 107, 108, 109, 110, 111, 112, 113, 114, 115, 116, 117, 118, 119, 120, 121, 122] : List Nat) (a_number % (26 : Int))]
abbrev s__law_letter : Stmt := topS 57
abbrev N__law_letter : List Str := ["number"]
theorem sc__law_letter : FnScope N__law_letter ["number"] (defScope s__law_letter) := ⟨rfl, rfl, rfl, by decide +kernel, rfl, by decide +kernel, by decide +kernel⟩
abbrev Ok__law_letter (P : Program) (w : World) (K : PySem.W.Frag) (mg : Str → Option Value) (base : Heap) : Prop :=
  DefOk P w K mg base 1 "_law_letter" 1 (spD (ι := Int) K (fun i => True) (fun i => [.is i]) (fun i => .is (m__law_letter i)))
theorem ok__law_letter {P : Program} {w : World} {K : PySem.W.Frag} {mg : Str → Option Value} {base : Heap} {f : Addr} {fd : FuncData} (F : Fun K "_law_letter" "_law_letter" s__law_letter f fd) (hm : mg "_law_letter" = some (.ref f)) (bd : Binds K fd ["number"] []) (T : Bt mg)  : Ok__law_letter P w K mg base := by
  refine defOk (kk := 0) (R := (List Nat)) F hm sc__law_letter bd _ _ (fun r => .is r) _ (fun _ => rfl) (fun i hp cdv A outer s H E hr => ?_)
  obtain ⟨a_number, rfl⟩ : ∃ z, z = i := ⟨i, rfl⟩
  show SX _ _ [.is a_number] _ (m__law_letter a_number)
  unfold m__law_letter
  exact sx_retI (mr := (fun r => r)) (rets_ret) rfl (px_ixS (px_str (x := ([97, 98, 99, 100, 101, 102, 103, 104, 105, 106, 107, 108, 109, 110, 111, 112, 113, 114, 115, 116, 117, 118, 119, 120, 121, 122] : List Nat)) (by decide +kernel)) (px_mod (px_int1 T.int_ (px_var 0 rfl)) px_int (by first | omega | (have tc_ := tc (by first | assumption | exact Bool.eq_false_iff.mpr (by assumption)); omega) | (have tp_ := tp (by assumption); omega) | (simp only [Bool.and_eq_true, Bool.or_eq_true, Bool.not_eq_true', Bool.and_eq_false_iff, Bool.or_eq_false_iff, Bool.not_eq_false', decide_eq_true_eq, decide_eq_false_iff_not, Classical.not_not] at *; omega) | (simp only [Bool.and_eq_true, Bool.or_eq_true, Bool.not_eq_true', Bool.and_eq_false_iff, Bool.or_eq_false_iff, Bool.not_eq_false', decide_eq_true_eq, decide_eq_false_iff_not, Classical.not_not, lt, List.length_cons, List.length_nil, List.length_append, List.length_map, List.length_reverse, List.length_set, rangeI_length] at *; omega))) (by first | omega | decide | exact Nat.le_trans (show _ ≤ 100000 by (first | omega | (simp only [lt, List.length_cons, List.length_nil, List.length_append, List.length_map, List.length_reverse, List.length_set, rangeI_length] at *; omega) | (simp only [lt, List.length_cons, List.length_nil, List.length_append, List.length_map, List.length_reverse, List.length_set, rangeI_length]; omega) | (simp only [repT_length, Int.reduceToNat, lt, List.length_cons, List.length_nil, List.length_append, List.length_map, List.length_reverse, List.length_set, rangeI_length]; omega))) (by decide)) (by first | (constructor <;> omega) | (have tc_ := tc (by first | assumption | exact Bool.eq_false_iff.mpr (by assumption)); constructor <;> omega) | (have tp_ := tp (by assumption); constructor <;> omega) | (simp only [Bool.and_eq_true, Bool.or_eq_true, Bool.not_eq_true', Bool.and_eq_false_iff, Bool.or_eq_false_iff, Bool.not_eq_false', decide_eq_true_eq, decide_eq_false_iff_not, Classical.not_not] at *; constructor <;> omega) | (simp only [Bool.and_eq_true, Bool.or_eq_true, Bool.not_eq_true', Bool.and_eq_false_iff, Bool.or_eq_false_iff, Bool.not_eq_false', decide_eq_true_eq, decide_eq_false_iff_not, Classical.not_not, lt, List.length_cons, List.length_nil, List.length_append, List.length_map, List.length_reverse, List.length_set, rangeI_length] at *; constructor <;> omega)))
def m__law_size (a_mode : Int) (a_number : Int) (a_most : Int) : Int :=
  (if (decide (a_mode < (6 : Int))) = true then ((1 : Int) + (a_number % (if a_most < (9 : Int) then a_most else (9 : Int) : Int))) else 
  (if (decide (a_mode < (9 : Int))) = true then ((1 : Int) + (a_number % (if a_most < (18 : Int) then a_most else (18 : Int) : Int))) else 
    ((1 : Int) + (a_number % a_most))))
abbrev s__law_size : Stmt := topS 58
abbrev N__law_size : List Str := ["mode", "number", "most"]
theorem sc__law_size : FnScope N__law_size ["mode", "number", "most"] (defScope s__law_size) := ⟨rfl, rfl, rfl, by decide +kernel, rfl, by decide +kernel, by decide +kernel⟩
abbrev Ok__law_size (P : Program) (w : World) (K : PySem.W.Frag) (mg : Str → Option Value) (base : Heap) : Prop :=
  DefOk P w K mg base 1 "_law_size" 3 (spD (ι := Int × Int × Int) K (fun i => 1 ≤ i.2.2) (fun i => [.is i.1, .is i.2.1, .is i.2.2]) (fun i => .is (m__law_size i.1 i.2.1 i.2.2)))
theorem ok__law_size {P : Program} {w : World} {K : PySem.W.Frag} {mg : Str → Option Value} {base : Heap} {f : Addr} {fd : FuncData} (F : Fun K "_law_size" "_law_size" s__law_size f fd) (hm : mg "_law_size" = some (.ref f)) (bd : Binds K fd ["mode", "number", "most"] []) (T : Bt mg)  : Ok__law_size P w K mg base := by
  refine defOk (kk := 0) (R := Int) F hm sc__law_size bd _ _ (fun r => .is r) _ (fun _ => rfl) (fun i hp cdv A outer s H E hr => ?_)
  obtain ⟨a_mode, a_number, a_most⟩ := i
  have hp : 1 ≤ a_most := hp
  show SX _ _ [.is a_mode, .is a_number, .is a_most] _ (m__law_size a_mode a_number a_most)
  unfold m__law_size
  refine sx_if (tx_lt (px_var 0 rfl) px_int) (fun hc1 => ?_) (fun hc1 => ?_)
  · try simp only [Bool.and_eq_true, Bool.or_eq_true, Bool.not_eq_true', Bool.and_eq_false_iff, Bool.or_eq_false_iff, Bool.not_eq_false', decide_eq_true_eq, decide_eq_false_iff_not, Classical.not_not] at hc1
    exact sx_retI (mr := (fun r => r)) (rets_ret) rfl (px_add px_int (px_mod (px_int1 T.int_ (px_var 1 rfl)) (px_min rfl T.min_ px_int (px_var 2 rfl)) (by first | omega | (have tc_ := tc (by first | assumption | exact Bool.eq_false_iff.mpr (by assumption)); omega) | (have tp_ := tp (by assumption); omega) | (simp only [Bool.and_eq_true, Bool.or_eq_true, Bool.not_eq_true', Bool.and_eq_false_iff, Bool.or_eq_false_iff, Bool.not_eq_false', decide_eq_true_eq, decide_eq_false_iff_not, Classical.not_not] at *; omega) | (simp only [Bool.and_eq_true, Bool.or_eq_true, Bool.not_eq_true', Bool.and_eq_false_iff, Bool.or_eq_false_iff, Bool.not_eq_false', decide_eq_true_eq, decide_eq_false_iff_not, Classical.not_not, lt, List.length_cons, List.length_nil, List.length_append, List.length_map, List.length_reverse, List.length_set, rangeI_length] at *; omega))))
  · try simp only [Bool.and_eq_true, Bool.or_eq_true, Bool.not_eq_true', Bool.and_eq_false_iff, Bool.or_eq_false_iff, Bool.not_eq_false', decide_eq_true_eq, decide_eq_false_iff_not, Classical.not_not] at hc1
    refine sx_nil ?_
    refine sx_if (tx_lt (px_var 0 rfl) px_int) (fun hc2 => ?_) (fun hc2 => ?_)
    · try simp only [Bool.and_eq_true, Bool.or_eq_true, Bool.not_eq_true', Bool.and_eq_false_iff, Bool.or_eq_false_iff, Bool.not_eq_false', decide_eq_true_eq, decide_eq_false_iff_not, Classical.not_not] at hc2
      exact sx_retI (mr := (fun r => r)) (rets_ret) rfl (px_add px_int (px_mod (px_int1 T.int_ (px_var 1 rfl)) (px_min rfl T.min_ px_int (px_var 2 rfl)) (by first | omega | (have tc_ := tc (by first | assumption | exact Bool.eq_false_iff.mpr (by assumption)); omega) | (have tp_ := tp (by assumption); omega) | (simp only [Bool.and_eq_true, Bool.or_eq_true, Bool.not_eq_true', Bool.and_eq_false_iff, Bool.or_eq_false_iff, Bool.not_eq_false', decide_eq_true_eq, decide_eq_false_iff_not, Classical.not_not] at *; omega) | (simp only [Bool.and_eq_true, Bool.or_eq_true, Bool.not_eq_true', Bool.and_eq_false_iff, Bool.or_eq_false_iff, Bool.not_eq_false', decide_eq_true_eq, decide_eq_false_iff_not, Classical.not_not, lt, List.length_cons, List.length_nil, List.length_append, List.length_map, List.length_reverse, List.length_set, rangeI_length] at *; omega))))
    · try simp only [Bool.and_eq_true, Bool.or_eq_true, Bool.not_eq_true', Bool.and_eq_false_iff, Bool.or_eq_false_iff, Bool.not_eq_false', decide_eq_true_eq, decide_eq_false_iff_not, Classical.not_not] at hc2
      refine sx_nil ?_
      exact sx_retI (mr := (fun r => r)) (rets_ret) rfl (px_add px_int (px_mod (px_int1 T.int_ (px_var 1 rfl)) (px_var 2 rfl) (by first | omega | (have tc_ := tc (by first | assumption | exact Bool.eq_false_iff.mpr (by assumption)); omega) | (have tp_ := tp (by assumption); omega) | (simp only [Bool.and_eq_true, Bool.or_eq_true, Bool.not_eq_true', Bool.and_eq_false_iff, Bool.or_eq_false_iff, Bool.not_eq_false', decide_eq_true_eq, decide_eq_false_iff_not, Classical.not_not] at *; omega) | (simp only [Bool.and_eq_true, Bool.or_eq_true, Bool.not_eq_true', Bool.and_eq_false_iff, Bool.or_eq_false_iff, Bool.not_eq_false', decide_eq_true_eq, decide_eq_false_iff_not, Classical.not_not, lt, List.length_cons, List.length_nil, List.length_append, List.length_map, List.length_reverse, List.length_set, rangeI_length] at *; omega))))
theorem size_post {mode number most v : Int} (h : v = m__law_size mode number most) (h1 : 1 ≤ most) : 1 ≤ v ∧ v ≤ most := by
  subst h
  unfold m__law_size
  have key : ∀ m : Int, 1 ≤ m → m ≤ most → 1 ≤ 1 + number % m ∧ 1 + number % m ≤ most := fun m h2 h3 => by
    have a := Int.emod_nonneg number (show m ≠ 0 by omega)
    have b := Int.emod_lt_of_pos number (show 0 < m by omega)
    omega
  split
  · exact key _ (by split <;> omega) (by split <;> omega)
  · split
    · exact key _ (by split <;> omega) (by split <;> omega)
    · exact key _ h1 (by omega)
def isIntD : PyData → Bool
  | .int _ => true
  | _ => false
abbrev s__law_is_int : Stmt := topS 59
abbrev N__law_is_int : List Str := ["x"]
theorem sc__law_is_int : FnScope N__law_is_int ["x"] (defScope s__law_is_int) := ⟨rfl, rfl, rfl, by decide +kernel, rfl, by decide +kernel, by decide +kernel⟩
abbrev Ok__law_is_int (P : Program) (w : World) (K : PySem.W.Frag) (mg : Str → Option Value) (base : Heap) : Prop :=
  DefOk P w K mg base 1 "_law_is_int" 1 (spD (ι := PyData) K (fun i => flatD 9 i = true) (fun i => [.is i]) (fun i => .is (isIntD i)))
theorem ok__law_is_int {P : Program} {w : World} {K : PySem.W.Frag} {mg : Str → Option Value} {base : Heap} {f : Addr} {fd : FuncData} (F : Fun K "_law_is_int" "_law_is_int" s__law_is_int f fd) (hm : mg "_law_is_int" = some (.ref f)) (bd : Binds K fd ["x"] []) (T : Bt mg) : Ok__law_is_int P w K mg base := by
  refine defOk (kk := 0) (R := Bool) F hm sc__law_is_int bd _ _ (fun r => .is r) _ (fun _ => rfl) (fun i hp cdv A outer s H E hr => ?_)
  show SX _ _ [.is i] _ (isIntD i)
  cases i with
  | none => exact sx_retI (mr := fun r => r) rets_ret rfl (px_and (px_isD _ "int" false (px_var 0 rfl) T.isinstance_ T.int_) (fun h => nomatch h) (y := false))
  | bool b => exact sx_retI (mr := fun r => r) rets_ret rfl (px_and (px_isD _ "int" true (px_var 0 rfl) T.isinstance_ T.int_) (fun _ => px_and1 (px_not (px_isD _ "bool" true (px_var 0 rfl) T.isinstance_ T.bool_))))
  | int j => exact sx_retI (mr := fun r => r) rets_ret rfl (px_and (px_isD _ "int" true (px_var 0 rfl) T.isinstance_ T.int_) (fun _ => px_and1 (px_not (px_isD _ "bool" false (px_var 0 rfl) T.isinstance_ T.bool_))))
  | str x => exact sx_retI (mr := fun r => r) rets_ret rfl (px_and (px_isD _ "int" false (px_var 0 rfl) T.isinstance_ T.int_) (fun h => nomatch h) (y := false))
  | list x => exact sx_retI (mr := fun r => r) rets_ret rfl (px_and (px_isD _ "int" false (px_var 0 rfl) T.isinstance_ T.int_) (fun h => nomatch h) (y := false))
  | tuple x => exact sx_retI (mr := fun r => r) rets_ret rfl (px_and (px_isD _ "int" false (px_var 0 rfl) T.isinstance_ T.int_) (fun h => nomatch h) (y := false))
  | dict x => exact absurd hp (by unfold flatD; decide)
abbrev s__law_same : Stmt := topS 60
abbrev N__law_same : List Str := ["got", "due", "k"]
theorem sc__law_same : FnScope N__law_same ["got", "due"] (defScope s__law_same) := ⟨rfl, rfl, rfl, by decide +kernel, rfl, by decide +kernel, by decide +kernel⟩
abbrev Ok__law_same (n : Nat) (P : Program) (w : World) (K : PySem.W.Frag) (mg : Str → Option Value) (base : Heap) : Prop :=
  DefOk P w K mg base (n + 2) "_law_same" 2 (spD (ι := PyData × PyData) K (fun i => flatD 9 i.1 = true ∧ flatD n i.2 = true) (fun i => [.is i.1, .is i.2]) (fun i => .is (same i.1 i.2)))
theorem flatD_list {n : Nat} {ds : List PyData} (h : flatD (n + 1) (.list ds) = true) : ds.length ≤ 1000000 ∧ flatAll n ds = true := by
  unfold flatD at h
  have h' := Bool.and_eq_true_iff.mp h
  exact ⟨of_decide_eq_true h'.1, h'.2⟩
theorem flatD_tuple {n : Nat} {ds : List PyData} (h : flatD (n + 1) (.tuple ds) = true) : ds.length ≤ 1000000 ∧ flatAll n ds = true := by
  unfold flatD at h
  have h' := Bool.and_eq_true_iff.mp h
  exact ⟨of_decide_eq_true h'.1, h'.2⟩
mutual
theorem flatD_mono : ∀ (n : Nat) (d : PyData), flatD n d = true → flatD (n + 1) d = true
  | 0, d, h => by cases d <;> (unfold flatD at h; cases h)
  | n + 1, .list a, h => by
    have h := flatD_list h
    unfold flatD
    exact Bool.and_eq_true_iff.mpr ⟨decide_eq_true h.1, flatAll_mono n a h.2⟩
  | n + 1, .tuple a, h => by
    have h := flatD_tuple h
    unfold flatD
    exact Bool.and_eq_true_iff.mpr ⟨decide_eq_true h.1, flatAll_mono n a h.2⟩
  | n + 1, .dict a, h => by unfold flatD at h; cases h
  | n + 1, .none, h => by unfold flatD; rfl
  | n + 1, .bool _, h => by unfold flatD; rfl
  | n + 1, .int _, h => by unfold flatD; rfl
  | n + 1, .str _, h => by unfold flatD; rfl
theorem flatAll_mono : ∀ (n : Nat) (ds : List PyData), flatAll n ds = true → flatAll (n + 1) ds = true
  | _, [], _ => by unfold flatAll; rfl
  | n, x :: xs, h => by
    unfold flatAll at h ⊢
    have h' := Bool.and_eq_true_iff.mp h
    exact Bool.and_eq_true_iff.mpr ⟨flatD_mono n x h'.1, flatAll_mono n xs h'.2⟩
end
section
variable {P : Program} {w : World} {K : PySem.W.Frag} {mg : Str → Option Value} {base : Heap} {f : Addr} {fd : FuncData}
theorem ok__law_same (F : Fun K "_law_same" "_law_same" s__law_same f fd) (hm : mg "_law_same" = some (.ref f)) (bd : Binds K fd ["got", "due"] []) (T : Bt mg) (D_is : Ok__law_is_int P w K mg base) : ∀ n, Ok__law_same n P w K mg base := by
  intro n
  induction n with
  | zero =>
    obtain ⟨f', fd', ps, F', h1, h2, h3, h4⟩ := D_is.ex
    refine ⟨f, fd, ["got", "due"], ⟨?_, ?_⟩, hm, F.kp, bd, rfl⟩
    · intro vs H Q E h
      obtain ⟨_, _, _, _, l, _⟩ := h
      exact l
    · intro A outer s H args us vs Q E hr he hb hv hs
      obtain ⟨Hd0, i, g1, g2, _⟩ := hs
      have := g2.2
      unfold flatD at this
      cases this
  | succ n ih =>
    refine defOk (kk := n + 2) (R := Bool) F hm sc__law_same bd _ _ (fun r => .is r) _ (fun _ => rfl) (fun i hp cdv A outer s H E hr => ?_)
    obtain ⟨got, due⟩ := i
    have hp : flatD 9 got = true ∧ flatD (n + 1) due = true := hp
    obtain ⟨hg, hd⟩ := hp
    show SX _ _ [.is got, .is due, .no] _ (same got due)
    cases due with
    | dict x => exact absurd hd (by unfold flatD; decide)
    | none =>
      refine sx_ifT (tx_isND (px_var 1 rfl)) ?_
      refine sx_eq (sx_retI (mr := fun r => r) rets_ret rfl (px_isND (px_var 0 rfl))) ?_
      cases got <;> first | rfl | (unfold same isNoneD; rfl)
    | bool b =>
      refine sx_ifF (tx_isND (px_var 1 rfl)) (sx_nil ?_)
      refine sx_ifT (tx_val (px_isD _ "bool" true (px_var 1 rfl) T.isinstance_ T.bool_)) ?_
      cases got with
      | bool c =>
        refine sx_eq (sx_retI (mr := fun r => r) rets_ret rfl (px_and (px_isD _ "bool" true (px_var 0 rfl) T.isinstance_ T.bool_) (fun _ => px_and1 (px_eqD0 (decide (c = b)) (vd := .bl c) (ve := .bl b) (fun _ _ _ h => by cases h; rfl) (fun _ _ _ h => by cases h; rfl) rfl dec_valB (px_var 0 rfl) (px_var 1 rfl))))) ?_
        unfold same
        show (true && decide (c = b)) = (c == b)
        cases c <;> cases b <;> rfl
      | dict x => exact absurd hg (by unfold flatD; decide)
      | _ =>
        refine sx_eq (sx_retI (mr := fun r => r) rets_ret rfl (px_and (y := false) (px_isD _ "bool" false (px_var 0 rfl) T.isinstance_ T.bool_) (fun h => nomatch h))) ?_
        unfold same
        rfl
    | int b =>
      refine sx_ifF (tx_isND (px_var 1 rfl)) (sx_nil ?_)
      refine sx_ifF (tx_val (px_isD _ "bool" false (px_var 1 rfl) T.isinstance_ T.bool_)) (sx_nil ?_)
      refine sx_ifT (tx_val (px_isD _ "int" true (px_var 1 rfl) T.isinstance_ T.int_)) ?_
      cases got with
      | int c =>
        refine sx_eq (sx_retI (mr := fun r => r) rets_ret rfl (px_and (px_call D_is (PyData.int c) hg (hr.mono (by omega)) (ax_cons (px_var 0 rfl) ax_nil) (.is .nil)) (fun _ => px_and1 (px_eqD0 (decide (c = b)) (vd := .int c) (ve := .int b) (fun _ _ _ h => by cases h; rfl) (fun _ _ _ h => by cases h; rfl) rfl dec_valI (px_var 0 rfl) (px_var 1 rfl))))) ?_
        unfold same
        show (true && decide (c = b)) = (c == b)
        rw [Bool.true_and]
        by_cases h : c = b
        · subst h; simp
        · simp [h]
      | dict x => exact absurd hg (by unfold flatD; decide)
      | none =>
        refine sx_eq (sx_retI (mr := fun r => r) rets_ret rfl (px_and (x := isIntD .none) (y := false) (px_call D_is PyData.none hg (hr.mono (by omega)) (ax_cons (px_var 0 rfl) ax_nil) (.is .nil)) (fun h => nomatch h))) ?_
        unfold same
        rfl
      | bool z =>
        refine sx_eq (sx_retI (mr := fun r => r) rets_ret rfl (px_and (x := isIntD (.bool z)) (y := false) (px_call D_is (PyData.bool z) hg (hr.mono (by omega)) (ax_cons (px_var 0 rfl) ax_nil) (.is .nil)) (fun h => nomatch h))) ?_
        unfold same
        rfl
      | str z =>
        refine sx_eq (sx_retI (mr := fun r => r) rets_ret rfl (px_and (x := isIntD (.str z)) (y := false) (px_call D_is (PyData.str z) hg (hr.mono (by omega)) (ax_cons (px_var 0 rfl) ax_nil) (.is .nil)) (fun h => nomatch h))) ?_
        unfold same
        rfl
      | list z =>
        refine sx_eq (sx_retI (mr := fun r => r) rets_ret rfl (px_and (x := isIntD (.list z)) (y := false) (px_call D_is (PyData.list z) hg (hr.mono (by omega)) (ax_cons (px_var 0 rfl) ax_nil) (.is .nil)) (fun h => nomatch h))) ?_
        unfold same
        rfl
      | tuple z =>
        refine sx_eq (sx_retI (mr := fun r => r) rets_ret rfl (px_and (x := isIntD (.tuple z)) (y := false) (px_call D_is (PyData.tuple z) hg (hr.mono (by omega)) (ax_cons (px_var 0 rfl) ax_nil) (.is .nil)) (fun h => nomatch h))) ?_
        unfold same
        rfl
    | str b =>
      refine sx_ifF (tx_isND (px_var 1 rfl)) (sx_nil ?_)
      refine sx_ifF (tx_val (px_isD _ "bool" false (px_var 1 rfl) T.isinstance_ T.bool_)) (sx_nil ?_)
      refine sx_ifF (tx_val (px_isD _ "int" false (px_var 1 rfl) T.isinstance_ T.int_)) (sx_nil ?_)
      refine sx_ifT (tx_val (px_isD _ "str" true (px_var 1 rfl) T.isinstance_ T.str_)) ?_
      cases got with
      | str c =>
        refine sx_eq (sx_retI (mr := fun r => r) rets_ret rfl (px_and (px_isD _ "str" true (px_var 0 rfl) T.isinstance_ T.str_) (fun _ => px_and1 (px_eqD0 (decide (c = b)) (vd := .str c) (ve := .str b) (fun _ _ _ h => by cases h; rfl) (fun _ _ _ h => by cases h; rfl) rfl (by by_cases h : c = b <;> simp [h]) (px_var 0 rfl) (px_var 1 rfl))))) ?_
        unfold same
        show (true && decide (c = b)) = (c == b)
        rw [Bool.true_and]
        by_cases h : c = b
        · subst h; simp
        · simp [h]
      | dict x => exact absurd hg (by unfold flatD; decide)
      | _ =>
        refine sx_eq (sx_retI (mr := fun r => r) rets_ret rfl (px_and (y := false) (px_isD _ "str" false (px_var 0 rfl) T.isinstance_ T.str_) (fun h => nomatch h))) ?_
        unfold same
        rfl
    | list ds =>
      obtain ⟨hlen, hds⟩ := flatD_list hd
      refine sx_ifF (tx_isND (px_var 1 rfl)) (sx_nil ?_)
      refine sx_ifF (tx_val (px_isD _ "bool" false (px_var 1 rfl) T.isinstance_ T.bool_)) (sx_nil ?_)
      refine sx_ifF (tx_val (px_isD _ "int" false (px_var 1 rfl) T.isinstance_ T.int_)) (sx_nil ?_)
      refine sx_ifF (tx_val (px_isD _ "str" false (px_var 1 rfl) T.isinstance_ T.str_)) (sx_nil ?_)
      cases got with
      | list gs =>
        have hgs := (flatD_list hg).2
        refine sx_ifF (tx_w (wx_and (tx_val (px_isD _ "list" true (px_var 1 rfl) T.isinstance_ T.list_)) (fun _ => wx_and1 (tx_not (tx_val (px_isD _ "list" true (px_var 0 rfl) T.isinstance_ T.list_)))))) (sx_nil ?_)
        refine sx_ifF (tx_w (wx_and (y := false) (tx_val (px_isD _ "tuple" false (px_var 1 rfl) T.isinstance_ T.tuple_)) (fun h => nomatch h))) (sx_nil ?_)
        refine sx_eq (sx_if (tx_ne (px_lenD (ds := gs) (.inl rfl) T.len_ (px_var 0 rfl)) (px_lenD (ds := ds) (.inl rfl) T.len_ (px_var 1 rfl))) (fun hc => sx_retI (mr := fun r => r) rets_ret rfl px_bool) (fun hc => sx_nil (sx_for (S := Unit) (R := Bool) (mr := fun r => r) (mm := fun _ => true) 2 (fun _ => [.is (PyData.list gs), .is (PyData.list ds), .no]) (fun r => .is r) (sameStep gs ds) () (fun _ _ => True) (it_range1 T.range_ (px_lenD (ds := ds) (.inl rfl) T.len_ (px_var 1 rfl)) ⟨by omega, by omega⟩) (pg_name (i := 2) sc__law_same.nd rfl (by first | exact Or.inl rfl | exact Or.inr rfl)) (.same (.same (.same .nil))) trivial (fun i u x hx _ => ?_) (fun _ _ _ _ _ _ _ => trivial) rets_ret (fun _ _ => sx_retI (mr := fun r => r) rets_ret rfl px_bool)))) ?_
        · obtain ⟨hi, hxe⟩ := rangeI_get hx
          have hc2 : (gs.length : Int) = ds.length := by simpa using hc
          have hc' : gs.length = ds.length := by omega
          have hlt : i < ds.length := by omega
          clear hx
          obtain rfl : x = (i : Int) := by omega
          have hi' : i < ds.length := by omega
          have hx0 : (i : Int) = (i : Int) := rfl
          have g1 : gs[i]? = some gs[i] := List.getElem?_eq_getElem (by omega)
          have g2 : ds[i]? = some ds[i] := List.getElem?_eq_getElem hi'
          have q1 : flatD 9 gs[i] = true := flatD_mono 8 _ (flatAll_mem hgs (List.mem_of_getElem? g1))
          have q2 : flatD n ds[i] = true := flatAll_mem hds (List.mem_of_getElem? g2)
          have es : sameStep gs ds u (i : Int) = if (!same gs[i] ds[i]) = true then .ret false else .go () := by
            unfold sameStep
            rw [show ((i : Int)).toNat = i from rfl, g1, g2]
            rfl
          rw [es]
          exact sx_if (tx_not (tx_val (px_call ih (gs[i], ds[i]) ⟨q1, q2⟩ (hr.mono (by omega)) (ax_cons (px_ixD (.inl rfl) g1 hx0 (px_var 0 rfl) (px_var 2 rfl)) (ax_cons (px_ixD (.inl rfl) g2 hx0 (px_var 1 rfl) (px_var 2 rfl)) ax_nil)) (.is (.is .nil))))) (fun _ => sx_retI (mr := Out.ret) rets_out rfl px_bool) (fun _ => sx_nil (sx_nil (sx_endO (.same (.same (.drop .nil))))))
        · exact (same_fin gs ds).trans (by unfold same; rfl)
      | dict x => exact absurd hg (by unfold flatD; decide)
      | _ =>
        refine sx_ifT (tx_w (wx_and (tx_val (px_isD _ "list" true (px_var 1 rfl) T.isinstance_ T.list_)) (fun _ => wx_and1 (tx_not (tx_val (px_isD _ "list" false (px_var 0 rfl) T.isinstance_ T.list_)))))) ?_
        refine sx_eq (sx_retI (mr := fun r => r) rets_ret rfl px_bool) ?_
        unfold same
        rfl
    | tuple ds =>
      obtain ⟨hlen, hds⟩ := flatD_tuple hd
      refine sx_ifF (tx_isND (px_var 1 rfl)) (sx_nil ?_)
      refine sx_ifF (tx_val (px_isD _ "bool" false (px_var 1 rfl) T.isinstance_ T.bool_)) (sx_nil ?_)
      refine sx_ifF (tx_val (px_isD _ "int" false (px_var 1 rfl) T.isinstance_ T.int_)) (sx_nil ?_)
      refine sx_ifF (tx_val (px_isD _ "str" false (px_var 1 rfl) T.isinstance_ T.str_)) (sx_nil ?_)
      refine sx_ifF (tx_w (wx_and (y := false) (tx_val (px_isD _ "list" false (px_var 1 rfl) T.isinstance_ T.list_)) (fun h => nomatch h))) (sx_nil ?_)
      cases got with
      | tuple gs =>
        have hgs := (flatD_tuple hg).2
        refine sx_ifF (tx_w (wx_and (tx_val (px_isD _ "tuple" true (px_var 1 rfl) T.isinstance_ T.tuple_)) (fun _ => wx_and1 (tx_not (tx_val (px_isD _ "tuple" true (px_var 0 rfl) T.isinstance_ T.tuple_)))))) (sx_nil ?_)
        refine sx_eq (sx_if (tx_ne (px_lenD (ds := gs) (.inr rfl) T.len_ (px_var 0 rfl)) (px_lenD (ds := ds) (.inr rfl) T.len_ (px_var 1 rfl))) (fun hc => sx_retI (mr := fun r => r) rets_ret rfl px_bool) (fun hc => sx_nil (sx_for (S := Unit) (R := Bool) (mr := fun r => r) (mm := fun _ => true) 2 (fun _ => [.is (PyData.tuple gs), .is (PyData.tuple ds), .no]) (fun r => .is r) (sameStep gs ds) () (fun _ _ => True) (it_range1 T.range_ (px_lenD (ds := ds) (.inr rfl) T.len_ (px_var 1 rfl)) ⟨by omega, by omega⟩) (pg_name (i := 2) sc__law_same.nd rfl (by first | exact Or.inl rfl | exact Or.inr rfl)) (.same (.same (.same .nil))) trivial (fun i u x hx _ => ?_) (fun _ _ _ _ _ _ _ => trivial) rets_ret (fun _ _ => sx_retI (mr := fun r => r) rets_ret rfl px_bool)))) ?_
        · obtain ⟨hi, hxe⟩ := rangeI_get hx
          have hc2 : (gs.length : Int) = ds.length := by simpa using hc
          have hc' : gs.length = ds.length := by omega
          have hlt : i < ds.length := by omega
          clear hx
          obtain rfl : x = (i : Int) := by omega
          have hi' : i < ds.length := by omega
          have hx0 : (i : Int) = (i : Int) := rfl
          have g1 : gs[i]? = some gs[i] := List.getElem?_eq_getElem (by omega)
          have g2 : ds[i]? = some ds[i] := List.getElem?_eq_getElem hi'
          have q1 : flatD 9 gs[i] = true := flatD_mono 8 _ (flatAll_mem hgs (List.mem_of_getElem? g1))
          have q2 : flatD n ds[i] = true := flatAll_mem hds (List.mem_of_getElem? g2)
          have es : sameStep gs ds u (i : Int) = if (!same gs[i] ds[i]) = true then .ret false else .go () := by
            unfold sameStep
            rw [show ((i : Int)).toNat = i from rfl, g1, g2]
            rfl
          rw [es]
          exact sx_if (tx_not (tx_val (px_call ih (gs[i], ds[i]) ⟨q1, q2⟩ (hr.mono (by omega)) (ax_cons (px_ixD (.inr rfl) g1 hx0 (px_var 0 rfl) (px_var 2 rfl)) (ax_cons (px_ixD (.inr rfl) g2 hx0 (px_var 1 rfl) (px_var 2 rfl)) ax_nil)) (.is (.is .nil))))) (fun _ => sx_retI (mr := Out.ret) rets_out rfl px_bool) (fun _ => sx_nil (sx_nil (sx_endO (.same (.same (.drop .nil))))))
        · exact (same_fin gs ds).trans (by unfold same; rfl)
      | dict x => exact absurd hg (by unfold flatD; decide)
      | _ =>
        refine sx_ifT (tx_w (wx_and (tx_val (px_isD _ "tuple" true (px_var 1 rfl) T.isinstance_ T.tuple_)) (fun _ => wx_and1 (tx_not (tx_val (px_isD _ "tuple" false (px_var 0 rfl) T.isinstance_ T.tuple_)))))) ?_
        refine sx_eq (sx_retI (mr := fun r => r) rets_ret rfl px_bool) ?_
        unfold same
        rfl
end
structure Cs (mg : Str → Option Value) : Prop where
  c_MOST : ∃ t : Tok, mg "MOST" = some (.int 128 t)
  c_MOST_RULES : ∃ t : Tok, mg "MOST_RULES" = some (.int 256 t)
theorem leT_one (a b : Nat) : leT [a] [b] = decide (a ≤ b) := by
  unfold leT
  by_cases h : a ≤ b
  · have : ¬ [b] < [a] := by
      rw [List.cons_lt_cons_iff]
      simp
      omega
    simp [this, h]
  · have : [b] < [a] := by
      rw [List.cons_lt_cons_iff]
      omega
    simp [this, h]
def RulP (rs : List Rul) : Prop := rs.length ≤ 1000 ∧ ∀ p ∈ rs, p.let.length ≤ 1000
def partsR : Rul → List Int
  | .ltr _ => []
  | .pair a b => [a, b]
  | .pow a _ => [a]
def PartsIn (rs : List Rul) : Prop := ∀ p ∈ rs, ∀ q ∈ partsR p, 0 ≤ q ∧ q < rs.length
def GoodRu (rs : List Rul) : Prop := 1 ≤ rs.length ∧ rs.length ≤ 256 ∧ PartsIn rs
structure EA where
  mk ::
  BadPress : Addr
  TooLong : Addr
  BadText : Addr
  BadPlaces : Addr
  BadCount : Addr
  TooShort : Addr
  NoText : Addr
  BadPaper : Addr
  BadLine : Addr
  NotARoot : Addr
  DeskError : Addr
  PressError : Addr
structure Er (K : PySem.W.Frag) (mg : Str → Option Value) (A : EA) : Prop where
  g_BadPress : mg "BadPress" = some (.ref A.BadPress)
  g_TooLong : mg "TooLong" = some (.ref A.TooLong)
  g_BadText : mg "BadText" = some (.ref A.BadText)
  g_BadPlaces : mg "BadPlaces" = some (.ref A.BadPlaces)
  g_BadCount : mg "BadCount" = some (.ref A.BadCount)
  g_TooShort : mg "TooShort" = some (.ref A.TooShort)
  g_NoText : mg "NoText" = some (.ref A.NoText)
  g_BadPaper : mg "BadPaper" = some (.ref A.BadPaper)
  g_BadLine : mg "BadLine" = some (.ref A.BadLine)
  g_NotARoot : mg "NotARoot" = some (.ref A.NotARoot)
  g_DeskError : mg "DeskError" = some (.ref A.DeskError)
  g_PressError : mg "PressError" = some (.ref A.PressError)
  e_TooLong : EC0 K mg "TooLong" A.TooLong
  x_BadPress : ExcC K A.BadPress
  x_TooLong : ExcC K A.TooLong
  i_BadPress_PressError : PySem.W.kitOne K (.ref A.BadPress) (.ref A.PressError) = some true
  i_BadPress_ValueError : PySem.W.kitOne K (.ref A.BadPress) (.type "ValueError") = some true
  i_TooLong_PressError : PySem.W.kitOne K (.ref A.TooLong) (.ref A.PressError) = some true
  i_TooLong_ValueError : PySem.W.kitOne K (.ref A.TooLong) (.type "ValueError") = some true
  f_BadPress : XfC K A.BadPress
  n_BadPress : PySem.W.findIn K (.ref A.BadPress) "index" = some none
  j0_BadPress : PySem.W.kitAny K (.ref A.BadPress) [(.ref A.BadText), (.ref A.BadPlaces), (.ref A.BadCount), (.ref A.TooLong), (.ref A.TooShort), (.ref A.NoText), (.ref A.BadPaper), (.ref A.BadLine), (.ref A.NotARoot), (.ref A.DeskError)] = some false
  j1_TooLong : PySem.W.kitAny K (.ref A.TooLong) [(.ref A.BadText), (.ref A.BadPlaces), (.ref A.BadCount), (.ref A.TooShort), (.ref A.NoText), (.ref A.BadPress), (.ref A.BadPaper), (.ref A.BadLine), (.ref A.NotARoot), (.ref A.DeskError)] = some false
  h_BadPress_BadPress : PySem.W.exmOne K (.ref A.BadPress) (.ref A.BadPress) = some true
  h_TooLong_BadPress : PySem.W.exmOne K (.ref A.TooLong) (.ref A.BadPress) = some false
  h_TooLong_TooLong : PySem.W.exmOne K (.ref A.TooLong) (.ref A.TooLong) = some true
abbrev Ok_BadPress___init__ (P : Program) (w : World) (K : PySem.W.Frag) (mg : Str → Option Value) (base : Heap) : Prop := ∃ C : Addr, ECF P w K mg base "BadPress" "index" C
def m_is_letter (a_sign : (List Nat)) : Bool :=
  ((decide ((a_sign.length : Int) = (1 : Int))) && ((leT ([97] : List Nat) a_sign) && (leT a_sign ([122] : List Nat))))
abbrev s_is_letter : Stmt := topS 22
abbrev N_is_letter : List Str := ["sign"]
theorem sc_is_letter : FnScope N_is_letter ["sign"] (defScope s_is_letter) := ⟨rfl, rfl, rfl, by decide +kernel, rfl, by decide +kernel, by decide +kernel⟩
abbrev Ok_is_letter (P : Program) (w : World) (K : PySem.W.Frag) (mg : Str → Option Value) (base : Heap) : Prop :=
  DefOk P w K mg base 1 "is_letter" 1 (spD (ι := (List Nat)) K (fun i => i.length ≤ 1000) (fun i => [.is i]) (fun i => .is (m_is_letter i)))
theorem ok_is_letter {P : Program} {w : World} {K : PySem.W.Frag} {mg : Str → Option Value} {base : Heap} {f : Addr} {fd : FuncData} (F : Fun K "is_letter" "is_letter" s_is_letter f fd) (hm : mg "is_letter" = some (.ref f)) (bd : Binds K fd ["sign"] []) (T : Bt mg)  : Ok_is_letter P w K mg base := by
  refine defOk (kk := 0) (R := Bool) F hm sc_is_letter bd _ _ (fun r => .is r) _ (fun _ => rfl) (fun i hp cdv A outer s H E hr => ?_)
  obtain ⟨a_sign, rfl⟩ : ∃ z, z = i := ⟨i, rfl⟩
  have hp : a_sign.length ≤ 1000 := hp
  show SX _ _ [.is a_sign] _ (m_is_letter a_sign)
  unfold m_is_letter
  exact sx_retI (mr := (fun r => r)) (rets_ret) rfl (px_and (px_eq (px_lenS T.len_ (px_var 0 rfl) (by first | omega | decide | exact Nat.le_trans (show _ ≤ 100000 by (first | omega | (simp only [lt, List.length_cons, List.length_nil, List.length_append, List.length_map, List.length_reverse, List.length_set, rangeI_length] at *; omega) | (simp only [lt, List.length_cons, List.length_nil, List.length_append, List.length_map, List.length_reverse, List.length_set, rangeI_length]; omega) | (simp only [repT_length, Int.reduceToNat, lt, List.length_cons, List.length_nil, List.length_append, List.length_map, List.length_reverse, List.length_set, rangeI_length]; omega))) (by decide))) px_int) (fun hb1_2 => (px_and1 (px_chain (leT ([97] : List Nat) a_sign) (leT a_sign ([122] : List Nat)) op_le_str op_le_str (isV_tx _) (isV_tx _) (isV_tx _) rs_le rs_le (px_str (x := ([97] : List Nat)) (by decide +kernel)) (px_var 0 rfl) (px_str (x := ([122] : List Nat)) (by decide +kernel))))))
theorem one_letter (c : Nat) : m_is_letter [c] = decide (97 ≤ c ∧ c ≤ 122) := by
  unfold m_is_letter
  rw [leT_one, leT_one]
  have e : decide ((([c] : List Nat).length : Int) = 1) = true := by simp
  rw [e, Bool.true_and]
  by_cases h1 : 97 ≤ c
  · by_cases h2 : c ≤ 122
    · simp [h1, h2]
    · simp [h2]
  · simp [h1]
def m__parts (a_rule : Rul) : (List Int) :=
  (if a_rule.isLtr = true then ([] : List Int) else 
  (if a_rule.isPair = true then ([a_rule.one, a_rule.two] : List Int) else ([a_rule.one] : List Int)))
abbrev s__parts : Stmt := topS 45
abbrev N__parts : List Str := ["rule"]
theorem sc__parts : FnScope N__parts ["rule"] (defScope s__parts) := ⟨rfl, rfl, rfl, by decide +kernel, rfl, by decide +kernel, by decide +kernel⟩
abbrev Ok__parts (P : Program) (w : World) (K : PySem.W.Frag) (mg : Str → Option Value) (base : Heap) : Prop :=
  DefOk P w K mg base 1 "_parts" 1 (spD (ι := Rul) K (fun i => True) (fun i => [.is i]) (fun i => .own (m__parts i)))
theorem ok__parts {P : Program} {w : World} {K : PySem.W.Frag} {mg : Str → Option Value} {base : Heap} {f : Addr} {fd : FuncData} (F : Fun K "_parts" "_parts" s__parts f fd) (hm : mg "_parts" = some (.ref f)) (bd : Binds K fd ["rule"] [])   : Ok__parts P w K mg base := by
  refine defOk (kk := 0) (R := (List Int)) F hm sc__parts bd _ _ (fun r => .own r) _ (fun _ => rfl) (fun i hp cdv A outer s H E hr => ?_)
  obtain ⟨a_rule, rfl⟩ : ∃ z, z = i := ⟨i, rfl⟩
  show SX _ _ [.is a_rule] _ (m__parts a_rule)
  unfold m__parts
  refine sx_if (tx_isLtr (px_var 0 rfl)) (fun hc1 => ?_) (fun hc1 => ?_)
  · try simp only [Bool.and_eq_true, Bool.or_eq_true, Bool.not_eq_true', Bool.and_eq_false_iff, Bool.or_eq_false_iff, Bool.not_eq_false', decide_eq_true_eq, decide_eq_false_iff_not, Classical.not_not] at hc1
    exact sx_retO (mr := (fun r => r)) (rets_ret) rfl (px_list ([] : List Int) ax_nil)
  · try simp only [Bool.and_eq_true, Bool.or_eq_true, Bool.not_eq_true', Bool.and_eq_false_iff, Bool.or_eq_false_iff, Bool.not_eq_false', decide_eq_true_eq, decide_eq_false_iff_not, Classical.not_not] at hc1
    refine sx_nil ?_
    exact sx_retR (rx_if (tx_isPair (px_var 0 rfl)) (fun hx2 => (rx_own (mr := (fun r => r)) (rets_ret) rfl (px_list ([a_rule.one, a_rule.two] : List Int) (ax_cons (px_ruOne (px_var 0 rfl) px_int (by first | assumption | exact rul_np (by assumption) | exact rul_nw (by assumption) | (simp only [Bool.and_eq_true, Bool.or_eq_true, Bool.not_eq_true', Bool.and_eq_false_iff, Bool.or_eq_false_iff, Bool.not_eq_false', decide_eq_true_eq, decide_eq_false_iff_not, Classical.not_not] at *; first | assumption | exact rul_np (by assumption) | exact rul_nw (by assumption) | simp_all))) (ax_cons (px_ruTwo (px_var 0 rfl) px_int (by first | assumption | exact rul_np (by assumption) | exact rul_nw (by assumption) | (simp only [Bool.and_eq_true, Bool.or_eq_true, Bool.not_eq_true', Bool.and_eq_false_iff, Bool.or_eq_false_iff, Bool.not_eq_false', decide_eq_true_eq, decide_eq_false_iff_not, Classical.not_not] at *; first | assumption | exact rul_np (by assumption) | exact rul_nw (by assumption) | simp_all))) ax_nil))))) (fun hx2 => (rx_own (mr := (fun r => r)) (rets_ret) rfl (px_list ([a_rule.one] : List Int) (ax_cons (px_ruOne (px_var 0 rfl) px_int (by first | assumption | exact rul_np (by assumption) | exact rul_nw (by assumption) | (simp only [Bool.and_eq_true, Bool.or_eq_true, Bool.not_eq_true', Bool.and_eq_false_iff, Bool.or_eq_false_iff, Bool.not_eq_false', decide_eq_true_eq, decide_eq_false_iff_not, Classical.not_not] at *; first | assumption | exact rul_np (by assumption) | exact rul_nw (by assumption) | simp_all))) ax_nil)))))
def m__is_rule (a_rule : Rul) (a_many : Int) : Bool :=
  (if a_rule.isLtr = true then (m_is_letter a_rule.let) else 
  forK (fun (s2 : Unit) (x2_part : Int) => (if (!((decide ((0 : Int) ≤ x2_part)) && (decide (x2_part < a_many)))) = true then .ret false else 
      .go ())) (() : Unit) (m__parts a_rule) (fun (s3 : Unit) => 
    (a_rule.isPair || ((decide ((2 : Int) ≤ a_rule.two)) && (decide (a_rule.two ≤ (128 : Int)))))) (fun r => r))
abbrev s__is_rule : Stmt := topS 44
abbrev N__is_rule : List Str := ["rule", "many", "part"]
theorem sc__is_rule : FnScope N__is_rule ["rule", "many"] (defScope s__is_rule) := ⟨rfl, rfl, rfl, by decide +kernel, rfl, by decide +kernel, by decide +kernel⟩
abbrev Ok__is_rule (P : Program) (w : World) (K : PySem.W.Frag) (mg : Str → Option Value) (base : Heap) : Prop :=
  DefOk P w K mg base 2 "_is_rule" 2 (spD (ι := Rul × Int) K (fun i => i.1.let.length ≤ 1000) (fun i => [.is i.1, .is i.2]) (fun i => .is (m__is_rule i.1 i.2)))
theorem ok__is_rule {P : Program} {w : World} {K : PySem.W.Frag} {mg : Str → Option Value} {base : Heap} {f : Addr} {fd : FuncData} (F : Fun K "_is_rule" "_is_rule" s__is_rule f fd) (hm : mg "_is_rule" = some (.ref f)) (bd : Binds K fd ["rule", "many"] [])  (C : Cs mg) (D_is_letter : Ok_is_letter P w K mg base) (D__parts : Ok__parts P w K mg base) : Ok__is_rule P w K mg base := by
  refine defOk (kk := 1) (R := Bool) F hm sc__is_rule bd _ _ (fun r => .is r) _ (fun _ => rfl) (fun i hp cdv A outer s H E hr => ?_)
  obtain ⟨a_rule, a_many⟩ := i
  have hp : a_rule.let.length ≤ 1000 := hp
  show SX _ _ [.is a_rule, .is a_many, .no] _ (m__is_rule a_rule a_many)
  unfold m__is_rule
  refine sx_if (tx_isLtr (px_var 0 rfl)) (fun hc1 => ?_) (fun hc1 => ?_)
  · try simp only [Bool.and_eq_true, Bool.or_eq_true, Bool.not_eq_true', Bool.and_eq_false_iff, Bool.or_eq_false_iff, Bool.not_eq_false', decide_eq_true_eq, decide_eq_false_iff_not, Classical.not_not] at hc1
    exact sx_retI (mr := (fun r => r)) (rets_ret) rfl (px_callS D_is_letter a_rule.let (by show (a_rule.let).length ≤ 1000; exact hp) (hr.mono (by decide)) (ax_cons (px_ruLet (px_var 0 rfl) px_int (by first | assumption | exact rul_np (by assumption) | exact rul_nw (by assumption) | (simp only [Bool.and_eq_true, Bool.or_eq_true, Bool.not_eq_true', Bool.and_eq_false_iff, Bool.or_eq_false_iff, Bool.not_eq_false', decide_eq_true_eq, decide_eq_false_iff_not, Classical.not_not] at *; first | assumption | exact rul_np (by assumption) | exact rul_nw (by assumption) | simp_all))) ax_nil) (.is .nil))
  · try simp only [Bool.and_eq_true, Bool.or_eq_true, Bool.not_eq_true', Bool.and_eq_false_iff, Bool.or_eq_false_iff, Bool.not_eq_false', decide_eq_true_eq, decide_eq_false_iff_not, Classical.not_not] at hc1
    refine sx_nil ?_
    refine sx_for 2 (fun (s2 : Unit) => [.is a_rule, .is a_many, .no]) (fun r => .is r) _ (() : Unit) (fun _ _ => True) (it_list (px_share (x := (m__parts a_rule)) (px_call D__parts a_rule (by trivial) (hr.mono (by decide)) (ax_cons (px_var 0 rfl) ax_nil) (.is .nil)))) (pg_name (i := 2) sc__is_rule.nd rfl (by first | exact Or.inl rfl | exact Or.inr rfl)) (.same (.same (.same .nil))) (trivial) (fun i2 s2 x2_part hx2 hI2 => ?_) (fun i2 s2 x2_part s2_ hx2 hI2 hs2 => ?_) (rets_ret) (fun s3 h3 => ?_)
    · have hm2 := List.mem_of_getElem? hx2
      refine sx_if (tx_not (tx_chain (decide ((0 : Int) ≤ x2_part)) (decide (x2_part < a_many)) op_le op_lt (isV_sc _) (isV_sc _) (isV_sc _) (fun _ _ q => ⟨_, _, rfl, rfl, q⟩) (fun _ _ q => ⟨_, _, rfl, rfl, q⟩) px_int (px_var 2 rfl) (px_var 1 rfl))) (fun hc4 => ?_) (fun hc4 => ?_)
      · try simp only [Bool.and_eq_true, Bool.or_eq_true, Bool.not_eq_true', Bool.and_eq_false_iff, Bool.or_eq_false_iff, Bool.not_eq_false', decide_eq_true_eq, decide_eq_false_iff_not, Classical.not_not] at hc4
        exact sx_retI (mr := Out.ret) (rets_out) rfl px_bool
      · try simp only [Bool.and_eq_true, Bool.or_eq_true, Bool.not_eq_true', Bool.and_eq_false_iff, Bool.or_eq_false_iff, Bool.not_eq_false', decide_eq_true_eq, decide_eq_false_iff_not, Classical.not_not] at hc4
        refine sx_nil ?_
        exact sx_nil (sx_endO (.same (.same (.drop .nil))))
    · have hm2 := List.mem_of_getElem? hx2
      exact trivial
    exact sx_retI (mr := (fun r => r)) (rets_ret) rfl (px_or (px_isPair (px_var 0 rfl)) (fun hb5_6 => (px_and1 (px_chain (decide ((2 : Int) ≤ a_rule.two)) (decide (a_rule.two ≤ (128 : Int))) op_le op_le (isV_sc _) (isV_sc _) (isV_sc _) (fun _ _ q => ⟨_, _, rfl, rfl, q⟩) (fun _ _ q => ⟨_, _, rfl, rfl, q⟩) px_int (px_ruTwo (px_var 0 rfl) px_int (by first | assumption | exact rul_np (by assumption) | exact rul_nw (by assumption) | (simp only [Bool.and_eq_true, Bool.or_eq_true, Bool.not_eq_true', Bool.and_eq_false_iff, Bool.or_eq_false_iff, Bool.not_eq_false', decide_eq_true_eq, decide_eq_false_iff_not, Classical.not_not] at *; first | assumption | exact rul_np (by assumption) | exact rul_nw (by assumption) | simp_all))) (px_globE C.c_MOST)))))
def m_check_form_rules (a_rules : (List Rul)) : Res Unit :=
  (if (!(!a_rules.isEmpty)) = true then (.error ⟨"BadPress", .int "index" (0 : Int)⟩) else 
  (if (decide ((a_rules.length : Int) > (256 : Int))) = true then (.error ⟨"TooLong", .no⟩) else 
    forK (fun (s3 : Unit) (x3_rule : (Int × Rul)) => (if (!(m__is_rule x3_rule.2 (a_rules.length : Int))) = true then (.ret (.error ⟨"BadPress", .int "index" x3_rule.1⟩)) else 
        .go ())) (() : Unit) (enumI a_rules) (fun (s4 : Unit) => 
      (.ok ())) (fun r => r)))
abbrev s_check_form_rules : Stmt := topS 42
abbrev N_check_form_rules : List Str := ["rules", "index", "rule"]
theorem sc_check_form_rules : FnScope N_check_form_rules ["rules"] (defScope s_check_form_rules) := ⟨rfl, rfl, rfl, by decide +kernel, rfl, by decide +kernel, by decide +kernel⟩
abbrev Ok_check_form_rules (P : Program) (w : World) (K : PySem.W.Frag) (mg : Str → Option Value) (base : Heap) : Prop :=
  DefOkX P w K mg base 3 "check_form_rules" 1 (spX (ι := (List Rul)) K mg (fun i => RulP i) (fun i => [.is i]) (fun r => .is r) (fun i => m_check_form_rules i))
theorem ok_check_form_rules {P : Program} {w : World} {K : PySem.W.Frag} {mg : Str → Option Value} {base : Heap} {f : Addr} {fd : FuncData} (F : Fun K "_check_form" "_check_form" s_check_form_rules f fd) (hm : mg "check_form_rules" = some (.ref f)) (bd : Binds K fd ["rules"] []) (T : Bt mg) (C : Cs mg) (D_BadPress___init__ : Ok_BadPress___init__ P w K mg base) (D__is_rule : Ok__is_rule P w K mg base) {A : EA} (R : Er K mg A) : Ok_check_form_rules P w K mg base := by
  refine defOkXU (kk := 2) F hm sc_check_form_rules bd _ _ _ (fun _ => rfl) (fun i hp cdv A outer s H E hr => ?_)
  obtain ⟨a_rules, rfl⟩ : ∃ z, z = i := ⟨i, rfl⟩
  have hp : RulP a_rules := hp
  have hp1 := hp.1
  show SX _ _ [.is a_rules, .no, .no] _ (m_check_form_rules a_rules)
  unfold m_check_form_rules
  refine sx_if (tx_not (tx_list (.is _) (px_var 0 rfl))) (fun hc1 => ?_) (fun hc1 => ?_)
  · try simp only [Bool.and_eq_true, Bool.or_eq_true, Bool.not_eq_true', Bool.and_eq_false_iff, Bool.or_eq_false_iff, Bool.not_eq_false', decide_eq_true_eq, decide_eq_false_iff_not, Classical.not_not] at hc1
    exact sx_raiseI (me := Except.error) errs_XU (takes_of rfl rfl rfl rfl) (Classical.choose_spec D_BadPress___init__) (hr.mono (by decide)) px_int
  · try simp only [Bool.and_eq_true, Bool.or_eq_true, Bool.not_eq_true', Bool.and_eq_false_iff, Bool.or_eq_false_iff, Bool.not_eq_false', decide_eq_true_eq, decide_eq_false_iff_not, Classical.not_not] at hc1
    refine sx_nil ?_
    refine sx_if (tx_gt (px_len (.is _) T.len_ (px_var 0 rfl)) (px_globE C.c_MOST_RULES)) (fun hc2 => ?_) (fun hc2 => ?_)
    · try simp only [Bool.and_eq_true, Bool.or_eq_true, Bool.not_eq_true', Bool.and_eq_false_iff, Bool.or_eq_false_iff, Bool.not_eq_false', decide_eq_true_eq, decide_eq_false_iff_not, Classical.not_not] at hc2
      exact sx_raise0 (me := Except.error) errs_XU (takes_of rfl rfl rfl rfl) R.e_TooLong
    · try simp only [Bool.and_eq_true, Bool.or_eq_true, Bool.not_eq_true', Bool.and_eq_false_iff, Bool.or_eq_false_iff, Bool.not_eq_false', decide_eq_true_eq, decide_eq_false_iff_not, Classical.not_not] at hc2
      refine sx_nil ?_
      refine sx_forGT (L0 := (LX _ _ (fun r => .is r) _)) (fun Γ (x : (Int × Rul)) => ((Γ.set 1 (.is x.1)).set 2 (.is x.2))) (fun (s3 : Unit) => [.is a_rules, .no, .no]) _ (() : Unit) (fun _ _ => True) (it_enum T.enumerate_ (px_var 0 rfl)) (gx_pair (gx_name 1 sc_check_form_rules.nd) (gx_name 2 sc_check_form_rules.nd)) (.same (.same (.same .nil))) (trivial) (fun i3 s3 x3_rule hx3 hI3 => ?_) (fun i3 s3 x3_rule s3_ hx3 hI3 hs3 => ?_) rts_XU (fun s4 h4 => ?_)
      · have hm3 := enumI_get hx3
        refine sx_if (tx_not (tx_val (px_callS D__is_rule (x3_rule.2, (a_rules.length : Int)) (by show (x3_rule.2).let.length ≤ 1000; exact hp.2 _ (List.mem_of_getElem? (enumI_get hx3).2)) (hr.mono (by decide)) (ax_cons (px_var 2 rfl) (ax_cons (px_len (.is _) T.len_ (px_var 0 rfl)) ax_nil)) (.is (.is .nil))))) (fun hc5 => ?_) (fun hc5 => ?_)
        · try simp only [Bool.and_eq_true, Bool.or_eq_true, Bool.not_eq_true', Bool.and_eq_false_iff, Bool.or_eq_false_iff, Bool.not_eq_false', decide_eq_true_eq, decide_eq_false_iff_not, Classical.not_not] at hc5
          exact sx_raiseI (me := (fun e => Out.ret (Except.error e))) (errs_outG errs_X) (takes_of rfl rfl rfl rfl) (Classical.choose_spec D_BadPress___init__) (hr.mono (by decide)) (px_var 1 rfl)
        · try simp only [Bool.and_eq_true, Bool.or_eq_true, Bool.not_eq_true', Bool.and_eq_false_iff, Bool.or_eq_false_iff, Bool.not_eq_false', decide_eq_true_eq, decide_eq_false_iff_not, Classical.not_not] at hc5
          refine sx_nil ?_
          exact sx_nil (sx_endG (.same (.drop (.drop .nil))))
      · have hm3 := enumI_get hx3
        exact trivial
      exact sx_nil sx_endXU
abbrev s_Rules___init__ : Stmt := inClass (topS 41) 0
abbrev N_Rules___init__ : List Str := ["self", "rules"]
theorem sc_Rules___init__ : FnScope N_Rules___init__ ["self", "rules"] (defScope s_Rules___init__) := ⟨rfl, rfl, rfl, by decide +kernel, rfl, by decide +kernel, by decide +kernel⟩
def m_Rules___init__ (i : List Rul) : Res RulD := exK (m_check_form_rules i) (fun e => .error e) (fun _ => .ok ⟨i⟩)
abbrev Ok_Rules___init__ (P : Program) (w : World) (K : PySem.W.Frag) (mg : Str → Option Value) (base : Heap) : Prop :=
  MakeOkX P w K mg base 4 "Rules" 2 (spIX (ι := List Rul) (α := RulD) K mg "Rules" (fun i => RulP i) (fun i => [.arg i]) (fun i => m_Rules___init__ i))
theorem ok_Rules___init__ {P : Program} {w : World} {K : PySem.W.Frag} {mg : Str → Option Value} {base : Heap} {f CC : Addr} {fd : FuncData} (F : Fun K "__init__" "Rules.__init__" s_Rules___init__ f fd) (KU : CKg K mg "Rules" ["rules"] CC) (M : Mk K CC f) (bd : Binds K fd ["self", "rules"] []) (T : Bt mg) (D_check_form_rules : Ok_check_form_rules P w K mg base) : Ok_Rules___init__ P w K mg base := by
  refine ⟨CC, f, fd, ["self", "rules"], KU.at', KU.mg', M, ?_, bd, rfl⟩
  refine F.okX (k := 3) sc_Rules___init__ (fun vs H Q E ⟨_, _, _, _, _, i, ws, e, _, _, _, _, _, _, _, l, _⟩ => by rw [e, List.length_cons, l]; rfl) fun cdv A outer s H vs Q E hr h => ?_
  refine ⟨wS _ (defBody s_Rules___init__), pssW, ?_⟩
  obtain ⟨x, dx, C, H0, Hd0, i, ws, rfl, eH, n1, n2, n3, hC, h1, hp, hl, ha, q⟩ := h
  have := clsAt_eq KU.at' hC
  subst this
  obtain ⟨v0, rfl⟩ : ∃ v0, ws = [v0] := match ws, hl with | [v0], _ => ⟨v0, rfl⟩
  have e0 : Ex H0 H := by
    rw [eH]
    exact (Ex.new n2).trans (Ex.new (by rw [upd_ne (fun z => n3 z.symm)]; exact n1))
  have hx : H x = some (.ins CC dx []) := by rw [eH]; exact upd_same
  have hd : Hd0 x = none := h1.ex.back n1
  have hh : HasE K (Hd0, H) H [] (L2.start N_Rules___init__ [.ref x, v0]) ([.no, .arg i] ++ List.replicate 0 .no) := start_has ⟨h1.ex.trans e0, h1.tab⟩ rfl rfl (fun p hp => by
    rcases List.mem_cons.mp hp with z | z
    · rw [z]; exact ⟨trivial, fun q => apart_no q⟩
    · obtain ⟨k1, k2⟩ := ha p z
      rw [List.mem_singleton.mp z] at k1 ⊢
      obtain ⟨a, us, m1, m2, m3, m4⟩ := k1
      exact ⟨⟨a, us, m1, (by rw [e0 _ _ m3]; exact fun q => nomatch q), e0 _ _ m3, m4⟩, fun q => apart_arg q⟩) (ps := ["self", "rules"])
  have hG : ∀ s ∈ ([.no, .arg i] ++ List.replicate 0 .no : List Sl), plainSlA s := fun s hs => by
    rcases List.mem_cons.mp hs with z | z
    · rw [z]; trivial
    · rcases List.mem_cons.mp z with z | z
      · rw [z]; trivial
      · cases z
  have hp' : RulP i := hp
  refine r0w ?_
  cases hc : m_check_form_rules i with
  | error e =>
    have em : m_Rules___init__ i = .error e := exK_er hc
    dsimp only at q
    rw [em] at q
    refine init_exprX (pxr_call (takes_of rfl rfl rfl rfl) D_check_form_rules i hp' hc (hr.mono (by decide)) (ax_cons (px_varO 1 (.arg _) rfl) ax_nil) (.lk (.bor _) .nil)) hh (fun cls d H' ex ie => q cls d H' (e0.trans ex) (ie.back e0))
  | ok u =>
    have em : m_Rules___init__ i = .ok ⟨i⟩ := exK_ok hc
    dsimp only at q
    rw [em] at q
    refine init_expr (px_callXS D_check_form_rules i hp' hc (hr.mono (by decide)) (ax_cons (px_varO 1 (.arg _) rfl) ax_nil) (.lk (.bor _) .nil)) hh (fun H1 e1 hh1 => ?_)
    refine init_storeA (H0 := H0) (x := x) (dx := dx) (C := CC) (fs := []) (y := Tup.mk i) (px_tupleof (.bor _) T.tuple_ (px_varO 1 (.arg _) rfl)) hG rfl (e1 _ _ hx) (by rw [hx]; exact fun z => nomatch z) hd n1 e0 KU.cl (KU.na _ List.mem_cons_self) (by decide) hh1 (fun v H2 Hd2 a1 a2 a3 a4 a5 hh2 => ?_)
    have hd2 : Hd2 x = none := a3 x hd (by rw [hx]; exact fun z => nomatch z)
    have a4 : H2 x = some (.ins CC dx [("rules", v)]) := a4
    refine goSs pss_nil ?_
    obtain ⟨_, Hd4, z1, z2, _⟩ := hh2
    have e3 : Ex Hd2 H2 := z1.ex.trans z2
    have e4 : Ex Hd2 (upd Hd2 x (.ins CC dx [("rules", v)])) := Ex.new hd2
    refine q H2 a2 ⟨upd Hd2 x (.ins CC dx [("rules", v)]), a1.trans e4, fun a u hu => ?_, fun a c1 c2 => ?_, ⟨x, CC, dx, v, rfl, hC, upd_same, Enc.mono e4 a5⟩⟩
    · by_cases z : a = x
      · subst z
        rw [upd_same] at hu
        injection hu with hu
        rw [← hu]
        exact a4
      · rw [upd_ne z] at hu
        exact e3 a u hu
    · have ne : a ≠ x := fun z => by
        subst z
        exact c2 n1
      rw [upd_ne ne]
      have g : ∀ {G : Hp}, Ex H0 G → G a ≠ none := fun e => e.there c2
      exact a3 a c1 (g e0)
theorem nodup_le {α : Type} [DecidableEq α] : ∀ {A B : List α}, A.Nodup → (∀ x ∈ A, x ∈ B) → A.length ≤ B.length
  | [], _, _, _ => Nat.zero_le _
  | a :: A, B, h, s => by
    have h := List.nodup_cons.mp h
    have hb := s a List.mem_cons_self
    have ih := nodup_le (B := B.erase a) h.2 fun x hx => (List.mem_erase_of_ne (fun e => by subst e; exact h.1 hx)).mpr (s x (List.mem_cons_of_mem _ hx))
    rw [List.length_erase_of_mem hb] at ih
    have := List.length_pos_of_mem hb
    rw [List.length_cons]
    omega
theorem rangeI_at (lo : Int) {n i : Nat} (h : i < n) : (rangeI lo n)[i]? = some (lo + (i : Int)) := by
  have hl : i < (rangeI lo n).length := by rw [rangeI_length]; exact h
  have e := List.getElem?_eq_getElem hl
  have := (rangeI_get e).2
  rw [e, this]
theorem ix_snoc {α : Type} [Inhabited α] (xs : List α) (x : α) : ix (xs ++ [x]) (-1) = x := by
  have h := lastIx (xs := xs ++ [x]) (by rw [List.length_append]; exact Nat.succ_pos _)
  rw [List.length_append, List.length_singleton, Nat.add_sub_cancel, List.getElem?_append_right (Nat.le_refl _), Nat.sub_self] at h
  injection h with h
  exact h.symm
def keysI {β : Type} (d : DctI β) : List Int := d.l.map fun q => q.1
theorem get_keys {β : Type} {d : DctI β} {k : Int} : (d.get? k).isSome = true ↔ k ∈ keysI d := by
  unfold DctI.get? keysI
  rw [Option.isSome_map, List.find?_isSome, List.mem_map]
  constructor
  · rintro ⟨p, hp, e⟩
    exact ⟨p, hp, of_decide_eq_true e⟩
  · rintro ⟨p, hp, e⟩
    exact ⟨p, hp, decide_eq_true e⟩
theorem keys_put {β : Type} {d : DctI β} {k : Int} {v : β} (h : k ∉ keysI d) : keysI (d.put k v) = keysI d ++ [k] := by
  unfold keysI DctI.put
  rw [if_neg]
  · show (d.l ++ [(k, v)]).map _ = _
    rw [List.map_append]
    rfl
  · rw [List.any_eq_true]
    rintro ⟨p, hp, e⟩
    exact h (List.mem_map.mpr ⟨p, hp, of_decide_eq_true e⟩)
theorem parts_is (r : Rul) : m__parts r = partsR r := by cases r <;> rfl
theorem parts_two (r : Rul) : (partsR r).length ≤ 2 := by cases r <;> simp [partsR]
def newS (s8 : (DctI Bool) × (List Int)) (x8_part : Int) : (DctI Bool) × (List Int) :=
  ((if (!(s8.1.get? x8_part).isSome) = true then (s8.1.put x8_part true, s8.2 ++ [x8_part]) else (s8.1, s8.2)).1, (if (!(s8.1.get? x8_part).isSome) = true then (s8.1.put x8_part true, s8.2 ++ [x8_part]) else (s8.1, s8.2)).2)
theorem fold_new : ∀ (ps : List Int) (d : DctI Bool) (w : List Int), (keysI d).Nodup → ∃ new, keysI (ps.foldl newS (d, w)).1 = keysI d ++ new ∧ (ps.foldl newS (d, w)).2 = w ++ new ∧ (∀ p ∈ ps, p ∈ keysI d ++ new) ∧ (∀ p ∈ new, p ∈ ps) ∧ (keysI d ++ new).Nodup ∧ new.length ≤ ps.length
  | [], d, w, h => ⟨[], (List.append_nil _).symm, (List.append_nil _).symm, fun p hp => (nomatch hp), fun p hp => (nomatch hp), by rw [List.append_nil]; exact h, Nat.le_refl _⟩
  | p :: ps, d, w, h => by
    rw [List.foldl_cons]
    by_cases c : p ∈ keysI d
    · have e : newS (d, w) p = (d, w) := by
        unfold newS
        rw [get_keys.mpr c]
        rfl
      rw [e]
      obtain ⟨new, a, b, f, g, i, j⟩ := fold_new ps d w h
      refine ⟨new, a, b, fun q hq => ?_, fun q hq => List.mem_cons_of_mem _ (g q hq), i, by rw [List.length_cons]; omega⟩
      rcases List.mem_cons.mp hq with z | z
      · rw [z]; exact List.mem_append_left _ c
      · exact f q z
    · have hs : (d.get? p).isSome = false := Bool.eq_false_iff.mpr fun z => c (get_keys.mp z)
      have e : newS (d, w) p = (d.put p true, w ++ [p]) := by
        unfold newS
        rw [hs]
        rfl
      rw [e]
      have ek := keys_put (v := true) c
      have hn : (keysI (d.put p true)).Nodup := by
        rw [ek]
        exact List.nodup_append.mpr ⟨h, List.pairwise_singleton _ _, fun a ha b hb z => c (by rw [List.mem_singleton.mp hb] at z; rw [← z]; exact ha)⟩
      obtain ⟨new, a, b, f, g, i, j⟩ := fold_new ps (d.put p true) (w ++ [p]) hn
      rw [ek, List.append_assoc] at a f i
      refine ⟨[p] ++ new, a, by rw [b, List.append_assoc], fun q hq => ?_, fun q hq => ?_, i, by rw [List.length_append, List.length_cons, List.length_cons, List.length_nil]; omega⟩
      · rcases List.mem_cons.mp hq with z | z
        · rw [z]; exact List.mem_append_right _ List.mem_cons_self
        · exact f q z
      · rcases List.mem_append.mp hq with z | z
        · rw [List.mem_singleton.mp z]; exact List.mem_cons_self
        · exact List.mem_cons_of_mem _ (g q z)
/-- reached from the last name -/
inductive Rch (rs : List Rul) : Int → Prop
  | last : Rch rs ((rs.length : Int) - 1)
  | step {q p : Int} : Rch rs q → p ∈ partsR (ix rs q) → Rch rs p
theorem rch_in {rs : List Rul} (h : GoodRu rs) {q : Int} (r : Rch rs q) : 0 ≤ q ∧ q < rs.length := by
  have h1 := h.1
  induction r with
  | last => omega
  | step a b ih => exact h.2.2 _ (List.mem_of_getElem? (ix_nn ih.1 ih.2)) _ b
def UsM (rs : List Rul) (s : (List Int) × (DctI Bool)) : Nat := 2 * (rs.length - (keysI s.2).length) + s.1.length
structure UsI (rs : List Rul) (s : (List Int) × (DctI Bool)) : Prop where
  few : UsM rs s ≤ 2 * rs.length
  nd : (keysI s.2).Nodup
  rch : ∀ q ∈ keysI s.2, Rch rs q
  last : ((rs.length : Int) - 1) ∈ keysI s.2
  wait : ∀ q ∈ s.1, q ∈ keysI s.2
  shut : ∀ q ∈ keysI s.2, q ∈ s.1 ∨ ∀ p ∈ partsR (ix rs q), p ∈ keysI s.2
theorem ks_few {rs : List Rul} (h : GoodRu rs) {l : List Int} (nd : l.Nodup) (r : ∀ q ∈ l, Rch rs q) : l.length ≤ rs.length := by
  have := nodup_le (B := rangeI 0 rs.length) nd fun q hq => by
    have := rch_in h (r q hq)
    exact mem_rangeI.mpr (by omega)
  rwa [rangeI_length] at this
theorem us_enough {rs : List Rul} (h : GoodRu rs) : UsM rs ([((Tup.mk rs).l.length : Int) - 1], (⟨[]⟩ : DctI Bool).put (((Tup.mk rs).l.length : Int) - 1) true) ≤ 2 * rs.length := by
  have ek : keysI ((⟨[]⟩ : DctI Bool).put (((Tup.mk rs).l.length : Int) - 1) true) = [(rs.length : Int) - 1] := keys_put (d := ⟨[]⟩) (fun z => nomatch z)
  unfold UsM
  rw [ek]
  have := h.1
  show 2 * (rs.length - 1) + 1 ≤ _
  omega
theorem us_start {rs : List Rul} (h : GoodRu rs) : UsI rs ([((Tup.mk rs).l.length : Int) - 1], (⟨[]⟩ : DctI Bool).put (((Tup.mk rs).l.length : Int) - 1) true) := by
  have ek : keysI ((⟨[]⟩ : DctI Bool).put (((Tup.mk rs).l.length : Int) - 1) true) = [(rs.length : Int) - 1] := keys_put (d := ⟨[]⟩) (fun z => nomatch z)
  refine ⟨us_enough h, by rw [ek]; exact List.pairwise_singleton _ _, fun q hq => ?_, by rw [ek]; exact List.mem_cons_self, fun q hq => by rw [ek]; exact hq, fun q hq => .inl (by rw [ek] at hq; exact hq)⟩
  rw [ek] at hq
  rw [List.mem_singleton.mp hq]
  exact .last
theorem us_bounds {rs : List Rul} (h : GoodRu rs) {s : (List Int) × (DctI Bool)} (hI : UsI rs s) : s.2.l.length ≤ 256 ∧ s.1.length ≤ 512 := by
  have k := ks_few h hI.nd hI.rch
  have f := hI.few
  have n := h.2.1
  unfold UsM at f
  unfold keysI at k f
  rw [List.length_map] at k f
  omega
theorem us_name {rs : List Rul} (h : GoodRu rs) {s : (List Int) × (DctI Bool)} (hI : UsI rs s) (hc : s.1.isEmpty = false) : 0 < s.1.length ∧ 0 ≤ ix s.1 (-1) ∧ ix s.1 (-1) < rs.length := by
  obtain ⟨w, d⟩ := s
  have hc : w.isEmpty = false := hc
  cases w with
  | nil => cases hc
  | cons a l =>
    have hm : ix (a :: l) (-1) ∈ (a :: l) := by
      obtain ⟨w0, q, e⟩ : ∃ w0 q, a :: l = w0 ++ [q] := by
        rcases List.eq_nil_or_concat (a :: l) with z | ⟨x, y, z⟩
        · cases z
        · exact ⟨x, y, by rw [z, List.concat_eq_append]⟩
      rw [e, ix_snoc]
      exact List.mem_append_right _ List.mem_cons_self
    have := rch_in h (hI.rch _ (hI.wait _ hm))
    exact ⟨Nat.succ_pos _, this⟩
theorem us_step {rs : List Rul} (h : GoodRu rs) {s : (List Int) × (DctI Bool)} (hI : UsI rs s) (hc : s.1.isEmpty = false) :
    UsI rs ((List.foldl newS (s.2, s.1.dropLast) (m__parts (ix (Tup.mk rs).l (ix s.1 (-1))))).2, (List.foldl newS (s.2, s.1.dropLast) (m__parts (ix (Tup.mk rs).l (ix s.1 (-1))))).1) ∧
    UsM rs ((List.foldl newS (s.2, s.1.dropLast) (m__parts (ix (Tup.mk rs).l (ix s.1 (-1))))).2, (List.foldl newS (s.2, s.1.dropLast) (m__parts (ix (Tup.mk rs).l (ix s.1 (-1))))).1) < UsM rs s := by
  obtain ⟨w, d⟩ := s
  obtain ⟨w0, q, ew⟩ : ∃ w0 q, w = w0 ++ [q] := by
    rcases List.eq_nil_or_concat w with z | ⟨a, b, z⟩
    · have hc : w.isEmpty = false := hc
      rw [z] at hc
      cases hc
    · exact ⟨a, b, by rw [z, List.concat_eq_append]⟩
  subst ew
  have e1 : ix (w0 ++ [q]) (-1) = q := ix_snoc w0 q
  dsimp only
  rw [List.dropLast_concat, e1, parts_is]
  have hq : q ∈ keysI d := hI.wait q (List.mem_append_right _ List.mem_cons_self)
  obtain ⟨new, a, b, f, g, i, j⟩ := fold_new (partsR (ix rs q)) d w0 hI.nd
  have hr : ∀ x ∈ keysI d ++ new, Rch rs x := fun x hx => by
    rcases List.mem_append.mp hx with z | z
    · exact hI.rch x z
    · exact .step (hI.rch q hq) (g x z)
  have lt_ : UsM rs ((List.foldl newS (d, w0) (partsR (ix rs q))).2, (List.foldl newS (d, w0) (partsR (ix rs q))).1) < UsM rs (w0 ++ [q], d) := by
    unfold UsM
    rw [a, b]
    have k1 := ks_few h i hr
    rw [List.length_append] at k1 ⊢
    show 2 * (rs.length - ((keysI d).length + new.length)) + (w0 ++ new).length < 2 * (rs.length - (keysI d).length) + (w0 ++ [q]).length
    rw [List.length_append, List.length_append, List.length_cons, List.length_nil]
    omega
  refine ⟨⟨Nat.le_trans (Nat.le_of_lt lt_) hI.few, by rw [a]; exact i, fun x hx => hr x (by rw [a] at hx; exact hx), by rw [a]; exact List.mem_append_left _ hI.last, fun x hx => ?_, fun x hx => ?_⟩, lt_⟩
  · rw [b] at hx
    rw [a]
    rcases List.mem_append.mp hx with z | z
    · exact List.mem_append_left _ (hI.wait x (List.mem_append_left _ z))
    · exact List.mem_append_right _ z
  · rw [a] at hx ⊢
    rw [b]
    rcases List.mem_append.mp hx with z | z
    · rcases hI.shut x z with y | y
      · rcases List.mem_append.mp y with v | v
        · exact .inl (List.mem_append_left _ v)
        · rw [List.mem_singleton.mp v]
          exact .inr f
      · exact .inr fun p hp => List.mem_append_left _ (y p hp)
    · exact .inl (List.mem_append_right _ z)
def m_Rules_used (a_self : RulD) : (List Int) :=
  lt (((Tup.mk a_self.rs).l.length : Int) - (1 : Int)) fun (v1_last : Int) => 
  lt ((⟨[]⟩ : (DctI Bool)).put v1_last true) fun (v2_seen : (DctI Bool)) => 
  lt ([v1_last] : List Int) fun (v3_waiting : (List Int)) => 
  lt (whF (fun (s4 : (List Int) × (DctI Bool)) => (!s4.1.isEmpty)) (fun (s4 : (List Int) × (DctI Bool)) => lt s4.1.dropLast fun (v6_waiting : (List Int)) => lt (ix s4.1 (-1)) fun (v7_name : Int) => 
    lt (List.foldl (fun (s8 : (DctI Bool) × (List Int)) (x8_part : Int) => lt (if (!(s8.1.get? x8_part).isSome) = true then lt (s8.1.put x8_part true) fun (v12_seen : (DctI Bool)) => 
        lt (s8.2 ++ [x8_part]) fun (v13_waiting : (List Int)) => 
        (v12_seen, v13_waiting) else (s8.1, s8.2) : (DctI Bool) × (List Int)) fun (s11 : (DctI Bool) × (List Int)) => 
      (s11.1, s11.2)) ((s4.2, v6_waiting) : (DctI Bool) × (List Int)) (m__parts (ix (Tup.mk a_self.rs).l v7_name))) fun (s9 : (DctI Bool) × (List Int)) => 
    (s9.2, s9.1)) ((2 * a_self.rs.length)) ((v3_waiting, v2_seen) : (List Int) × (DctI Bool))) fun (s5 : (List Int) × (DctI Bool)) => 
  (sortI (s5.2.l.map (fun q => q.1)))
abbrev s_Rules_used : Stmt := inClass (topS 41) 10
abbrev N_Rules_used : List Str := ["self", "last", "seen", "waiting", "name", "part"]
theorem sc_Rules_used : FnScope N_Rules_used ["self"] (defScope s_Rules_used) := ⟨rfl, rfl, rfl, by decide +kernel, rfl, by decide +kernel, by decide +kernel⟩
abbrev Ok_Rules_used (P : Program) (w : World) (K : PySem.W.Frag) (mg : Str → Option Value) (base : Heap) : Prop :=
  MethOk P w K mg base 2 "Rules" "used" 1 (spD (ι := RulD) K (fun i => GoodRu i.rs) (fun i => [.is i]) (fun i => .own (m_Rules_used i)))
theorem ok_Rules_used {P : Program} {w : World} {K : PySem.W.Frag} {mg : Str → Option Value} {base : Heap} {f CA : Addr} {fd : FuncData} (F : Fun K "used" "Rules.used" s_Rules_used f fd) (hC : ClsAt K "Rules" CA) (cc : Cls K CA) (hme : Meth K CA "used" f) (bd : Binds K fd ["self"] []) (T : Bt mg) (D__parts : Ok__parts P w K mg base) {CKU : Addr} (KU : CKg K mg "Rules" ["rules"] CKU) : Ok_Rules_used P w K mg base := by
  refine ⟨CA, f, fd, ["self"], hC, cc, hme, ?_, bd, rfl⟩
  refine defFn (kk := 1) (R := (List Int)) F sc_Rules_used _ _ (fun r => .own r) _ (fun _ => rfl) (fun i hp cdv A outer s H E hr => ?_)
  obtain ⟨a_self, rfl⟩ : ∃ z, z = i := ⟨i, rfl⟩
  have hp : GoodRu a_self.rs := hp
  have hn1 := hp.1
  have hn2 := hp.2.1
  show SX _ _ [.is a_self, .no, .no, .no, .no, .no] _ (m_Rules_used a_self)
  unfold m_Rules_used
  refine sx_set 1 (px_sub (px_lenT T.len_ (px_rules KU (px_var 0 rfl))) px_int) (fun v1_last h1 => ?_) sc_Rules_used.nd
  refine sx_newDI1 2 (px_var 1 rfl) px_bool (fun ad2 v2_seen h2 => ?_) sc_Rules_used.nd
  refine sx_setO 3 (px_list ([v1_last] : List Int) (ax_cons (px_var 1 rfl) ax_nil)) (fun v3_waiting h3 => ?_) sc_Rules_used.nd
  refine sx_while (fun (s4 : (List Int) × (DctI Bool)) => [.is a_self, .is v1_last, .gen [ad2] (DPhiI K ad2 s4.2), .own s4.1, .no, .no]) (fun (s4 : (List Int) × (DctI Bool)) => (!s4.1.isEmpty)) (fun (s4 : (List Int) × (DctI Bool)) => lt s4.1.dropLast fun (v6_waiting : (List Int)) => lt (ix s4.1 (-1)) fun (v7_name : Int) => 
    lt (List.foldl (fun (s8 : (DctI Bool) × (List Int)) (x8_part : Int) => lt (if (!(s8.1.get? x8_part).isSome) = true then lt (s8.1.put x8_part true) fun (v12_seen : (DctI Bool)) => 
        lt (s8.2 ++ [x8_part]) fun (v13_waiting : (List Int)) => 
        (v12_seen, v13_waiting) else (s8.1, s8.2) : (DctI Bool) × (List Int)) fun (s11 : (DctI Bool) × (List Int)) => 
      (s11.1, s11.2)) ((s4.2, v6_waiting) : (DctI Bool) × (List Int)) (m__parts (ix (Tup.mk a_self.rs).l v7_name))) fun (s9 : (DctI Bool) × (List Int)) => 
    (s9.2, s9.1)) ((2 * a_self.rs.length)) ((v3_waiting, v2_seen) : (List Int) × (DctI Bool)) (fun s => UsI a_self.rs s) (fun s => UsM a_self.rs s) (.same (.same (.same (.same (.same (.same .nil)))))) (by rw [h3, h2, h1]; exact us_start hp) (by rw [h3, h2, h1]; exact us_enough hp) (fun s4 hI4 => ?_) (fun s4 hI4 hc4 => ?_) (fun s4 hI4 hc4 => ?_) (fun s5 h5 hI5 hc5 => ?_)
  · have hW := hI4
    exact (tx_list (.bor _) (px_varO 3 (.own _) rfl))
  · try simp only [Bool.and_eq_true, Bool.or_eq_true, Bool.not_eq_true', Bool.and_eq_false_iff, Bool.or_eq_false_iff, Bool.not_eq_false', decide_eq_true_eq, decide_eq_false_iff_not, Classical.not_not] at hc4
    have hW := hI4
    have hWb := us_bounds hp hW
    have hWn := us_name hp hW hc4
    refine sx_pop 3 4 rfl (by omega) (fun v6_waiting v7_name h6 h7 => ?_) sc_Rules_used.nd
    have hnm := hWn.2
    rw [← h7] at hnm
    refine sx_forF 5 (fun (s8 : (DctI Bool) × (List Int)) => [.is a_self, .is v1_last, .gen [ad2] (DPhiI K ad2 s8.1), .own s8.2, .is v7_name, .no]) _ ((s4.2, v6_waiting) : (DctI Bool) × (List Int)) (fun i s => s.1.l.length ≤ s4.2.l.length + i ∧ s.2.length ≤ s4.1.length + i) (it_list (px_share (x := (m__parts (ix (Tup.mk a_self.rs).l v7_name))) (px_call D__parts (ix (Tup.mk a_self.rs).l v7_name) (by trivial) (hr.mono (by decide)) (ax_cons (px_ixT (px_rules KU (px_var 0 rfl)) (px_var 4 rfl) (by first | (constructor <;> omega) | (have tc_ := tc (by first | assumption | exact Bool.eq_false_iff.mpr (by assumption)); constructor <;> omega) | (have tp_ := tp (by assumption); constructor <;> omega) | (simp only [Bool.and_eq_true, Bool.or_eq_true, Bool.not_eq_true', Bool.and_eq_false_iff, Bool.or_eq_false_iff, Bool.not_eq_false', decide_eq_true_eq, decide_eq_false_iff_not, Classical.not_not] at *; constructor <;> omega) | (simp only [Bool.and_eq_true, Bool.or_eq_true, Bool.not_eq_true', Bool.and_eq_false_iff, Bool.or_eq_false_iff, Bool.not_eq_false', decide_eq_true_eq, decide_eq_false_iff_not, Classical.not_not, lt, List.length_cons, List.length_nil, List.length_append, List.length_map, List.length_reverse, List.length_set, rangeI_length] at *; constructor <;> omega))) ax_nil) (.is .nil)))) (pg_name (i := 5) sc_Rules_used.nd rfl (by first | exact Or.inl rfl | exact Or.inr rfl)) (.same (.same (.same (.same (.same (.same .nil)))))) (⟨Nat.le_refl _, by { show v6_waiting.length ≤ _; rw [h6, List.length_dropLast]; omega }⟩) (fun i8 s8 x8_part hx8 hI8 => ?_) (fun i8 s8 x8_part hx8 hI8 => ?_) (fun s9 h9 hI9 => ?_)
    · have hm8 := List.mem_of_getElem? hx8
      have hI8 := hI8
      have hil := (List.getElem?_eq_some_iff.mp hx8).1
      rw [parts_is] at hil
      have hpt := parts_two (ix (Tup.mk a_self.rs).l v7_name)
      refine sx_ifj (fun (s11 : (DctI Bool) × (List Int)) => [.is a_self, .is v1_last, .gen [ad2] (DPhiI K ad2 s11.1), .own s11.2, .is v7_name, .is x8_part]) (tx_niDI 2 rfl hr.units (px_var 5 rfl)) (fun hc11 => ?_) (fun hc11 => ?_) (fun s11 h11 => ?_)
      · try simp only [Bool.and_eq_true, Bool.or_eq_true, Bool.not_eq_true', Bool.and_eq_false_iff, Bool.or_eq_false_iff, Bool.not_eq_false', decide_eq_true_eq, decide_eq_false_iff_not, Classical.not_not] at hc11
        refine sx_putDI 2 rfl hr.units px_bool (px_var 5 rfl) (by exact Nat.lt_of_le_of_lt (show _ ≤ 100000 by first | omega | (have tc_ := tc (by first | assumption | exact Bool.eq_false_iff.mpr (by assumption)); omega) | (have tp_ := tp (by assumption); omega) | (simp only [Bool.and_eq_true, Bool.or_eq_true, Bool.not_eq_true', Bool.and_eq_false_iff, Bool.or_eq_false_iff, Bool.not_eq_false', decide_eq_true_eq, decide_eq_false_iff_not, Classical.not_not] at *; omega) | (simp only [Bool.and_eq_true, Bool.or_eq_true, Bool.not_eq_true', Bool.and_eq_false_iff, Bool.or_eq_false_iff, Bool.not_eq_false', decide_eq_true_eq, decide_eq_false_iff_not, Classical.not_not, lt, List.length_cons, List.length_nil, List.length_append, List.length_map, List.length_reverse, List.length_set, rangeI_length] at *; omega)) (by decide)) (fun v12_seen h12 => ?_)
        refine sx_app 3 rfl (px_var 5 rfl) (by exact Nat.lt_of_le_of_lt (show _ ≤ 100000 by first | omega | (have tc_ := tc (by first | assumption | exact Bool.eq_false_iff.mpr (by assumption)); omega) | (have tp_ := tp (by assumption); omega) | (simp only [Bool.and_eq_true, Bool.or_eq_true, Bool.not_eq_true', Bool.and_eq_false_iff, Bool.or_eq_false_iff, Bool.not_eq_false', decide_eq_true_eq, decide_eq_false_iff_not, Classical.not_not] at *; omega) | (simp only [Bool.and_eq_true, Bool.or_eq_true, Bool.not_eq_true', Bool.and_eq_false_iff, Bool.or_eq_false_iff, Bool.not_eq_false', decide_eq_true_eq, decide_eq_false_iff_not, Classical.not_not, lt, List.length_cons, List.length_nil, List.length_append, List.length_map, List.length_reverse, List.length_set, rangeI_length] at *; omega)) (by decide)) (fun v13_waiting h13 => ?_)
        exact sx_nil (sx_endN (.same (.same (.same (.same (.same (.same .nil)))))))
      · try simp only [Bool.and_eq_true, Bool.or_eq_true, Bool.not_eq_true', Bool.and_eq_false_iff, Bool.or_eq_false_iff, Bool.not_eq_false', decide_eq_true_eq, decide_eq_false_iff_not, Classical.not_not] at hc11
        exact sx_nil (sx_endN (.same (.same (.same (.same (.same (.same .nil)))))))
      exact sx_nil (sx_endN (.same (.same (.same (.same (.same (.drop .nil)))))))
    · have hm8 := List.mem_of_getElem? hx8
      have hI8 := hI8
      have hil := (List.getElem?_eq_some_iff.mp hx8).1
      rw [parts_is] at hil
      have hpt := parts_two (ix (Tup.mk a_self.rs).l v7_name)
      (dsimp only [lt]; split <;> (try rw [List.length_append]) <;> (have := DctI.put_len s8.1 x8_part true; have := hI8.1; have := hI8.2; constructor <;> (simp only [List.length_append, List.length_cons, List.length_nil] <;> omega)))
    exact sx_nil (sx_endN (.same (.same (.same (.same (.drop (.same .nil)))))))
  · try simp only [Bool.and_eq_true, Bool.or_eq_true, Bool.not_eq_true', Bool.and_eq_false_iff, Bool.or_eq_false_iff, Bool.not_eq_false', decide_eq_true_eq, decide_eq_false_iff_not, Classical.not_not] at hc4
    have hW := hI4
    have hWb := us_bounds hp hW
    have hWn := us_name hp hW hc4
    (dsimp only [lt]; exact us_step hp hW hc4)
  try simp only [Bool.and_eq_true, Bool.or_eq_true, Bool.not_eq_true', Bool.and_eq_false_iff, Bool.or_eq_false_iff, Bool.not_eq_false', decide_eq_true_eq, decide_eq_false_iff_not, Classical.not_not] at hc5
  have hJ := hI5
  have hJb := us_bounds hp hJ
  refine sx_shareDI 2 rfl ?_
  exact sx_retO (mr := (fun r => r)) (rets_ret) rfl (px_sortedDI rfl T.sorted_ (px_var 2 rfl) (by omega))
def m_Rules_size (a_self : RulD) : Int :=
  ((m_Rules_used a_self).length : Int)
abbrev s_Rules_size : Stmt := inClass (topS 41) 4
abbrev N_Rules_size : List Str := ["self"]
theorem sc_Rules_size : FnScope N_Rules_size ["self"] (defScope s_Rules_size) := ⟨rfl, rfl, rfl, by decide +kernel, rfl, by decide +kernel, by decide +kernel⟩
abbrev Ok_Rules_size (P : Program) (w : World) (K : PySem.W.Frag) (mg : Str → Option Value) (base : Heap) : Prop :=
  MethOk P w K mg base 3 "Rules" "size" 1 (spD (ι := RulD) K (fun i => GoodRu i.rs) (fun i => [.is i]) (fun i => .is (m_Rules_size i)))
theorem ok_Rules_size {P : Program} {w : World} {K : PySem.W.Frag} {mg : Str → Option Value} {base : Heap} {f CA : Addr} {fd : FuncData} (F : Fun K "size" "Rules.size" s_Rules_size f fd) (hC : ClsAt K "Rules" CA) (cc : Cls K CA) (hme : Meth K CA "size" f) (bd : Binds K fd ["self"] []) (T : Bt mg) (D_Rules_used : Ok_Rules_used P w K mg base) : Ok_Rules_size P w K mg base := by
  refine ⟨CA, f, fd, ["self"], hC, cc, hme, ?_, bd, rfl⟩
  refine defFn (kk := 2) (R := Int) F sc_Rules_size _ _ (fun r => .is r) _ (fun _ => rfl) (fun i hp cdv A outer s H E hr => ?_)
  obtain ⟨a_self, rfl⟩ : ∃ z, z = i := ⟨i, rfl⟩
  have hp : GoodRu a_self.rs := hp
  show SX _ _ [.is a_self] _ (m_Rules_size a_self)
  unfold m_Rules_size
  exact sx_retI (mr := (fun r => r)) (rets_ret) rfl (px_len (.own _) T.len_ (px_meth0 D_Rules_used a_self (by show GoodRu (a_self).rs; first | omega | (have tc_ := tc (by first | assumption | exact Bool.eq_false_iff.mpr (by assumption)); omega) | (have tp_ := tp (by assumption); omega) | (simp only [Bool.and_eq_true, Bool.or_eq_true, Bool.not_eq_true', Bool.and_eq_false_iff, Bool.or_eq_false_iff, Bool.not_eq_false', decide_eq_true_eq, decide_eq_false_iff_not, Classical.not_not] at *; omega) | (simp only [Bool.and_eq_true, Bool.or_eq_true, Bool.not_eq_true', Bool.and_eq_false_iff, Bool.or_eq_false_iff, Bool.not_eq_false', decide_eq_true_eq, decide_eq_false_iff_not, Classical.not_not, lt, List.length_cons, List.length_nil, List.length_append, List.length_map, List.length_reverse, List.length_set, rangeI_length] at *; omega)) (hr.mono (by decide)) rfl (px_var 0 rfl)))
def m__law_sign (a_number : Int) : (List Nat) :=
  lt ([32, 33, 34, 35, 36, 38, 39, 40, 41, 42, 43, 44, 45, 46, 47, 48, 49, 50, 51, 52, 53, 54, 55, 56, 57, 58, 59, 60, 61, 62, 63, 64, 65, 66, 67, 68, 69, 70, 71, 72, 73, 74, 75, 76, 77, 78, 79, 80, 81, 82, 83, 84, 85, 86, 87, 88, 89, 90, 91, 92, 93, 94, 95, 96] : List Nat) fun (v1_signs : (List Nat)) => 
  lt (v1_signs ++ ([97, 98, 99, 100, 101, 102, 103, 104, 105, 106, 107, 108, 109, 110, 111, 112, 113, 114, 115, 116, 117, 118, 119, 120, 121, 122, 123, 124, 125, 126, 10, 9] : List Nat)) fun (v2_signs : (List Nat)) => 
  [ix v2_signs (a_number % (96 : Int))]
abbrev s__law_sign : Stmt := topS 65
abbrev N__law_sign : List Str := ["number", "signs"]
theorem sc__law_sign : FnScope N__law_sign ["number"] (defScope s__law_sign) := ⟨rfl, rfl, rfl, by decide +kernel, rfl, by decide +kernel, by decide +kernel⟩
abbrev Ok__law_sign (P : Program) (w : World) (K : PySem.W.Frag) (mg : Str → Option Value) (base : Heap) : Prop :=
  DefOk P w K mg base 1 "_law_sign" 1 (spD (ι := Int) K (fun i => True) (fun i => [.is i]) (fun i => .is (m__law_sign i)))
theorem ok__law_sign {P : Program} {w : World} {K : PySem.W.Frag} {mg : Str → Option Value} {base : Heap} {f : Addr} {fd : FuncData} (F : Fun K "_law_sign" "_law_sign" s__law_sign f fd) (hm : mg "_law_sign" = some (.ref f)) (bd : Binds K fd ["number"] []) (T : Bt mg)  : Ok__law_sign P w K mg base := by
  refine defOk (kk := 0) (R := (List Nat)) F hm sc__law_sign bd _ _ (fun r => .is r) _ (fun _ => rfl) (fun i hp cdv A outer s H E hr => ?_)
  obtain ⟨a_number, rfl⟩ : ∃ z, z = i := ⟨i, rfl⟩
  show SX _ _ [.is a_number, .no] _ (m__law_sign a_number)
  unfold m__law_sign
  refine sx_set 1 (px_str (x := ([32, 33, 34, 35, 36, 38, 39, 40, 41, 42, 43, 44, 45, 46, 47, 48, 49, 50, 51, 52, 53, 54, 55, 56, 57, 58, 59, 60, 61, 62, 63, 64, 65, 66, 67, 68, 69, 70, 71, 72, 73, 74, 75, 76, 77, 78, 79, 80, 81, 82, 83, 84, 85, 86, 87, 88, 89, 90, 91, 92, 93, 94, 95, 96] : List Nat)) (by decide +kernel)) (fun v1_signs h1 => ?_) sc__law_sign.nd
  have hl1 : v1_signs.length = 64 := by rw [h1]; rfl
  refine sx_set 1 (px_addS (px_var 1 rfl) (px_str (x := ([97, 98, 99, 100, 101, 102, 103, 104, 105, 106, 107, 108, 109, 110, 111, 112, 113, 114, 115, 116, 117, 118, 119, 120, 121, 122, 123, 124, 125, 126, 10, 9] : List Nat)) (by decide +kernel)) (by exact Nat.le_trans (show _ ≤ 100000 by (first | omega | (simp only [lt, List.length_cons, List.length_nil, List.length_append, List.length_map, List.length_reverse, List.length_set, rangeI_length]; omega))) (by decide))) (fun v2_signs h2 => ?_) sc__law_sign.nd
  have hl2 : v2_signs.length = 96 := by rw [h2, List.length_append, hl1]; rfl
  exact sx_retI (mr := (fun r => r)) (rets_ret) rfl (px_ixS (px_var 1 rfl) (px_mod (px_int1 T.int_ (px_var 0 rfl)) px_int (by first | omega | (have tc_ := tc (by first | assumption | exact Bool.eq_false_iff.mpr (by assumption)); omega) | (have tp_ := tp (by assumption); omega) | (simp only [Bool.and_eq_true, Bool.or_eq_true, Bool.not_eq_true', Bool.and_eq_false_iff, Bool.or_eq_false_iff, Bool.not_eq_false', decide_eq_true_eq, decide_eq_false_iff_not, Classical.not_not] at *; omega) | (simp only [Bool.and_eq_true, Bool.or_eq_true, Bool.not_eq_true', Bool.and_eq_false_iff, Bool.or_eq_false_iff, Bool.not_eq_false', decide_eq_true_eq, decide_eq_false_iff_not, Classical.not_not, lt, List.length_cons, List.length_nil, List.length_append, List.length_map, List.length_reverse, List.length_set, rangeI_length] at *; omega))) (by first | omega | decide | exact Nat.le_trans (show _ ≤ 100000 by (first | omega | (simp only [lt, List.length_cons, List.length_nil, List.length_append, List.length_map, List.length_reverse, List.length_set, rangeI_length] at *; omega) | (simp only [lt, List.length_cons, List.length_nil, List.length_append, List.length_map, List.length_reverse, List.length_set, rangeI_length]; omega) | (simp only [repT_length, Int.reduceToNat, lt, List.length_cons, List.length_nil, List.length_append, List.length_map, List.length_reverse, List.length_set, rangeI_length]; omega))) (by decide)) (by first | (constructor <;> omega) | (have tc_ := tc (by first | assumption | exact Bool.eq_false_iff.mpr (by assumption)); constructor <;> omega) | (have tp_ := tp (by assumption); constructor <;> omega) | (simp only [Bool.and_eq_true, Bool.or_eq_true, Bool.not_eq_true', Bool.and_eq_false_iff, Bool.or_eq_false_iff, Bool.not_eq_false', decide_eq_true_eq, decide_eq_false_iff_not, Classical.not_not] at *; constructor <;> omega) | (simp only [Bool.and_eq_true, Bool.or_eq_true, Bool.not_eq_true', Bool.and_eq_false_iff, Bool.or_eq_false_iff, Bool.not_eq_false', decide_eq_true_eq, decide_eq_false_iff_not, Classical.not_not, lt, List.length_cons, List.length_nil, List.length_append, List.length_map, List.length_reverse, List.length_set, rangeI_length] at *; constructor <;> omega)))
def m__law_parts (a_rule : Rul) : (List Int) :=
  (if a_rule.isPair = true then ([a_rule.one, a_rule.two] : List Int) else 
  (if a_rule.isPow = true then ([a_rule.one] : List Int) else 
    ([] : List Int)))
abbrev s__law_parts : Stmt := topS 61
abbrev N__law_parts : List Str := ["rule"]
theorem sc__law_parts : FnScope N__law_parts ["rule"] (defScope s__law_parts) := ⟨rfl, rfl, rfl, by decide +kernel, rfl, by decide +kernel, by decide +kernel⟩
abbrev Ok__law_parts (P : Program) (w : World) (K : PySem.W.Frag) (mg : Str → Option Value) (base : Heap) : Prop :=
  DefOk P w K mg base 1 "_law_parts" 1 (spD (ι := Rul) K (fun i => True) (fun i => [.is i]) (fun i => .own (m__law_parts i)))
theorem ok__law_parts {P : Program} {w : World} {K : PySem.W.Frag} {mg : Str → Option Value} {base : Heap} {f : Addr} {fd : FuncData} (F : Fun K "_law_parts" "_law_parts" s__law_parts f fd) (hm : mg "_law_parts" = some (.ref f)) (bd : Binds K fd ["rule"] [])   : Ok__law_parts P w K mg base := by
  refine defOk (kk := 0) (R := (List Int)) F hm sc__law_parts bd _ _ (fun r => .own r) _ (fun _ => rfl) (fun i hp cdv A outer s H E hr => ?_)
  obtain ⟨a_rule, rfl⟩ : ∃ z, z = i := ⟨i, rfl⟩
  show SX _ _ [.is a_rule] _ (m__law_parts a_rule)
  unfold m__law_parts
  refine sx_if (tx_isPair (px_var 0 rfl)) (fun hc1 => ?_) (fun hc1 => ?_)
  · try simp only [Bool.and_eq_true, Bool.or_eq_true, Bool.not_eq_true', Bool.and_eq_false_iff, Bool.or_eq_false_iff, Bool.not_eq_false', decide_eq_true_eq, decide_eq_false_iff_not, Classical.not_not] at hc1
    exact sx_retO (mr := (fun r => r)) (rets_ret) rfl (px_list ([a_rule.one, a_rule.two] : List Int) (ax_cons (px_ruOne (px_var 0 rfl) px_int (by first | assumption | exact rul_np (by assumption) | exact rul_nw (by assumption) | (simp only [Bool.and_eq_true, Bool.or_eq_true, Bool.not_eq_true', Bool.and_eq_false_iff, Bool.or_eq_false_iff, Bool.not_eq_false', decide_eq_true_eq, decide_eq_false_iff_not, Classical.not_not] at *; first | assumption | exact rul_np (by assumption) | exact rul_nw (by assumption) | simp_all))) (ax_cons (px_ruTwo (px_var 0 rfl) px_int (by first | assumption | exact rul_np (by assumption) | exact rul_nw (by assumption) | (simp only [Bool.and_eq_true, Bool.or_eq_true, Bool.not_eq_true', Bool.and_eq_false_iff, Bool.or_eq_false_iff, Bool.not_eq_false', decide_eq_true_eq, decide_eq_false_iff_not, Classical.not_not] at *; first | assumption | exact rul_np (by assumption) | exact rul_nw (by assumption) | simp_all))) ax_nil)))
  · try simp only [Bool.and_eq_true, Bool.or_eq_true, Bool.not_eq_true', Bool.and_eq_false_iff, Bool.or_eq_false_iff, Bool.not_eq_false', decide_eq_true_eq, decide_eq_false_iff_not, Classical.not_not] at hc1
    refine sx_nil ?_
    refine sx_if (tx_isPow (px_var 0 rfl)) (fun hc2 => ?_) (fun hc2 => ?_)
    · try simp only [Bool.and_eq_true, Bool.or_eq_true, Bool.not_eq_true', Bool.and_eq_false_iff, Bool.or_eq_false_iff, Bool.not_eq_false', decide_eq_true_eq, decide_eq_false_iff_not, Classical.not_not] at hc2
      exact sx_retO (mr := (fun r => r)) (rets_ret) rfl (px_list ([a_rule.one] : List Int) (ax_cons (px_ruOne (px_var 0 rfl) px_int (by first | assumption | exact rul_np (by assumption) | exact rul_nw (by assumption) | (simp only [Bool.and_eq_true, Bool.or_eq_true, Bool.not_eq_true', Bool.and_eq_false_iff, Bool.or_eq_false_iff, Bool.not_eq_false', decide_eq_true_eq, decide_eq_false_iff_not, Classical.not_not] at *; first | assumption | exact rul_np (by assumption) | exact rul_nw (by assumption) | simp_all))) ax_nil))
    · try simp only [Bool.and_eq_true, Bool.or_eq_true, Bool.not_eq_true', Bool.and_eq_false_iff, Bool.or_eq_false_iff, Bool.not_eq_false', decide_eq_true_eq, decide_eq_false_iff_not, Classical.not_not] at hc2
      refine sx_nil ?_
      exact sx_retO (mr := (fun r => r)) (rets_ret) rfl (px_list ([] : List Int) ax_nil)
theorem lparts_is (r : Rul) : m__law_parts r = partsR r := by cases r <;> rfl
theorem parts_pair {r : Rul} (h : r.isPair = true) : (partsR r).length = 2 := by
  cases r with
  | ltr c => cases h
  | pair a b => rfl
  | pow a n => cases h
theorem parts_pow {r : Rul} (h : r.isPow = true) : (partsR r).length = 1 := by
  cases r with
  | ltr c => cases h
  | pair a b => cases h
  | pow a n => rfl
def lenS (rs : List Rul) (s5 : List (Option Int)) (x5_k : Int) : List (Option Int) := 
    (if (!decide ((none : Option Int) ∈ ((m__law_parts (ix rs x5_k)).map (fun (c8_part : Int) => (ix s5 c8_part))))) = true then 
        (if (ix rs x5_k).isPow = true then (if (ix rs x5_k).isPair = true then (s5.set (x5_k).toNat (some (1 : Int) : Option Int)).set (x5_k).toNat (some (((ix ((m__law_parts (ix rs x5_k)).map (fun (c8_part : Int) => (ix s5 c8_part))) (0 : Int)).getD 0) + ((ix ((m__law_parts (ix rs x5_k)).map (fun (c8_part : Int) => (ix s5 c8_part))) (1 : Int)).getD 0)) : Option Int) else s5.set (x5_k).toNat (some (1 : Int) : Option Int)).set (x5_k).toNat (some (((ix ((m__law_parts (ix rs x5_k)).map (fun (c8_part : Int) => (ix s5 c8_part))) (0 : Int)).getD 0) * (ix rs x5_k).two) : Option Int) else (if (ix rs x5_k).isPair = true then (s5.set (x5_k).toNat (some (1 : Int) : Option Int)).set (x5_k).toNat (some (((ix ((m__law_parts (ix rs x5_k)).map (fun (c8_part : Int) => (ix s5 c8_part))) (0 : Int)).getD 0) + ((ix ((m__law_parts (ix rs x5_k)).map (fun (c8_part : Int) => (ix s5 c8_part))) (1 : Int)).getD 0)) : Option Int) else s5.set (x5_k).toNat (some (1 : Int) : Option Int))) else s5)
theorem lens_step {rs : List Rul} {s : List (Option Int)} {k : Int} (h : s.length = rs.length) : (lenS rs s k).length = rs.length := by
  unfold lenS
  split <;> (try split) <;> (try split) <;> (repeat rw [List.length_set]) <;> exact h
theorem lens_fold {rs : List Rul} {s : List (Option Int)} (h : s.length = rs.length) : ((rangeI 0 ((rs.length : Int)).toNat).foldl (fun (s5 : (List (Option Int))) (x5_k : Int) => lenS rs s5 x5_k) s).length = rs.length :=
  foldl_ix (fun _ (s : List (Option Int)) => s.length = rs.length) _ s (rangeI 0 ((rs.length : Int)).toNat) h fun _ _ _ _ hI => lens_step hI
def m__law_lengths (a_rules : (List Rul)) : (List (Option Int)) :=
  lt (a_rules.map (fun (c2_rule : Rul) => (none : Option Int))) fun (v1_sizes : (List (Option Int))) => 
  lt (List.foldl (fun (s3 : (List (Option Int))) (x3_turn : Int) => lt (List.foldl (fun (s5 : (List (Option Int))) (x5_k : Int) => lt ((m__law_parts (ix a_rules x5_k)).map (fun (c8_part : Int) => (ix s5 c8_part))) fun (v7_known : (List (Option Int))) => 
      lt (if (!decide ((none : Option Int) ∈ v7_known)) = true then lt (s5.set (x5_k).toNat (some (1 : Int) : Option Int)) fun (v11_sizes : (List (Option Int))) => 
        lt (if (ix a_rules x5_k).isPair = true then lt (v11_sizes.set (x5_k).toNat (some (((ix v7_known (0 : Int)).getD 0) + ((ix v7_known (1 : Int)).getD 0)) : Option Int)) fun (v14_sizes : (List (Option Int))) => 
          v14_sizes else v11_sizes : (List (Option Int))) fun (s13 : (List (Option Int))) => 
        lt (if (ix a_rules x5_k).isPow = true then lt (s13.set (x5_k).toNat (some (((ix v7_known (0 : Int)).getD 0) * (ix a_rules x5_k).two) : Option Int)) fun (v17_sizes : (List (Option Int))) => 
          v17_sizes else s13 : (List (Option Int))) fun (s16 : (List (Option Int))) => 
        s16 else s5 : (List (Option Int))) fun (s10 : (List (Option Int))) => 
      s10) (s3 : (List (Option Int))) (rangeI 0 ((a_rules.length : Int)).toNat)) fun (s6 : (List (Option Int))) => 
    s6) (v1_sizes : (List (Option Int))) (rangeI 0 ((a_rules.length : Int)).toNat)) fun (s4 : (List (Option Int))) => 
  s4
abbrev s__law_lengths : Stmt := topS 62
abbrev N__law_lengths : List Str := ["rules", "sizes", "turn", "k", "rule", "known", "part"]
theorem sc__law_lengths : FnScope N__law_lengths ["rules"] (defScope s__law_lengths) := ⟨rfl, rfl, rfl, by decide +kernel, rfl, by decide +kernel, by decide +kernel⟩
abbrev Ok__law_lengths (P : Program) (w : World) (K : PySem.W.Frag) (mg : Str → Option Value) (base : Heap) : Prop :=
  DefOk P w K mg base 2 "_law_lengths" 1 (spD (ι := (List Rul)) K (fun i => PartsIn i ∧ i.length ≤ 64 ∧ ∀ p ∈ i, -1000 ≤ p.two ∧ p.two ≤ 1000) (fun i => [.is i]) (fun i => .own (m__law_lengths i)))
theorem ok__law_lengths {P : Program} {w : World} {K : PySem.W.Frag} {mg : Str → Option Value} {base : Heap} {f : Addr} {fd : FuncData} (F : Fun K "_law_lengths" "_law_lengths" s__law_lengths f fd) (hm : mg "_law_lengths" = some (.ref f)) (bd : Binds K fd ["rules"] []) (T : Bt mg) (D__law_parts : Ok__law_parts P w K mg base) : Ok__law_lengths P w K mg base := by
  refine defOk (kk := 1) (R := (List (Option Int))) F hm sc__law_lengths bd _ _ (fun r => .own r) _ (fun _ => rfl) (fun i hp cdv A outer s H E hr => ?_)
  obtain ⟨a_rules, rfl⟩ : ∃ z, z = i := ⟨i, rfl⟩
  have hp : PartsIn a_rules ∧ a_rules.length ≤ 64 ∧ ∀ p ∈ a_rules, -1000 ≤ p.two ∧ p.two ≤ 1000 := hp
  obtain ⟨hp1, hp2, hp3⟩ := id hp
  show SX _ _ [.is a_rules, .no, .no, .no, .no, .no, .no] _ (m__law_lengths a_rules)
  unfold m__law_lengths
  refine sx_setO 1 (px_lc0  4 (fun (c2_rule : Rul) => (none : Option Int)) (IX.b (it_list (px_var 0 rfl))) id (fun _ _ _ _ _ => pg_name (i := 4) sc__law_lengths.nd rfl (by first | exact Or.inl rfl | exact Or.inr rfl)) (blkOk_by (own := [("rule", 4)]) (N := N__law_lengths) (sc := defScope s__law_lengths) (by decide +kernel)) sc__law_lengths.nd rfl (fun i2 c2_rule hx2 _ _ _ _ _ => by
      exact (px_noneO px_none))) (fun v1_sizes h1 => ?_) sc__law_lengths.nd
  have hz1 : v1_sizes.length = a_rules.length := by rw [h1, List.length_map]
  refine sx_forF 2 (fun (s3 : (List (Option Int))) => [.is a_rules, .own s3, .no, .no, .no, .no, .no]) _ (v1_sizes : (List (Option Int))) (fun i (s : List (Option Int)) => s.length = a_rules.length) (it_range1 T.range_ (px_len (.is _) T.len_ (px_var 0 rfl)) (by first | (constructor <;> omega) | (have tc_ := tc (by first | assumption | exact Bool.eq_false_iff.mpr (by assumption)); constructor <;> omega) | (have tp_ := tp (by assumption); constructor <;> omega) | (simp only [Bool.and_eq_true, Bool.or_eq_true, Bool.not_eq_true', Bool.and_eq_false_iff, Bool.or_eq_false_iff, Bool.not_eq_false', decide_eq_true_eq, decide_eq_false_iff_not, Classical.not_not] at *; constructor <;> omega) | (simp only [Bool.and_eq_true, Bool.or_eq_true, Bool.not_eq_true', Bool.and_eq_false_iff, Bool.or_eq_false_iff, Bool.not_eq_false', decide_eq_true_eq, decide_eq_false_iff_not, Classical.not_not, lt, List.length_cons, List.length_nil, List.length_append, List.length_map, List.length_reverse, List.length_set, rangeI_length] at *; constructor <;> omega))) (pg_name (i := 2) sc__law_lengths.nd rfl (by first | exact Or.inl rfl | exact Or.inr rfl)) (.same (.same (.same (.same (.same (.same (.same .nil))))))) (by exact hz1) (fun i3 s3 x3_turn hx3 hI3 => ?_) (fun i3 s3 x3_turn hx3 hI3 => ?_) (fun s4 h4 hI4 => ?_)
  · have hr3 := rangeI_get hx3
    have hI3 := hI3
    refine sx_forF 3 (fun (s5 : (List (Option Int))) => [.is a_rules, .own s5, .is x3_turn, .no, .no, .no, .no]) _ (s3 : (List (Option Int))) (fun i (s : List (Option Int)) => s.length = a_rules.length) (it_range1 T.range_ (px_len (.is _) T.len_ (px_var 0 rfl)) (by first | (constructor <;> omega) | (have tc_ := tc (by first | assumption | exact Bool.eq_false_iff.mpr (by assumption)); constructor <;> omega) | (have tp_ := tp (by assumption); constructor <;> omega) | (simp only [Bool.and_eq_true, Bool.or_eq_true, Bool.not_eq_true', Bool.and_eq_false_iff, Bool.or_eq_false_iff, Bool.not_eq_false', decide_eq_true_eq, decide_eq_false_iff_not, Classical.not_not] at *; constructor <;> omega) | (simp only [Bool.and_eq_true, Bool.or_eq_true, Bool.not_eq_true', Bool.and_eq_false_iff, Bool.or_eq_false_iff, Bool.not_eq_false', decide_eq_true_eq, decide_eq_false_iff_not, Classical.not_not, lt, List.length_cons, List.length_nil, List.length_append, List.length_map, List.length_reverse, List.length_set, rangeI_length] at *; constructor <;> omega))) (pg_name (i := 3) sc__law_lengths.nd rfl (by first | exact Or.inl rfl | exact Or.inr rfl)) (.same (.same (.same (.same (.same (.same (.same .nil))))))) (by exact hI3) (fun i5 s5 x5_k hx5 hI5 => ?_) (fun i5 s5 x5_k hx5 hI5 => ?_) (fun s6 h6 hI6 => ?_)
    · have hr5 := rangeI_get hx5
      have hI5 := hI5
      have hil5 := (List.getElem?_eq_some_iff.mp hx5).1
      rw [rangeI_length] at hil5
      have hrg5 := rangeI_get hx5
      refine sx_setLc0 5 6 (fun (c8_part : Int) => (ix s5 c8_part)) (IX.b (it_list (px_share (x := (m__law_parts (ix a_rules x5_k))) (px_call D__law_parts (ix a_rules x5_k) (by trivial) (hr.mono (by decide)) (ax_cons (px_ixL (.is _) (px_var 0 rfl) (px_var 3 rfl) (by first | (constructor <;> omega) | (have tc_ := tc (by first | assumption | exact Bool.eq_false_iff.mpr (by assumption)); constructor <;> omega) | (have tp_ := tp (by assumption); constructor <;> omega) | (simp only [Bool.and_eq_true, Bool.or_eq_true, Bool.not_eq_true', Bool.and_eq_false_iff, Bool.or_eq_false_iff, Bool.not_eq_false', decide_eq_true_eq, decide_eq_false_iff_not, Classical.not_not] at *; constructor <;> omega) | (simp only [Bool.and_eq_true, Bool.or_eq_true, Bool.not_eq_true', Bool.and_eq_false_iff, Bool.or_eq_false_iff, Bool.not_eq_false', decide_eq_true_eq, decide_eq_false_iff_not, Classical.not_not, lt, List.length_cons, List.length_nil, List.length_append, List.length_map, List.length_reverse, List.length_set, rangeI_length] at *; constructor <;> omega))) ax_nil) (.is .nil))))) id (fun v7_known h7 => ?_) (fun _ _ _ _ _ => pg_name (i := 6) sc__law_lengths.nd rfl (by first | exact Or.inl rfl | exact Or.inr rfl)) (blkOk_by (own := [("part", 6)]) (N := N__law_lengths) (sc := defScope s__law_lengths) (by decide +kernel)) sc__law_lengths.nd rfl (fun i8 c8_part hx8 _ _ _ _ _ => by
      exact (px_ixL (.bor _) (px_varO 1 (.bor _) rfl) (px_var 6 rfl) (by have hm8 := List.mem_of_getElem? hx8; rw [lparts_is] at hm8; have q9 := hp1 _ (List.mem_of_getElem? (ix_nn (xs := a_rules) (i := x5_k) (by omega) (by omega))) _ hm8; constructor <;> omega))) (sw_true rfl rfl rfl (by decide +kernel))
      refine sx_share 5 rfl ?_
      have hk1 : v7_known.length = (partsR (ix a_rules x5_k)).length := by rw [h7, List.length_map, lparts_is]
      have hk2 := @parts_pair (ix a_rules x5_k)
      have hk2w := @parts_pow (ix a_rules x5_k)
      have hk3 := hp3 _ (List.mem_of_getElem? (ix_nn (xs := a_rules) (i := x5_k) (by omega) (by omega)))
      have hk4 : (none : Option Int) ∉ v7_known → ∀ i : Int, 0 ≤ i → i < v7_known.length → (ix v7_known i).isNone = false := fun q i i0 i1 => by { cases w : ix v7_known i with | none => (exact absurd (by rw [← w]; exact List.mem_of_getElem? (ix_nn i0 i1)) q) | some z => rfl }
      refine sx_ifj (fun (s10 : (List (Option Int))) => [.is a_rules, .own s10, .is x3_turn, .is x5_k, .no, .is v7_known, .no]) (tx_niQ (room_units65 hr) (by trivial) (by exact fun _ _ => trivial) (px_noneO px_none) (px_var 5 rfl)) (fun hc10 => ?_) (fun hc10 => ?_) (fun s10 h10 => ?_)
      · try simp only [Bool.and_eq_true, Bool.or_eq_true, Bool.not_eq_true', Bool.and_eq_false_iff, Bool.or_eq_false_iff, Bool.not_eq_false', decide_eq_true_eq, decide_eq_false_iff_not, Classical.not_not] at hc10
        refine sx_put 1 rfl (px_some px_int) (px_var 3 rfl) (by exact ixN_nn (by omega) (by omega)) (fun v11_sizes h11 => ?_)
        refine sx_ifj (fun (s13 : (List (Option Int))) => [.is a_rules, .own s13, .is x3_turn, .is x5_k, .no, .is v7_known, .no]) (tx_isPair (px_ixL (.is _) (px_var 0 rfl) (px_var 3 rfl) (by first | (constructor <;> omega) | (have tc_ := tc (by first | assumption | exact Bool.eq_false_iff.mpr (by assumption)); constructor <;> omega) | (have tp_ := tp (by assumption); constructor <;> omega) | (simp only [Bool.and_eq_true, Bool.or_eq_true, Bool.not_eq_true', Bool.and_eq_false_iff, Bool.or_eq_false_iff, Bool.not_eq_false', decide_eq_true_eq, decide_eq_false_iff_not, Classical.not_not] at *; constructor <;> omega) | (simp only [Bool.and_eq_true, Bool.or_eq_true, Bool.not_eq_true', Bool.and_eq_false_iff, Bool.or_eq_false_iff, Bool.not_eq_false', decide_eq_true_eq, decide_eq_false_iff_not, Classical.not_not, lt, List.length_cons, List.length_nil, List.length_append, List.length_map, List.length_reverse, List.length_set, rangeI_length] at *; constructor <;> omega)))) (fun hc13 => ?_) (fun hc13 => ?_) (fun s13 h13 => ?_)
        · try simp only [Bool.and_eq_true, Bool.or_eq_true, Bool.not_eq_true', Bool.and_eq_false_iff, Bool.or_eq_false_iff, Bool.not_eq_false', decide_eq_true_eq, decide_eq_false_iff_not, Classical.not_not] at hc13
          refine sx_put 1 rfl (px_some (px_add (px_un (px_ixL (.is _) (px_var 5 rfl) px_int (by have q := hk2 hc13; constructor <;> omega)) (by exact hk4 hc10 _ (by decide) (by have q := hk2 hc13; omega))) (px_un (px_ixL (.is _) (px_var 5 rfl) px_int (by have q := hk2 hc13; constructor <;> omega)) (by exact hk4 hc10 _ (by decide) (by have q := hk2 hc13; omega))))) (px_var 3 rfl) (by exact ixN_nn (by omega) (by rw [h11, List.length_set, hI5]; omega)) (fun v14_sizes h14 => ?_)
          exact sx_nil (sx_endN (.same (.same (.same (.same (.same (.same (.same .nil))))))))
        · try simp only [Bool.and_eq_true, Bool.or_eq_true, Bool.not_eq_true', Bool.and_eq_false_iff, Bool.or_eq_false_iff, Bool.not_eq_false', decide_eq_true_eq, decide_eq_false_iff_not, Classical.not_not] at hc13
          exact sx_nil (sx_endN (.same (.same (.same (.same (.same (.same (.same .nil))))))))
        refine sx_ifj (fun (s16 : (List (Option Int))) => [.is a_rules, .own s16, .is x3_turn, .is x5_k, .no, .is v7_known, .no]) (tx_isPow (px_ixL (.is _) (px_var 0 rfl) (px_var 3 rfl) (by first | (constructor <;> omega) | (have tc_ := tc (by first | assumption | exact Bool.eq_false_iff.mpr (by assumption)); constructor <;> omega) | (have tp_ := tp (by assumption); constructor <;> omega) | (simp only [Bool.and_eq_true, Bool.or_eq_true, Bool.not_eq_true', Bool.and_eq_false_iff, Bool.or_eq_false_iff, Bool.not_eq_false', decide_eq_true_eq, decide_eq_false_iff_not, Classical.not_not] at *; constructor <;> omega) | (simp only [Bool.and_eq_true, Bool.or_eq_true, Bool.not_eq_true', Bool.and_eq_false_iff, Bool.or_eq_false_iff, Bool.not_eq_false', decide_eq_true_eq, decide_eq_false_iff_not, Classical.not_not, lt, List.length_cons, List.length_nil, List.length_append, List.length_map, List.length_reverse, List.length_set, rangeI_length] at *; constructor <;> omega)))) (fun hc16 => ?_) (fun hc16 => ?_) (fun s16 h16 => ?_)
        · try simp only [Bool.and_eq_true, Bool.or_eq_true, Bool.not_eq_true', Bool.and_eq_false_iff, Bool.or_eq_false_iff, Bool.not_eq_false', decide_eq_true_eq, decide_eq_false_iff_not, Classical.not_not] at hc16
          refine sx_put 1 rfl (px_some (px_mul (px_un (px_ixL (.is _) (px_var 5 rfl) px_int (by have q := hk2w hc16; constructor <;> omega)) (by exact hk4 hc10 _ (by decide) (by have q := hk2w hc16; omega))) (px_ruTwo (px_ixL (.is _) (px_var 0 rfl) (px_var 3 rfl) (by first | (constructor <;> omega) | (have tc_ := tc (by first | assumption | exact Bool.eq_false_iff.mpr (by assumption)); constructor <;> omega) | (have tp_ := tp (by assumption); constructor <;> omega) | (simp only [Bool.and_eq_true, Bool.or_eq_true, Bool.not_eq_true', Bool.and_eq_false_iff, Bool.or_eq_false_iff, Bool.not_eq_false', decide_eq_true_eq, decide_eq_false_iff_not, Classical.not_not] at *; constructor <;> omega) | (simp only [Bool.and_eq_true, Bool.or_eq_true, Bool.not_eq_true', Bool.and_eq_false_iff, Bool.or_eq_false_iff, Bool.not_eq_false', decide_eq_true_eq, decide_eq_false_iff_not, Classical.not_not, lt, List.length_cons, List.length_nil, List.length_append, List.length_map, List.length_reverse, List.length_set, rangeI_length] at *; constructor <;> omega))) px_int (by first | assumption | exact rul_np (by assumption) | exact rul_nw (by assumption) | (simp only [Bool.and_eq_true, Bool.or_eq_true, Bool.not_eq_true', Bool.and_eq_false_iff, Bool.or_eq_false_iff, Bool.not_eq_false', decide_eq_true_eq, decide_eq_false_iff_not, Classical.not_not] at *; first | assumption | exact rul_np (by assumption) | exact rul_nw (by assumption) | simp_all))) (by first | exact .inl ⟨by omega, by omega⟩ | exact .inr ⟨by omega, by omega⟩))) (px_var 3 rfl) (by have hz : s13.length = a_rules.length := by { rw [h13]; (try dsimp only [lt]); split <;> simp only [h11, List.length_set, hI5] }; exact ixN_nn (by omega) (by omega)) (fun v17_sizes h17 => ?_)
          exact sx_nil (sx_endN (.same (.same (.same (.same (.same (.same (.same .nil))))))))
        · try simp only [Bool.and_eq_true, Bool.or_eq_true, Bool.not_eq_true', Bool.and_eq_false_iff, Bool.or_eq_false_iff, Bool.not_eq_false', decide_eq_true_eq, decide_eq_false_iff_not, Classical.not_not] at hc16
          exact sx_nil (sx_endN (.same (.same (.same (.same (.same (.same (.same .nil))))))))
        exact sx_nil (sx_endN (.same (.same (.same (.same (.same (.same (.same .nil))))))))
      · try simp only [Bool.and_eq_true, Bool.or_eq_true, Bool.not_eq_true', Bool.and_eq_false_iff, Bool.or_eq_false_iff, Bool.not_eq_false', decide_eq_true_eq, decide_eq_false_iff_not, Classical.not_not] at hc10
        exact sx_nil (sx_endN (.same (.same (.same (.same (.same (.same (.same .nil))))))))
      exact sx_nil (sx_endN (.same (.same (.same (.drop (.same (.drop (.same .nil))))))))
    · have hr5 := rangeI_get hx5
      have hI5 := hI5
      have hil5 := (List.getElem?_eq_some_iff.mp hx5).1
      rw [rangeI_length] at hil5
      have hrg5 := rangeI_get hx5
      (dsimp only [lt]; exact lens_step hI5)
    have hJ5 := hI6
    exact sx_nil (sx_endN (.same (.same (.drop (.same (.same (.same (.same .nil))))))))
  · have hr3 := rangeI_get hx3
    have hI3 := hI3
    (dsimp only [lt]; exact lens_fold hI3)
  have hJ3 := hI4
  exact sx_retV (mr := (fun r => r)) 1 rfl (rets_ret) rfl
def PP__law_lengths (a_rules : (List Rul)) (res : (List (Option Int))) : Prop := res.length = a_rules.length
theorem post__law_lengths (a_rules : (List Rul)) (hp : PartsIn a_rules ∧ a_rules.length ≤ 64 ∧ ∀ p ∈ a_rules, -1000 ≤ p.two ∧ p.two ≤ 1000) : PP__law_lengths a_rules (m__law_lengths a_rules) := by
  obtain ⟨hp1, hp2, hp3⟩ := id hp
  unfold m__law_lengths
  refine lt_ind (P := PP__law_lengths a_rules) fun v1_sizes h1 => ?_
  have hz1 : v1_sizes.length = a_rules.length := by rw [h1, List.length_map]
  refine lt_ind (P := PP__law_lengths a_rules) fun s4 h4 => ?_
  have hI4 := foldl_ix (fun i (s : List (Option Int)) => s.length = a_rules.length) ((fun (s3 : (List (Option Int))) (x3_turn : Int) => lt (List.foldl (fun (s5 : (List (Option Int))) (x5_k : Int) => lt ((m__law_parts (ix a_rules x5_k)).map (fun (c8_part : Int) => (ix s5 c8_part))) fun (v7_known : (List (Option Int))) => 
      lt (if (!decide ((none : Option Int) ∈ v7_known)) = true then lt (s5.set (x5_k).toNat (some (1 : Int) : Option Int)) fun (v11_sizes : (List (Option Int))) => 
        lt (if (ix a_rules x5_k).isPair = true then lt (v11_sizes.set (x5_k).toNat (some (((ix v7_known (0 : Int)).getD 0) + ((ix v7_known (1 : Int)).getD 0)) : Option Int)) fun (v14_sizes : (List (Option Int))) => 
          v14_sizes else v11_sizes : (List (Option Int))) fun (s13 : (List (Option Int))) => 
        lt (if (ix a_rules x5_k).isPow = true then lt (s13.set (x5_k).toNat (some (((ix v7_known (0 : Int)).getD 0) * (ix a_rules x5_k).two) : Option Int)) fun (v17_sizes : (List (Option Int))) => 
          v17_sizes else s13 : (List (Option Int))) fun (s16 : (List (Option Int))) => 
        s16 else s5 : (List (Option Int))) fun (s10 : (List (Option Int))) => 
      s10) (s3 : (List (Option Int))) (rangeI 0 ((a_rules.length : Int)).toNat)) fun (s6 : (List (Option Int))) => 
    s6)) (v1_sizes : (List (Option Int))) (rangeI 0 ((a_rules.length : Int)).toNat) (by exact hz1) (fun i3 s3 x3_turn hx3 hI3 => by
    have hr3 := rangeI_get hx3
    have hI3 := hI3
    ((dsimp only [lt]; exact lens_fold hI3)))
  rw [← h4] at hI4
  have hJ3 := hI4
  show (s4).length = a_rules.length
  first | first | omega | (have tc_ := tc (by first | assumption | exact Bool.eq_false_iff.mpr (by assumption)); omega) | (have tp_ := tp (by assumption); omega) | (simp only [Bool.and_eq_true, Bool.or_eq_true, Bool.not_eq_true', Bool.and_eq_false_iff, Bool.or_eq_false_iff, Bool.not_eq_false', decide_eq_true_eq, decide_eq_false_iff_not, Classical.not_not] at *; omega) | (simp only [Bool.and_eq_true, Bool.or_eq_true, Bool.not_eq_true', Bool.and_eq_false_iff, Bool.or_eq_false_iff, Bool.not_eq_false', decide_eq_true_eq, decide_eq_false_iff_not, Classical.not_not, lt, List.length_cons, List.length_nil, List.length_append, List.length_map, List.length_reverse, List.length_set, rangeI_length] at *; omega) | first | (constructor <;> omega) | (have tc_ := tc (by first | assumption | exact Bool.eq_false_iff.mpr (by assumption)); constructor <;> omega) | (have tp_ := tp (by assumption); constructor <;> omega) | (simp only [Bool.and_eq_true, Bool.or_eq_true, Bool.not_eq_true', Bool.and_eq_false_iff, Bool.or_eq_false_iff, Bool.not_eq_false', decide_eq_true_eq, decide_eq_false_iff_not, Classical.not_not] at *; constructor <;> omega) | (simp only [Bool.and_eq_true, Bool.or_eq_true, Bool.not_eq_true', Bool.and_eq_false_iff, Bool.or_eq_false_iff, Bool.not_eq_false', decide_eq_true_eq, decide_eq_false_iff_not, Classical.not_not, lt, List.length_cons, List.length_nil, List.length_append, List.length_map, List.length_reverse, List.length_set, rangeI_length] at *; constructor <;> omega) | (rw [List.length_map]; refine Nat.le_trans (List.length_filter_le _ _) ?_; (first | omega | (rw [rangeI_length]; omega))) | (refine ⟨?_, ?_, ?_⟩ <;> first | omega | (have tc_ := tc (by first | assumption | exact Bool.eq_false_iff.mpr (by assumption)); omega) | (have tp_ := tp (by assumption); omega) | (simp only [Bool.and_eq_true, Bool.or_eq_true, Bool.not_eq_true', Bool.and_eq_false_iff, Bool.or_eq_false_iff, Bool.not_eq_false', decide_eq_true_eq, decide_eq_false_iff_not, Classical.not_not] at *; omega) | (simp only [Bool.and_eq_true, Bool.or_eq_true, Bool.not_eq_true', Bool.and_eq_false_iff, Bool.or_eq_false_iff, Bool.not_eq_false', decide_eq_true_eq, decide_eq_false_iff_not, Classical.not_not, lt, List.length_cons, List.length_nil, List.length_append, List.length_map, List.length_reverse, List.length_set, rangeI_length] at *; omega))
theorem set_known {s : List (Option Int)} {k i v : Int} (h0 : 0 ≤ i) (h1 : i < s.length) (g0 : 0 ≤ k) (hn : i = k ∨ (ix s i).isNone = false) : (ix (s.set k.toNat (some v)) i).isNone = false := by
  have a := ix_nn (xs := s.set k.toNat (some v)) (i := i) h0 (by rw [List.length_set]; exact h1)
  by_cases e : k.toNat = i.toNat
  · rw [e, List.getElem?_set_self (by omega)] at a
    injection a with a
    rw [e, ← a]
    rfl
  · rw [List.getElem?_set_ne e, ix_nn h0 h1] at a
    injection a with a
    rw [← a]
    rcases hn with z | z
    · exact absurd (by rw [z]) e
    · exact z
theorem lenS_keep {rs : List Rul} {s : List (Option Int)} {k i : Int} (hl : s.length = rs.length) (g0 : 0 ≤ k) (h0 : 0 ≤ i) (h1 : i < rs.length) (h : (ix s i).isNone = false) : (ix (lenS rs s k) i).isNone = false := by
  have a : (ix (s.set k.toNat (some (1 : Int))) i).isNone = false := set_known h0 (by omega) g0 (.inr h)
  have l1 : (s.set k.toNat (some (1 : Int))).length = rs.length := by rw [List.length_set, hl]
  unfold lenS
  split
  · split
    · split
      · exact set_known h0 (by rw [List.length_set, l1]; exact h1) g0 (.inr (set_known h0 (by rw [l1]; exact h1) g0 (.inr a)))
      · exact set_known h0 (by rw [l1]; exact h1) g0 (.inr a)
    · split
      · exact set_known h0 (by rw [l1]; exact h1) g0 (.inr a)
      · exact a
  · exact h
theorem lenS_at {rs : List Rul} {s : List (Option Int)} {k : Int} (hl : s.length = rs.length) (g0 : 0 ≤ k) (g1 : k < rs.length) (h : (none : Option Int) ∉ (partsR (ix rs k)).map fun (c8_part : Int) => ix s c8_part) : (ix (lenS rs s k) k).isNone = false := by
  have a : (ix (s.set k.toNat (some (1 : Int))) k).isNone = false := set_known g0 (by omega) g0 (.inl rfl)
  have l1 : (s.set k.toNat (some (1 : Int))).length = rs.length := by rw [List.length_set, hl]
  unfold lenS
  rw [lparts_is, decide_eq_false h, if_pos (by decide)]
  split
  · split
    · exact set_known g0 (by rw [List.length_set, l1]; exact g1) g0 (.inl rfl)
    · exact set_known g0 (by rw [l1]; exact g1) g0 (.inl rfl)
  · split
    · exact set_known g0 (by rw [l1]; exact g1) g0 (.inl rfl)
    · exact a
def Early (rs : List Rul) : Prop := ∀ k : Int, 0 ≤ k → k < rs.length → ∀ q ∈ partsR (ix rs k), 0 ≤ q ∧ q < k
theorem lens_known {rs : List Rul} (he : Early rs) {i : Int} (h0 : 0 ≤ i) (h1 : i < rs.length) : (ix (m__law_lengths rs) i).isNone = false := by
  have inner : ∀ s : List (Option Int), s.length = rs.length → ((rangeI 0 ((rs.length : Int)).toNat).foldl (fun (s5 : (List (Option Int))) (x5_k : Int) => lenS rs s5 x5_k) s).length = rs.length ∧ ∀ j : Int, 0 ≤ j → j < rs.length → (ix ((rangeI 0 ((rs.length : Int)).toNat).foldl (fun (s5 : (List (Option Int))) (x5_k : Int) => lenS rs s5 x5_k) s) j).isNone = false := fun s hs => by
    have key := foldl_ix (fun n (t : List (Option Int)) => t.length = rs.length ∧ ∀ j : Int, 0 ≤ j → j < (n : Int) → (ix t j).isNone = false) (fun (s5 : (List (Option Int))) (x5_k : Int) => lenS rs s5 x5_k) s (rangeI 0 ((rs.length : Int)).toNat) ⟨hs, fun j a b => by omega⟩ (fun n t y hy ⟨a, b⟩ => by
      have hz := rangeI_get hy
      have ey : y = (n : Int) := by omega
      have hn : (n : Int) < rs.length := by omega
      subst ey
      refine ⟨lens_step a, fun j j0 j1 => ?_⟩
      by_cases e : j = (n : Int)
      · rw [e]
        refine lenS_at a (by omega) hn fun hm => ?_
        obtain ⟨q, hq, w⟩ := List.mem_map.mp hm
        have q1 := he _ (by omega) hn q hq
        have q2 := b q q1.1 q1.2
        rw [w] at q2
        cases q2
      · exact lenS_keep a (by omega) j0 (by omega) (b j j0 (by omega)))
    rw [rangeI_length] at key
    exact ⟨key.1, fun j a b => key.2 j a (by omega)⟩
  have key := foldl_ix (fun n (t : List (Option Int)) => t.length = rs.length ∧ (0 < n → ∀ j : Int, 0 ≤ j → j < rs.length → (ix t j).isNone = false)) (fun (s3 : (List (Option Int))) (x3_turn : Int) => (rangeI 0 ((rs.length : Int)).toNat).foldl (fun (s5 : (List (Option Int))) (x5_k : Int) => lenS rs s5 x5_k) s3) (rs.map fun (c2_rule : Rul) => (none : Option Int)) (rangeI 0 ((rs.length : Int)).toNat) ⟨by rw [List.length_map], fun z => absurd z (Nat.lt_irrefl 0)⟩ (fun n t y hy ⟨a, b⟩ => ⟨(inner t a).1, fun _ => (inner t a).2⟩)
  rw [rangeI_length] at key
  exact key.2 (by omega) i h0 h1
theorem one_five {v : List Int} {m k : Int} (hl : v.length = m.toNat * 5) (ha : ∀ (i x : Int), 0 ≤ i → i < ((m.toNat * 5 : Nat) : Int) → ([6, 3, 64, 64, 5] : List Int)[i.toNat % 5]? = some x → 0 ≤ ix v i ∧ ix v i < x) (h0 : 0 ≤ k) (h1 : k < m) :
    (sl v (some (5 * k)) (some (5 * k + 5))).length = 5 ∧ (0 ≤ ix (sl v (some (5 * k)) (some (5 * k + 5))) 0 ∧ ix (sl v (some (5 * k)) (some (5 * k + 5))) 0 < 6) ∧ (0 ≤ ix (sl v (some (5 * k)) (some (5 * k + 5))) 1 ∧ ix (sl v (some (5 * k)) (some (5 * k + 5))) 1 < 3) ∧ (0 ≤ ix (sl v (some (5 * k)) (some (5 * k + 5))) 4 ∧ ix (sl v (some (5 * k)) (some (5 * k + 5))) 4 < 5) := by
  have hb : 5 * k + 5 ≤ v.length := by rw [hl]; omega
  have el : (sl v (some (5 * k)) (some (5 * k + 5))).length = 5 := by
    rw [sl_mid (by omega) (by omega), List.length_take, List.length_drop]
    omega
  have key : ∀ j : Nat, j < 5 → ix (sl v (some (5 * k)) (some (5 * k + 5))) (j : Int) = ix v (5 * k + j) := fun j hj => by
    have a := ix_nn (xs := v) (i := 5 * k + j) (by omega) (by omega)
    have b := ix_nn (xs := sl v (some (5 * k)) (some (5 * k + 5))) (i := (j : Int)) (by omega) (by omega)
    rw [sl_mid (by omega) (by omega), List.getElem?_take_of_lt (by omega), List.getElem?_drop, show (5 * k).toNat + ((j : Int)).toNat = (5 * k + (j : Int)).toNat by omega, a] at b
    injection b with b
    rw [sl_mid (by omega) (by omega)]
    exact b.symm
  refine ⟨el, ?_, ?_, ?_⟩
  · have := key 0 (by decide)
    rw [show ((0 : Nat) : Int) = 0 from rfl] at this
    rw [this]
    exact ha _ 6 (by omega) (by omega) (by rw [show (5 * k + 0).toNat % 5 = 0 by omega]; rfl)
  · have := key 1 (by decide)
    rw [show ((1 : Nat) : Int) = 1 from rfl] at this
    rw [this]
    exact ha _ 3 (by omega) (by omega) (by rw [show (5 * k + 1).toNat % 5 = 1 by omega]; rfl)
  · have := key 4 (by decide)
    rw [show ((4 : Nat) : Int) = 4 from rfl] at this
    rw [this]
    exact ha _ 5 (by omega) (by omega) (by rw [show (5 * k + 4).toNat % 5 = 4 by omega]; rfl)
def RuI (wild : Bool) (n : Int) (p : Rul) : Prop := p.let.length ≤ 1 ∧ (-1000 ≤ p.two ∧ p.two ≤ 1000) ∧ (wild = false → ∀ q ∈ partsR p, 0 ≤ q ∧ q < n)
def RI (wild : Bool) (i : Nat) (s : List Rul) : Prop := s.length = i ∧ ∀ (j : Nat) (p : Rul), s[j]? = some p → RuI wild j p
def P15 (wild : Bool) (k : Int) (p : Int × Int) : Prop := (wild = false → 0 < k → (0 ≤ p.1 ∧ p.1 < k) ∧ 0 ≤ p.2 ∧ p.2 < k) ∧ 0 ≤ p.2 ∧ p.2 ≤ 10
theorem lr_ok {wild : Bool} {k many t3 o2 o3 : Int} (h0 : 0 ≤ k) (hk : k < many) (hm : many ≤ 10) : P15 wild k (if ((decide (k > (0 : Int))) && ((!wild) || (decide (t3 > (1 : Int))))) = true then ((k - (1 : Int)) - (o2 % (if (3 : Int) < k then (3 : Int) else k : Int)), o3 % k) else (o2 % many, o3 % many)) := by
  by_cases z : 0 < k
  · have m1 : 0 < (if (3 : Int) < k then (3 : Int) else k : Int) ∧ (if (3 : Int) < k then (3 : Int) else k : Int) ≤ k := by split <;> omega
    have a := emod_bd o2 m1.1
    have b := emod_bd o3 z
    have c := emod_bd o3 (show 0 < many by omega)
    split
    · exact ⟨fun _ _ => ⟨⟨by show 0 ≤ (k - 1) - _; omega, by show (k - 1) - _ < k; omega⟩, b.1, b.2⟩, b.1, by show o3 % k ≤ 10; omega⟩
    · rename_i q
      refine ⟨fun w _ => absurd ?_ q, c.1, by show o3 % many ≤ 10; omega⟩
      rw [w, decide_eq_true (show k > 0 from z)]
      rfl
  · have c := emod_bd o3 (show 0 < many by omega)
    rw [if_neg (by rw [decide_eq_false (show ¬ k > 0 from z), Bool.false_and]; exact Bool.false_ne_true)]
    exact ⟨fun _ y => absurd y z, c.1, by show o3 % many ≤ 10; omega⟩
theorem ru_ltr {wild : Bool} {n : Int} {x : List Nat} (h : x.length ≤ 1) : RuI wild n (.ltr x) := ⟨h, ⟨show (-1000 : Int) ≤ 0 by decide, show (0 : Int) ≤ 1000 by decide⟩, fun _ q hq => (nomatch hq)⟩
theorem ru_pair {wild x : Bool} {k : Int} {p : Int × Int} (h : P15 wild k p) (hc : (x && (wild || decide (k > (0 : Int)))) = true) : RuI wild k (.pair p.1 p.2) := by
  refine ⟨Nat.zero_le _, ⟨by show -1000 ≤ p.2; have := h.2; omega, by show p.2 ≤ 1000; have := h.2; omega⟩, fun w q hq => ?_⟩
  rw [w, Bool.false_or, Bool.and_eq_true, decide_eq_true_eq] at hc
  have l := h.1 w hc.2
  have hq : q ∈ [p.1, p.2] := hq
  rcases List.mem_cons.mp hq with z | z
  · omega
  · have := List.mem_singleton.mp z
    omega
theorem ru_pow {wild x : Bool} {k t : Int} {p : Int × Int} (h : P15 wild k p) (ht : 0 ≤ t ∧ t ≤ 128) (hc : (x && (wild || decide (k > (0 : Int)))) = true) : RuI wild k (.pow p.1 t) := by
  refine ⟨Nat.zero_le _, ⟨by show -1000 ≤ t; omega, by show t ≤ 1000; omega⟩, fun w q hq => ?_⟩
  rw [w, Bool.false_or, Bool.and_eq_true, decide_eq_true_eq] at hc
  have l := h.1 w hc.2
  have hq : q ∈ [p.1] := hq
  have := List.mem_singleton.mp hq
  omega
theorem tm_ok {wild : Bool} {o v : Int} (hv : 0 ≤ v ∧ v ≤ 128) : 0 ≤ (if (!wild) = true then (2 : Int) + (o % (4 : Int)) else v : Int) ∧ (if (!wild) = true then (2 : Int) + (o % (4 : Int)) else v : Int) ≤ 128 := by
  have := emod_bd o (show (0 : Int) < 4 by decide)
  split <;> omega
theorem ri_snoc {wild : Bool} {i : Nat} {k : Int} (hk : k = (i : Int)) {s : List Rul} {p : Rul} (h : RI wild i s) (hp : RuI wild k p) : RI wild (i + 1) (s ++ [p]) := by
  refine ⟨by rw [List.length_append, h.1]; rfl, fun j q hq => ?_⟩
  by_cases c : j < s.length
  · rw [List.getElem?_append_left c] at hq
    exact h.2 j q hq
  · have hl := (List.getElem?_eq_some_iff.mp hq).1
    rw [List.length_append, List.length_cons, List.length_nil] at hl
    have ej : j = s.length := by omega
    rw [ej, List.getElem?_append_right (Nat.le_refl _), Nat.sub_self] at hq
    injection hq with hq
    rw [← hq, ej, h.1, ← hk]
    exact hp
theorem ri_at {wild : Bool} {i : Nat} {s : List Rul} (h : RI wild i s) {k : Int} (h0 : 0 ≤ k) (h1 : k < s.length) : RuI wild k (ix s k) := by
  have := h.2 k.toNat _ (ix_nn h0 h1)
  rwa [show ((k.toNat : Nat) : Int) = k by omega] at this
theorem ri_mem {wild : Bool} {i : Nat} {s : List Rul} (h : RI wild i s) {p : Rul} (hp : p ∈ s) : ∃ j : Nat, j < i ∧ RuI wild j p := by
  obtain ⟨j, hj⟩ := List.getElem?_of_mem hp
  exact ⟨j, by have := (List.getElem?_eq_some_iff.mp hj).1; rw [h.1] at this; exact this, h.2 j p hj⟩
theorem ri_lens {wild : Bool} (hw : wild = false) {i : Nat} {k : Int} (hk : k = (i : Int)) (hi : i ≤ 60) {s : List Rul} {p : Rul} (h : RI wild i s) (hp : RuI wild k p) : PartsIn (s ++ [p]) ∧ (s ++ [p]).length ≤ 64 ∧ ∀ q ∈ s ++ [p], -1000 ≤ q.two ∧ q.two ≤ 1000 := by
  have r := ri_snoc hk h hp
  refine ⟨fun q hq x hx => ?_, by rw [r.1]; omega, fun q hq => ?_⟩
  · obtain ⟨j, hj, u⟩ := ri_mem r hq
    have := u.2.2 hw x hx
    rw [r.1]
    omega
  · obtain ⟨j, hj, u⟩ := ri_mem r hq
    exact u.2.1
theorem ri_early {wild : Bool} (hw : wild = false) {i : Nat} {k : Int} (hk : k = (i : Int)) {s : List Rul} {p : Rul} (h : RI wild i s) (hp : RuI wild k p) : Early (s ++ [p]) := fun j j0 j1 q hq => (ri_at (ri_snoc hk h hp) j0 j1).2.2 hw q hq
theorem ri_rulP {wild : Bool} {i : Nat} (hi : i ≤ 1000) {s : List Rul} (h : RI wild i s) : RulP s := ⟨by rw [h.1]; exact hi, fun p hp => by
  obtain ⟨j, hj, u⟩ := ri_mem h hp
  exact Nat.le_trans u.1 (by decide)⟩
theorem times_bd {k : Int} (h : 0 ≤ k ∧ k < 5) : 0 ≤ ix ([(2 : Int), (3 : Int), (4 : Int), (2 : Int), (128 : Int)] : List Int) k ∧ ix ([(2 : Int), (3 : Int), (4 : Int), (2 : Int), (128 : Int)] : List Int) k ≤ 128 := by
  rcases (show k = 0 ∨ k = 1 ∨ k = 2 ∨ k = 3 ∨ k = 4 by omega) with z | z | z | z | z <;> rw [z] <;> decide
def m__law_rules (a_cell : Int) (a_wild : Bool) : (List Rul) :=
  lt ([(10 : Int), (10 : Int), (26 : Int), (4 : Int)] : List Int) fun (v1_head : (List Int)) => 
  lt (m__law_draws a_cell v1_head) fun (v2_told : (List Int)) => 
  lt (m__law_size (ix v2_told (0 : Int)) (ix v2_told (1 : Int)) (10 : Int)) fun (v3_many : Int) => 
  lt (sl (m__law_draws a_cell (v1_head ++ (repL ([(6 : Int), (3 : Int), (64 : Int), (64 : Int), (5 : Int)] : List Int) v3_many))) (some (4 : Int)) none) fun (v4_parts : (List Int)) => 
  lt ([] : List Rul) fun (v5_rules : (List Rul)) => 
  lt (List.foldl (fun (s6 : (List Rul)) (x6_k : Int) => lt (sl v4_parts (some ((5 : Int) * x6_k)) (some (((5 : Int) * x6_k) + (5 : Int)))) fun (v8_one : (List Int)) => 
    lt ((ix v8_one (2 : Int)) % v3_many) fun (v9_left : Int) => 
    lt ((ix v8_one (3 : Int)) % v3_many) fun (v10_right : Int) => 
    lt (ix ([(2 : Int), (3 : Int), (4 : Int), (2 : Int), (128 : Int)] : List Int) (ix v8_one (4 : Int))) fun (v11_times : Int) => 
    lt (if ((decide (x6_k > (0 : Int))) && ((!a_wild) || (decide ((ix v2_told (3 : Int)) > (1 : Int))))) = true then lt ((x6_k - (1 : Int)) - ((ix v8_one (2 : Int)) % (if (3 : Int) < x6_k then (3 : Int) else x6_k : Int))) fun (v16_left : Int) => 
      lt ((ix v8_one (3 : Int)) % x6_k) fun (v17_right : Int) => 
      (v16_left, v17_right) else (v9_left, v10_right) : Int × Int) fun (s15 : Int × Int) => 
    lt (if (!a_wild) = true then lt ((2 : Int) + ((ix v8_one (4 : Int)) % (4 : Int))) fun (v20_times : Int) => 
      v20_times else v11_times : Int) fun (s19 : Int) => 
    lt (Rul.ltr (m__law_letter ((ix v2_told (2 : Int)) + ((ix v8_one (1 : Int)) * ((1 : Int) + ((6 : Int) * (if (decide ((ix v2_told (3 : Int)) = (1 : Int))) = true then 1 else 0 : Int))))))) fun (v21_rule : Rul) => 
    lt (if ((decide ((ix v8_one (0 : Int)) > (0 : Int))) && (a_wild || (decide (x6_k > (0 : Int))))) = true then lt (Rul.pair s15.1 s15.2) fun (v26_rule : Rul) => 
      v26_rule else v21_rule : Rul) fun (s25 : Rul) => 
    lt (if ((decide ((ix v8_one (0 : Int)) = (5 : Int))) && (a_wild || (decide (x6_k > (0 : Int))))) = true then lt (Rul.pow s15.1 s19) fun (v31_rule : Rul) => 
      v31_rule else s25 : Rul) fun (s30 : Rul) => 
    lt (if ((!a_wild) && (decide (((ix (m__law_lengths (s6 ++ ([s30] : List Rul))) x6_k).getD 0) > (48 : Int)))) = true then lt (Rul.ltr (m__law_letter ((ix v2_told (2 : Int)) + (ix v8_one (1 : Int))))) fun (v35_rule : Rul) => 
      v35_rule else s30 : Rul) fun (s34 : Rul) => 
    lt (s6 ++ [s34]) fun (v36_rules : (List Rul)) => 
    v36_rules) (v5_rules : (List Rul)) (rangeI 0 (v3_many).toNat)) fun (s7 : (List Rul)) => 
  s7
abbrev s__law_rules : Stmt := topS 63
abbrev N__law_rules : List Str := ["cell", "wild", "head", "told", "many", "parts", "rules", "k", "one", "left", "right", "times", "rule"]
theorem sc__law_rules : FnScope N__law_rules ["cell", "wild"] (defScope s__law_rules) := ⟨rfl, rfl, rfl, by decide +kernel, rfl, by decide +kernel, by decide +kernel⟩
abbrev Ok__law_rules (P : Program) (w : World) (K : PySem.W.Frag) (mg : Str → Option Value) (base : Heap) : Prop :=
  DefOk P w K mg base 3 "_law_rules" 2 (spD (ι := Int × Bool) K (fun i => True) (fun i => [.is i.1, .is i.2]) (fun i => .own (m__law_rules i.1 i.2)))
theorem ok__law_rules {P : Program} {w : World} {K : PySem.W.Frag} {mg : Str → Option Value} {base : Heap} {f : Addr} {fd : FuncData} (F : Fun K "_law_rules" "_law_rules" s__law_rules f fd) (hm : mg "_law_rules" = some (.ref f)) (bd : Binds K fd ["cell", "wild"] []) (T : Bt mg) (D__law_draws : Ok__law_draws P w K mg base) (D__law_size : Ok__law_size P w K mg base) (D__law_letter : Ok__law_letter P w K mg base) (D__law_lengths : Ok__law_lengths P w K mg base) : Ok__law_rules P w K mg base := by
  refine defOk (kk := 2) (R := (List Rul)) F hm sc__law_rules bd _ _ (fun r => .own r) _ (fun _ => rfl) (fun i hp cdv A outer s H E hr => ?_)
  obtain ⟨a_cell, a_wild⟩ := i
  show SX _ _ [.is a_cell, .is a_wild, .no, .no, .no, .no, .no, .no, .no, .no, .no, .no, .no] _ (m__law_rules a_cell a_wild)
  unfold m__law_rules
  refine sx_set 2 (px_share (px_list ([(10 : Int), (10 : Int), (26 : Int), (4 : Int)] : List Int) (ax_cons px_int (ax_cons px_int (ax_cons px_int (ax_cons px_int ax_nil)))))) (fun v1_head h1 => ?_) sc__law_rules.nd
  have fhl : v1_head.length = 4 := by rw [h1]; rfl
  refine sx_set 3 (px_share (x := (m__law_draws a_cell v1_head)) (px_call D__law_draws (a_cell, v1_head) (by show DrawsPre (v1_head); rw [h1]; first | exact ⟨by decide, by decide⟩ | exact draws_pre_rep ⟨by decide, by decide⟩ (by decide) (by simp only [List.length_cons, List.length_nil]; omega)) (hr.mono (by decide)) (ax_cons (px_var 0 rfl) (ax_cons (px_var 2 rfl) ax_nil)) (.is (.arg (.is _) .nil)))) (fun v2_told h2 => ?_) sc__law_rules.nd
  have hL := (draws_all h2 (by rw [h1]; exact ⟨by decide, by decide⟩)).1
  have hD := (draws_all h2 (by rw [h1]; exact ⟨by decide, by decide⟩)).2
  rw [h1] at hL hD
  simp only [List.length_cons, List.length_nil] at hL
  have f2 := hD (2 : Int) 26 rfl (by decide)
  clear hD
  refine sx_set 4 (px_callS D__law_size ((ix v2_told (0 : Int)), (ix v2_told (1 : Int)), (10 : Int)) (by show 1 ≤ ((10 : Int)); first | omega | (have tc_ := tc (by first | assumption | exact Bool.eq_false_iff.mpr (by assumption)); omega) | (have tp_ := tp (by assumption); omega) | (simp only [Bool.and_eq_true, Bool.or_eq_true, Bool.not_eq_true', Bool.and_eq_false_iff, Bool.or_eq_false_iff, Bool.not_eq_false', decide_eq_true_eq, decide_eq_false_iff_not, Classical.not_not] at *; omega) | (simp only [Bool.and_eq_true, Bool.or_eq_true, Bool.not_eq_true', Bool.and_eq_false_iff, Bool.or_eq_false_iff, Bool.not_eq_false', decide_eq_true_eq, decide_eq_false_iff_not, Classical.not_not, lt, List.length_cons, List.length_nil, List.length_append, List.length_map, List.length_reverse, List.length_set, rangeI_length] at *; omega)) (hr.mono (by decide)) (ax_cons (px_ixL (.is _) (px_var 3 rfl) px_int (by first | (constructor <;> omega) | (have tc_ := tc (by first | assumption | exact Bool.eq_false_iff.mpr (by assumption)); constructor <;> omega) | (have tp_ := tp (by assumption); constructor <;> omega) | (simp only [Bool.and_eq_true, Bool.or_eq_true, Bool.not_eq_true', Bool.and_eq_false_iff, Bool.or_eq_false_iff, Bool.not_eq_false', decide_eq_true_eq, decide_eq_false_iff_not, Classical.not_not] at *; constructor <;> omega) | (simp only [Bool.and_eq_true, Bool.or_eq_true, Bool.not_eq_true', Bool.and_eq_false_iff, Bool.or_eq_false_iff, Bool.not_eq_false', decide_eq_true_eq, decide_eq_false_iff_not, Classical.not_not, lt, List.length_cons, List.length_nil, List.length_append, List.length_map, List.length_reverse, List.length_set, rangeI_length] at *; constructor <;> omega))) (ax_cons (px_ixL (.is _) (px_var 3 rfl) px_int (by first | (constructor <;> omega) | (have tc_ := tc (by first | assumption | exact Bool.eq_false_iff.mpr (by assumption)); constructor <;> omega) | (have tp_ := tp (by assumption); constructor <;> omega) | (simp only [Bool.and_eq_true, Bool.or_eq_true, Bool.not_eq_true', Bool.and_eq_false_iff, Bool.or_eq_false_iff, Bool.not_eq_false', decide_eq_true_eq, decide_eq_false_iff_not, Classical.not_not] at *; constructor <;> omega) | (simp only [Bool.and_eq_true, Bool.or_eq_true, Bool.not_eq_true', Bool.and_eq_false_iff, Bool.or_eq_false_iff, Bool.not_eq_false', decide_eq_true_eq, decide_eq_false_iff_not, Classical.not_not, lt, List.length_cons, List.length_nil, List.length_append, List.length_map, List.length_reverse, List.length_set, rangeI_length] at *; constructor <;> omega))) (ax_cons px_int ax_nil))) (.is (.is (.is .nil)))) (fun v3_many h3 => ?_) sc__law_rules.nd
  have fs := size_post h3 (by decide)
  clear h3
  refine sx_set 5 (px_share (px_sl (.own _) (px_call D__law_draws (a_cell, (v1_head ++ (repL ([(6 : Int), (3 : Int), (64 : Int), (64 : Int), (5 : Int)] : List Int) v3_many))) (by show DrawsPre ((v1_head ++ (repL ([(6 : Int), (3 : Int), (64 : Int), (64 : Int), (5 : Int)] : List Int) v3_many))); rw [h1]; exact draws_pre_rep ⟨by decide, by decide⟩ (by decide) (by simp only [List.length_cons, List.length_nil]; omega)) (hr.mono (by decide)) (ax_cons (px_var 0 rfl) (ax_cons (px_cat (.is _) (.own _) (px_var 2 rfl) (px_rep (.own _) (px_list ([(6 : Int), (3 : Int), (64 : Int), (64 : Int), (5 : Int)] : List Int) (ax_cons px_int (ax_cons px_int (ax_cons px_int (ax_cons px_int (ax_cons px_int ax_nil)))))) (px_var 4 rfl) (by simp only [List.length_cons, List.length_nil]; rw [show sizeLine = 16777216 from sizeLine_eq]; refine ⟨?_, ?_, ?_⟩ <;> omega)) (by try rw [h1]; first | (exact Nat.le_trans (show _ ≤ 100000 by (first | omega | (simp only [lt, List.length_cons, List.length_nil, List.length_append, List.length_map, List.length_reverse, List.length_set, rangeI_length]; omega))) (by decide)) | (simp only [repL_length, List.length_append, List.length_cons, List.length_nil]; rw [show sizeLine = 16777216 from sizeLine_eq]; omega))) ax_nil)) (.is (.arg (.own _) .nil))) (ox_some px_int) ox_none)) (fun v4_parts h4 => ?_) sc__law_rules.nd
  have fv := draws_rest h4 (by rw [h1]; rfl) (by rw [h1]; exact ⟨by decide, by decide⟩) (by decide) (by rw [h1]; simp only [List.length_cons, List.length_nil]; omega)
  obtain ⟨fvl, fva⟩ := fv
  simp only [List.length_cons, List.length_nil] at fvl fva
  clear h4
  refine sx_setO 6 (px_list ([] : List Rul) ax_nil) (fun v5_rules h5 => ?_) sc__law_rules.nd
  refine sx_forF 7 (fun (s6 : (List Rul)) => [.is a_cell, .is a_wild, .is v1_head, .is v2_told, .is v3_many, .is v4_parts, .own s6, .no, .no, .no, .no, .no, .no]) _ (v5_rules : (List Rul)) (fun i s => RI a_wild i s) (it_range1 T.range_ (px_var 4 rfl) (by first | (constructor <;> omega) | (have tc_ := tc (by first | assumption | exact Bool.eq_false_iff.mpr (by assumption)); constructor <;> omega) | (have tp_ := tp (by assumption); constructor <;> omega) | (simp only [Bool.and_eq_true, Bool.or_eq_true, Bool.not_eq_true', Bool.and_eq_false_iff, Bool.or_eq_false_iff, Bool.not_eq_false', decide_eq_true_eq, decide_eq_false_iff_not, Classical.not_not] at *; constructor <;> omega) | (simp only [Bool.and_eq_true, Bool.or_eq_true, Bool.not_eq_true', Bool.and_eq_false_iff, Bool.or_eq_false_iff, Bool.not_eq_false', decide_eq_true_eq, decide_eq_false_iff_not, Classical.not_not, lt, List.length_cons, List.length_nil, List.length_append, List.length_map, List.length_reverse, List.length_set, rangeI_length] at *; constructor <;> omega))) (pg_name (i := 7) sc__law_rules.nd rfl (by first | exact Or.inl rfl | exact Or.inr rfl)) (.same (.same (.same (.same (.same (.same (.same (.same (.same (.same (.same (.same (.same .nil))))))))))))) (by rw [h5]; exact ⟨rfl, fun j p hp => by simp at hp⟩) (fun i6 s6 x6_k hx6 hI6 => ?_) (fun i6 s6 x6_k hx6 hI6 => ?_) (fun s7 h7 hI7 => ?_)
  · have hr6 := rangeI_get hx6
    have hI6 := hI6
    have hI6l := hI6.1
    have hrg := rangeI_get hx6
    have hx60 : 0 ≤ x6_k ∧ x6_k < v3_many := by omega
    have hix : x6_k = (i6 : Int) := by omega
    refine sx_set 8 (px_share (px_sl (.is _) (px_var 5 rfl) (ox_some (px_mul px_int (px_var 7 rfl) (by first | exact .inl ⟨by omega, by omega⟩ | exact .inr ⟨by omega, by omega⟩))) (ox_some (px_add (px_mul px_int (px_var 7 rfl) (by first | exact .inl ⟨by omega, by omega⟩ | exact .inr ⟨by omega, by omega⟩)) px_int)))) (fun v8_one h8 => ?_) sc__law_rules.nd
    have ho := one_five fvl fva hx60.1 hx60.2
    rw [← h8] at ho
    obtain ⟨o5, o0, o1, o4⟩ := ho
    refine sx_set 9 (px_mod (px_int1 T.int_ (px_ixL (.is _) (px_var 8 rfl) px_int (by first | (constructor <;> omega) | (have tc_ := tc (by first | assumption | exact Bool.eq_false_iff.mpr (by assumption)); constructor <;> omega) | (have tp_ := tp (by assumption); constructor <;> omega) | (simp only [Bool.and_eq_true, Bool.or_eq_true, Bool.not_eq_true', Bool.and_eq_false_iff, Bool.or_eq_false_iff, Bool.not_eq_false', decide_eq_true_eq, decide_eq_false_iff_not, Classical.not_not] at *; constructor <;> omega) | (simp only [Bool.and_eq_true, Bool.or_eq_true, Bool.not_eq_true', Bool.and_eq_false_iff, Bool.or_eq_false_iff, Bool.not_eq_false', decide_eq_true_eq, decide_eq_false_iff_not, Classical.not_not, lt, List.length_cons, List.length_nil, List.length_append, List.length_map, List.length_reverse, List.length_set, rangeI_length] at *; constructor <;> omega)))) (px_var 4 rfl) (by first | omega | (have tc_ := tc (by first | assumption | exact Bool.eq_false_iff.mpr (by assumption)); omega) | (have tp_ := tp (by assumption); omega) | (simp only [Bool.and_eq_true, Bool.or_eq_true, Bool.not_eq_true', Bool.and_eq_false_iff, Bool.or_eq_false_iff, Bool.not_eq_false', decide_eq_true_eq, decide_eq_false_iff_not, Classical.not_not] at *; omega) | (simp only [Bool.and_eq_true, Bool.or_eq_true, Bool.not_eq_true', Bool.and_eq_false_iff, Bool.or_eq_false_iff, Bool.not_eq_false', decide_eq_true_eq, decide_eq_false_iff_not, Classical.not_not, lt, List.length_cons, List.length_nil, List.length_append, List.length_map, List.length_reverse, List.length_set, rangeI_length] at *; omega))) (fun v9_left h9 => ?_) sc__law_rules.nd
    refine sx_set 10 (px_mod (px_int1 T.int_ (px_ixL (.is _) (px_var 8 rfl) px_int (by first | (constructor <;> omega) | (have tc_ := tc (by first | assumption | exact Bool.eq_false_iff.mpr (by assumption)); constructor <;> omega) | (have tp_ := tp (by assumption); constructor <;> omega) | (simp only [Bool.and_eq_true, Bool.or_eq_true, Bool.not_eq_true', Bool.and_eq_false_iff, Bool.or_eq_false_iff, Bool.not_eq_false', decide_eq_true_eq, decide_eq_false_iff_not, Classical.not_not] at *; constructor <;> omega) | (simp only [Bool.and_eq_true, Bool.or_eq_true, Bool.not_eq_true', Bool.and_eq_false_iff, Bool.or_eq_false_iff, Bool.not_eq_false', decide_eq_true_eq, decide_eq_false_iff_not, Classical.not_not, lt, List.length_cons, List.length_nil, List.length_append, List.length_map, List.length_reverse, List.length_set, rangeI_length] at *; constructor <;> omega)))) (px_var 4 rfl) (by first | omega | (have tc_ := tc (by first | assumption | exact Bool.eq_false_iff.mpr (by assumption)); omega) | (have tp_ := tp (by assumption); omega) | (simp only [Bool.and_eq_true, Bool.or_eq_true, Bool.not_eq_true', Bool.and_eq_false_iff, Bool.or_eq_false_iff, Bool.not_eq_false', decide_eq_true_eq, decide_eq_false_iff_not, Classical.not_not] at *; omega) | (simp only [Bool.and_eq_true, Bool.or_eq_true, Bool.not_eq_true', Bool.and_eq_false_iff, Bool.or_eq_false_iff, Bool.not_eq_false', decide_eq_true_eq, decide_eq_false_iff_not, Classical.not_not, lt, List.length_cons, List.length_nil, List.length_append, List.length_map, List.length_reverse, List.length_set, rangeI_length] at *; omega))) (fun v10_right h10 => ?_) sc__law_rules.nd
    refine sx_set 11 (px_ixL (.own _) (px_list ([(2 : Int), (3 : Int), (4 : Int), (2 : Int), (128 : Int)] : List Int) (ax_cons px_int (ax_cons px_int (ax_cons px_int (ax_cons px_int (ax_cons px_int ax_nil)))))) (px_ixL (.is _) (px_var 8 rfl) px_int (by first | (constructor <;> omega) | (have tc_ := tc (by first | assumption | exact Bool.eq_false_iff.mpr (by assumption)); constructor <;> omega) | (have tp_ := tp (by assumption); constructor <;> omega) | (simp only [Bool.and_eq_true, Bool.or_eq_true, Bool.not_eq_true', Bool.and_eq_false_iff, Bool.or_eq_false_iff, Bool.not_eq_false', decide_eq_true_eq, decide_eq_false_iff_not, Classical.not_not] at *; constructor <;> omega) | (simp only [Bool.and_eq_true, Bool.or_eq_true, Bool.not_eq_true', Bool.and_eq_false_iff, Bool.or_eq_false_iff, Bool.not_eq_false', decide_eq_true_eq, decide_eq_false_iff_not, Classical.not_not, lt, List.length_cons, List.length_nil, List.length_append, List.length_map, List.length_reverse, List.length_set, rangeI_length] at *; constructor <;> omega))) (by first | (constructor <;> omega) | (have tc_ := tc (by first | assumption | exact Bool.eq_false_iff.mpr (by assumption)); constructor <;> omega) | (have tp_ := tp (by assumption); constructor <;> omega) | (simp only [Bool.and_eq_true, Bool.or_eq_true, Bool.not_eq_true', Bool.and_eq_false_iff, Bool.or_eq_false_iff, Bool.not_eq_false', decide_eq_true_eq, decide_eq_false_iff_not, Classical.not_not] at *; constructor <;> omega) | (simp only [Bool.and_eq_true, Bool.or_eq_true, Bool.not_eq_true', Bool.and_eq_false_iff, Bool.or_eq_false_iff, Bool.not_eq_false', decide_eq_true_eq, decide_eq_false_iff_not, Classical.not_not, lt, List.length_cons, List.length_nil, List.length_append, List.length_map, List.length_reverse, List.length_set, rangeI_length] at *; constructor <;> omega))) (fun v11_times h11 => ?_) sc__law_rules.nd
    have ft := times_bd o4
    rw [← h11] at ft
    refine sx_ifj (fun (s15 : Int × Int) => [.is a_cell, .is a_wild, .is v1_head, .is v2_told, .is v3_many, .is v4_parts, .own s6, .is x6_k, .is v8_one, .is s15.1, .is s15.2, .is v11_times, .no]) (tx_w (wx_and (tx_gt (px_var 7 rfl) px_int) (fun hw13 => (wx_and1 (tx_w (wx_or (tx_not (tx_val (px_var 1 rfl))) (fun hw12 => (wx_or1 (tx_gt (px_ixL (.is _) (px_var 3 rfl) px_int (by first | (constructor <;> omega) | (have tc_ := tc (by first | assumption | exact Bool.eq_false_iff.mpr (by assumption)); constructor <;> omega) | (have tp_ := tp (by assumption); constructor <;> omega) | (simp only [Bool.and_eq_true, Bool.or_eq_true, Bool.not_eq_true', Bool.and_eq_false_iff, Bool.or_eq_false_iff, Bool.not_eq_false', decide_eq_true_eq, decide_eq_false_iff_not, Classical.not_not] at *; constructor <;> omega) | (simp only [Bool.and_eq_true, Bool.or_eq_true, Bool.not_eq_true', Bool.and_eq_false_iff, Bool.or_eq_false_iff, Bool.not_eq_false', decide_eq_true_eq, decide_eq_false_iff_not, Classical.not_not, lt, List.length_cons, List.length_nil, List.length_append, List.length_map, List.length_reverse, List.length_set, rangeI_length] at *; constructor <;> omega))) px_int))))))))) (fun hc15 => ?_) (fun hc15 => ?_) (fun s15 h15 => ?_)
    · try simp only [Bool.and_eq_true, Bool.or_eq_true, Bool.not_eq_true', Bool.and_eq_false_iff, Bool.or_eq_false_iff, Bool.not_eq_false', decide_eq_true_eq, decide_eq_false_iff_not, Classical.not_not] at hc15
      refine sx_set 9 (px_sub (px_sub (px_var 7 rfl) px_int) (px_mod (px_int1 T.int_ (px_ixL (.is _) (px_var 8 rfl) px_int (by first | (constructor <;> omega) | (have tc_ := tc (by first | assumption | exact Bool.eq_false_iff.mpr (by assumption)); constructor <;> omega) | (have tp_ := tp (by assumption); constructor <;> omega) | (simp only [Bool.and_eq_true, Bool.or_eq_true, Bool.not_eq_true', Bool.and_eq_false_iff, Bool.or_eq_false_iff, Bool.not_eq_false', decide_eq_true_eq, decide_eq_false_iff_not, Classical.not_not] at *; constructor <;> omega) | (simp only [Bool.and_eq_true, Bool.or_eq_true, Bool.not_eq_true', Bool.and_eq_false_iff, Bool.or_eq_false_iff, Bool.not_eq_false', decide_eq_true_eq, decide_eq_false_iff_not, Classical.not_not, lt, List.length_cons, List.length_nil, List.length_append, List.length_map, List.length_reverse, List.length_set, rangeI_length] at *; constructor <;> omega)))) (px_min rfl T.min_ (px_var 7 rfl) px_int) (by first | omega | (have tc_ := tc (by first | assumption | exact Bool.eq_false_iff.mpr (by assumption)); omega) | (have tp_ := tp (by assumption); omega) | (simp only [Bool.and_eq_true, Bool.or_eq_true, Bool.not_eq_true', Bool.and_eq_false_iff, Bool.or_eq_false_iff, Bool.not_eq_false', decide_eq_true_eq, decide_eq_false_iff_not, Classical.not_not] at *; omega) | (simp only [Bool.and_eq_true, Bool.or_eq_true, Bool.not_eq_true', Bool.and_eq_false_iff, Bool.or_eq_false_iff, Bool.not_eq_false', decide_eq_true_eq, decide_eq_false_iff_not, Classical.not_not, lt, List.length_cons, List.length_nil, List.length_append, List.length_map, List.length_reverse, List.length_set, rangeI_length] at *; omega)))) (fun v16_left h16 => ?_) sc__law_rules.nd
      refine sx_set 10 (px_mod (px_int1 T.int_ (px_ixL (.is _) (px_var 8 rfl) px_int (by first | (constructor <;> omega) | (have tc_ := tc (by first | assumption | exact Bool.eq_false_iff.mpr (by assumption)); constructor <;> omega) | (have tp_ := tp (by assumption); constructor <;> omega) | (simp only [Bool.and_eq_true, Bool.or_eq_true, Bool.not_eq_true', Bool.and_eq_false_iff, Bool.or_eq_false_iff, Bool.not_eq_false', decide_eq_true_eq, decide_eq_false_iff_not, Classical.not_not] at *; constructor <;> omega) | (simp only [Bool.and_eq_true, Bool.or_eq_true, Bool.not_eq_true', Bool.and_eq_false_iff, Bool.or_eq_false_iff, Bool.not_eq_false', decide_eq_true_eq, decide_eq_false_iff_not, Classical.not_not, lt, List.length_cons, List.length_nil, List.length_append, List.length_map, List.length_reverse, List.length_set, rangeI_length] at *; constructor <;> omega)))) (px_var 7 rfl) (by first | omega | (have tc_ := tc (by first | assumption | exact Bool.eq_false_iff.mpr (by assumption)); omega) | (have tp_ := tp (by assumption); omega) | (simp only [Bool.and_eq_true, Bool.or_eq_true, Bool.not_eq_true', Bool.and_eq_false_iff, Bool.or_eq_false_iff, Bool.not_eq_false', decide_eq_true_eq, decide_eq_false_iff_not, Classical.not_not] at *; omega) | (simp only [Bool.and_eq_true, Bool.or_eq_true, Bool.not_eq_true', Bool.and_eq_false_iff, Bool.or_eq_false_iff, Bool.not_eq_false', decide_eq_true_eq, decide_eq_false_iff_not, Classical.not_not, lt, List.length_cons, List.length_nil, List.length_append, List.length_map, List.length_reverse, List.length_set, rangeI_length] at *; omega))) (fun v17_right h17 => ?_) sc__law_rules.nd
      exact sx_nil (sx_endN (.same (.same (.same (.same (.same (.same (.same (.same (.same (.same (.same (.same (.same .nil))))))))))))))
    · try simp only [Bool.and_eq_true, Bool.or_eq_true, Bool.not_eq_true', Bool.and_eq_false_iff, Bool.or_eq_false_iff, Bool.not_eq_false', decide_eq_true_eq, decide_eq_false_iff_not, Classical.not_not] at hc15
      exact sx_nil (sx_endN (.same (.same (.same (.same (.same (.same (.same (.same (.same (.same (.same (.same (.same .nil))))))))))))))
    have hlr : P15 a_wild x6_k s15 := by { rw [h15, h9, h10]; exact lr_ok hx60.1 hx60.2 fs.2 }
    refine sx_ifj (fun (s19 : Int) => [.is a_cell, .is a_wild, .is v1_head, .is v2_told, .is v3_many, .is v4_parts, .own s6, .is x6_k, .is v8_one, .is s15.1, .is s15.2, .is s19, .no]) (tx_not (tx_val (px_var 1 rfl))) (fun hc19 => ?_) (fun hc19 => ?_) (fun s19 h19 => ?_)
    · try simp only [Bool.and_eq_true, Bool.or_eq_true, Bool.not_eq_true', Bool.and_eq_false_iff, Bool.or_eq_false_iff, Bool.not_eq_false', decide_eq_true_eq, decide_eq_false_iff_not, Classical.not_not] at hc19
      refine sx_set 11 (px_add px_int (px_mod (px_int1 T.int_ (px_ixL (.is _) (px_var 8 rfl) px_int (by first | (constructor <;> omega) | (have tc_ := tc (by first | assumption | exact Bool.eq_false_iff.mpr (by assumption)); constructor <;> omega) | (have tp_ := tp (by assumption); constructor <;> omega) | (simp only [Bool.and_eq_true, Bool.or_eq_true, Bool.not_eq_true', Bool.and_eq_false_iff, Bool.or_eq_false_iff, Bool.not_eq_false', decide_eq_true_eq, decide_eq_false_iff_not, Classical.not_not] at *; constructor <;> omega) | (simp only [Bool.and_eq_true, Bool.or_eq_true, Bool.not_eq_true', Bool.and_eq_false_iff, Bool.or_eq_false_iff, Bool.not_eq_false', decide_eq_true_eq, decide_eq_false_iff_not, Classical.not_not, lt, List.length_cons, List.length_nil, List.length_append, List.length_map, List.length_reverse, List.length_set, rangeI_length] at *; constructor <;> omega)))) px_int (by first | omega | (have tc_ := tc (by first | assumption | exact Bool.eq_false_iff.mpr (by assumption)); omega) | (have tp_ := tp (by assumption); omega) | (simp only [Bool.and_eq_true, Bool.or_eq_true, Bool.not_eq_true', Bool.and_eq_false_iff, Bool.or_eq_false_iff, Bool.not_eq_false', decide_eq_true_eq, decide_eq_false_iff_not, Classical.not_not] at *; omega) | (simp only [Bool.and_eq_true, Bool.or_eq_true, Bool.not_eq_true', Bool.and_eq_false_iff, Bool.or_eq_false_iff, Bool.not_eq_false', decide_eq_true_eq, decide_eq_false_iff_not, Classical.not_not, lt, List.length_cons, List.length_nil, List.length_append, List.length_map, List.length_reverse, List.length_set, rangeI_length] at *; omega)))) (fun v20_times h20 => ?_) sc__law_rules.nd
      exact sx_nil (sx_endN (.same (.same (.same (.same (.same (.same (.same (.same (.same (.same (.same (.same (.same .nil))))))))))))))
    · try simp only [Bool.and_eq_true, Bool.or_eq_true, Bool.not_eq_true', Bool.and_eq_false_iff, Bool.or_eq_false_iff, Bool.not_eq_false', decide_eq_true_eq, decide_eq_false_iff_not, Classical.not_not] at hc19
      exact sx_nil (sx_endN (.same (.same (.same (.same (.same (.same (.same (.same (.same (.same (.same (.same (.same .nil))))))))))))))
    have htm : 0 ≤ s19 ∧ s19 ≤ 128 := by { rw [h19]; exact tm_ok ft }
    refine sx_set 12 (rul_of_pair (px_pair (ax_cons (px_str (x := ([108, 101, 116, 116, 101, 114] : List Nat)) (by decide +kernel)) (ax_cons (px_callT D__law_letter ((ix v2_told (2 : Int)) + ((ix v8_one (1 : Int)) * ((1 : Int) + ((6 : Int) * (if (decide ((ix v2_told (3 : Int)) = (1 : Int))) = true then 1 else 0 : Int))))) (by trivial) (hr.mono (by decide)) (ax_cons (px_add (px_ixL (.is _) (px_var 3 rfl) px_int (by first | (constructor <;> omega) | (have tc_ := tc (by first | assumption | exact Bool.eq_false_iff.mpr (by assumption)); constructor <;> omega) | (have tp_ := tp (by assumption); constructor <;> omega) | (simp only [Bool.and_eq_true, Bool.or_eq_true, Bool.not_eq_true', Bool.and_eq_false_iff, Bool.or_eq_false_iff, Bool.not_eq_false', decide_eq_true_eq, decide_eq_false_iff_not, Classical.not_not] at *; constructor <;> omega) | (simp only [Bool.and_eq_true, Bool.or_eq_true, Bool.not_eq_true', Bool.and_eq_false_iff, Bool.or_eq_false_iff, Bool.not_eq_false', decide_eq_true_eq, decide_eq_false_iff_not, Classical.not_not, lt, List.length_cons, List.length_nil, List.length_append, List.length_map, List.length_reverse, List.length_set, rangeI_length] at *; constructor <;> omega))) (px_mul (px_ixL (.is _) (px_var 8 rfl) px_int (by first | (constructor <;> omega) | (have tc_ := tc (by first | assumption | exact Bool.eq_false_iff.mpr (by assumption)); constructor <;> omega) | (have tp_ := tp (by assumption); constructor <;> omega) | (simp only [Bool.and_eq_true, Bool.or_eq_true, Bool.not_eq_true', Bool.and_eq_false_iff, Bool.or_eq_false_iff, Bool.not_eq_false', decide_eq_true_eq, decide_eq_false_iff_not, Classical.not_not] at *; constructor <;> omega) | (simp only [Bool.and_eq_true, Bool.or_eq_true, Bool.not_eq_true', Bool.and_eq_false_iff, Bool.or_eq_false_iff, Bool.not_eq_false', decide_eq_true_eq, decide_eq_false_iff_not, Classical.not_not, lt, List.length_cons, List.length_nil, List.length_append, List.length_map, List.length_reverse, List.length_set, rangeI_length] at *; constructor <;> omega))) (px_add px_int (px_mul px_int (px_intB T.int_ (px_eq (px_ixL (.is _) (px_var 3 rfl) px_int (by first | (constructor <;> omega) | (have tc_ := tc (by first | assumption | exact Bool.eq_false_iff.mpr (by assumption)); constructor <;> omega) | (have tp_ := tp (by assumption); constructor <;> omega) | (simp only [Bool.and_eq_true, Bool.or_eq_true, Bool.not_eq_true', Bool.and_eq_false_iff, Bool.or_eq_false_iff, Bool.not_eq_false', decide_eq_true_eq, decide_eq_false_iff_not, Classical.not_not] at *; constructor <;> omega) | (simp only [Bool.and_eq_true, Bool.or_eq_true, Bool.not_eq_true', Bool.and_eq_false_iff, Bool.or_eq_false_iff, Bool.not_eq_false', decide_eq_true_eq, decide_eq_false_iff_not, Classical.not_not, lt, List.length_cons, List.length_nil, List.length_append, List.length_map, List.length_reverse, List.length_set, rangeI_length] at *; constructor <;> omega))) px_int)) (by first | exact .inl ⟨by omega, by omega⟩ | exact .inr ⟨by omega, by omega⟩))) (by first | exact .inl ⟨by omega, by omega⟩ | exact .inr ⟨by omega, by omega⟩))) ax_nil) (.is .nil)) ax_nil)))) (fun v21_rule h21 => ?_) sc__law_rules.nd
    refine sx_ifj (fun (s25 : Rul) => [.is a_cell, .is a_wild, .is v1_head, .is v2_told, .is v3_many, .is v4_parts, .own s6, .is x6_k, .is v8_one, .is s15.1, .is s15.2, .is s19, .is s25]) (tx_w (wx_and (tx_gt (px_ixL (.is _) (px_var 8 rfl) px_int (by first | (constructor <;> omega) | (have tc_ := tc (by first | assumption | exact Bool.eq_false_iff.mpr (by assumption)); constructor <;> omega) | (have tp_ := tp (by assumption); constructor <;> omega) | (simp only [Bool.and_eq_true, Bool.or_eq_true, Bool.not_eq_true', Bool.and_eq_false_iff, Bool.or_eq_false_iff, Bool.not_eq_false', decide_eq_true_eq, decide_eq_false_iff_not, Classical.not_not] at *; constructor <;> omega) | (simp only [Bool.and_eq_true, Bool.or_eq_true, Bool.not_eq_true', Bool.and_eq_false_iff, Bool.or_eq_false_iff, Bool.not_eq_false', decide_eq_true_eq, decide_eq_false_iff_not, Classical.not_not, lt, List.length_cons, List.length_nil, List.length_append, List.length_map, List.length_reverse, List.length_set, rangeI_length] at *; constructor <;> omega))) px_int) (fun hw23 => (wx_and1 (tx_w (wx_or (tx_val (px_var 1 rfl)) (fun hw22 => (wx_or1 (tx_gt (px_var 7 rfl) px_int))))))))) (fun hc25 => ?_) (fun hc25 => ?_) (fun s25 h25 => ?_)
    · try simp only [Bool.and_eq_true, Bool.or_eq_true, Bool.not_eq_true', Bool.and_eq_false_iff, Bool.or_eq_false_iff, Bool.not_eq_false', decide_eq_true_eq, decide_eq_false_iff_not, Classical.not_not] at hc25
      refine sx_set 12 (rul_of_t3 (px_t3 (ax_cons (px_str (x := ([112, 97, 105, 114] : List Nat)) (by decide +kernel)) (ax_cons (px_var 9 rfl) (ax_cons (px_var 10 rfl) ax_nil))))) (fun v26_rule h26 => ?_) sc__law_rules.nd
      exact sx_nil (sx_endN (.same (.same (.same (.same (.same (.same (.same (.same (.same (.same (.same (.same (.same .nil))))))))))))))
    · try simp only [Bool.and_eq_true, Bool.or_eq_true, Bool.not_eq_true', Bool.and_eq_false_iff, Bool.or_eq_false_iff, Bool.not_eq_false', decide_eq_true_eq, decide_eq_false_iff_not, Classical.not_not] at hc25
      exact sx_nil (sx_endN (.same (.same (.same (.same (.same (.same (.same (.same (.same (.same (.same (.same (.same .nil))))))))))))))
    have hr25 : RuI a_wild x6_k s25 := by { rw [h25, h21]; exact if_ind (P := fun z : Rul => RuI a_wild x6_k z) (fun c => ru_pair hlr c) (fun c => ru_ltr (Nat.le_refl 1)) }
    refine sx_ifj (fun (s30 : Rul) => [.is a_cell, .is a_wild, .is v1_head, .is v2_told, .is v3_many, .is v4_parts, .own s6, .is x6_k, .is v8_one, .is s15.1, .is s15.2, .is s19, .is s30]) (tx_w (wx_and (tx_eq (px_ixL (.is _) (px_var 8 rfl) px_int (by first | (constructor <;> omega) | (have tc_ := tc (by first | assumption | exact Bool.eq_false_iff.mpr (by assumption)); constructor <;> omega) | (have tp_ := tp (by assumption); constructor <;> omega) | (simp only [Bool.and_eq_true, Bool.or_eq_true, Bool.not_eq_true', Bool.and_eq_false_iff, Bool.or_eq_false_iff, Bool.not_eq_false', decide_eq_true_eq, decide_eq_false_iff_not, Classical.not_not] at *; constructor <;> omega) | (simp only [Bool.and_eq_true, Bool.or_eq_true, Bool.not_eq_true', Bool.and_eq_false_iff, Bool.or_eq_false_iff, Bool.not_eq_false', decide_eq_true_eq, decide_eq_false_iff_not, Classical.not_not, lt, List.length_cons, List.length_nil, List.length_append, List.length_map, List.length_reverse, List.length_set, rangeI_length] at *; constructor <;> omega))) px_int) (fun hw28 => (wx_and1 (tx_w (wx_or (tx_val (px_var 1 rfl)) (fun hw27 => (wx_or1 (tx_gt (px_var 7 rfl) px_int))))))))) (fun hc30 => ?_) (fun hc30 => ?_) (fun s30 h30 => ?_)
    · try simp only [Bool.and_eq_true, Bool.or_eq_true, Bool.not_eq_true', Bool.and_eq_false_iff, Bool.or_eq_false_iff, Bool.not_eq_false', decide_eq_true_eq, decide_eq_false_iff_not, Classical.not_not] at hc30
      refine sx_set 12 (rul_of_pow (px_t3 (ax_cons (px_str (x := ([112, 111, 119, 101, 114] : List Nat)) (by decide +kernel)) (ax_cons (px_var 9 rfl) (ax_cons (px_var 11 rfl) ax_nil))))) (fun v31_rule h31 => ?_) sc__law_rules.nd
      exact sx_nil (sx_endN (.same (.same (.same (.same (.same (.same (.same (.same (.same (.same (.same (.same (.same .nil))))))))))))))
    · try simp only [Bool.and_eq_true, Bool.or_eq_true, Bool.not_eq_true', Bool.and_eq_false_iff, Bool.or_eq_false_iff, Bool.not_eq_false', decide_eq_true_eq, decide_eq_false_iff_not, Classical.not_not] at hc30
      exact sx_nil (sx_endN (.same (.same (.same (.same (.same (.same (.same (.same (.same (.same (.same (.same (.same .nil))))))))))))))
    have hr30 : RuI a_wild x6_k s30 := by { rw [h30]; exact if_ind (P := fun z : Rul => RuI a_wild x6_k z) (fun c => ru_pow hlr htm c) (fun c => hr25) }
    refine sx_ifj (fun (s34 : Rul) => [.is a_cell, .is a_wild, .is v1_head, .is v2_told, .is v3_many, .is v4_parts, .own s6, .is x6_k, .is v8_one, .is s15.1, .is s15.2, .is s19, .is s34]) (tx_w (wx_and (tx_not (tx_val (px_var 1 rfl))) (fun hw32 => (wx_and1 (tx_gt (px_un (px_ixL (.own _) (px_call D__law_lengths (s6 ++ ([s30] : List Rul)) (by show PartsIn ((s6 ++ ([s30] : List Rul))) ∧ ((s6 ++ ([s30] : List Rul))).length ≤ 64 ∧ ∀ p ∈ ((s6 ++ ([s30] : List Rul))), -1000 ≤ p.two ∧ p.two ≤ 1000; exact ri_lens (by simpa using hw32) hix (by omega) hI6 hr30) (hr.mono (by decide)) (ax_cons (px_share (px_cat (.bor _) (.own _) (px_varO 6 (.own _) rfl) (px_list ([s30] : List Rul) (ax_cons (px_var 12 rfl) ax_nil)) (by first | (exact Nat.le_trans (show _ ≤ 100000 by (first | omega | (simp only [lt, List.length_cons, List.length_nil, List.length_append, List.length_map, List.length_reverse, List.length_set, rangeI_length]; omega))) (by decide)) | (simp only [repL_length, List.length_append, List.length_cons, List.length_nil]; rw [show sizeLine = 16777216 from sizeLine_eq]; omega)))) ax_nil) (.is .nil)) (px_var 7 rfl) (by have q := post__law_lengths (s6 ++ [s30]) (ri_lens (by simpa using hw32) hix (by omega) hI6 hr30); have q : (m__law_lengths (s6 ++ [s30])).length = (s6 ++ [s30]).length := q; rw [List.length_append, hI6l] at q; have q : (m__law_lengths (s6 ++ [s30])).length = i6 + 1 := q; constructor <;> omega)) (by exact lens_known (ri_early (by simpa using hw32) hix hI6 hr30) (by omega) (by rw [List.length_append, hI6l]; show x6_k < ((i6 + 1 : Nat) : Int); omega))) px_int))))) (fun hc34 => ?_) (fun hc34 => ?_) (fun s34 h34 => ?_)
    · try simp only [Bool.and_eq_true, Bool.or_eq_true, Bool.not_eq_true', Bool.and_eq_false_iff, Bool.or_eq_false_iff, Bool.not_eq_false', decide_eq_true_eq, decide_eq_false_iff_not, Classical.not_not] at hc34
      refine sx_set 12 (rul_of_pair (px_pair (ax_cons (px_str (x := ([108, 101, 116, 116, 101, 114] : List Nat)) (by decide +kernel)) (ax_cons (px_callT D__law_letter ((ix v2_told (2 : Int)) + (ix v8_one (1 : Int))) (by trivial) (hr.mono (by decide)) (ax_cons (px_add (px_ixL (.is _) (px_var 3 rfl) px_int (by first | (constructor <;> omega) | (have tc_ := tc (by first | assumption | exact Bool.eq_false_iff.mpr (by assumption)); constructor <;> omega) | (have tp_ := tp (by assumption); constructor <;> omega) | (simp only [Bool.and_eq_true, Bool.or_eq_true, Bool.not_eq_true', Bool.and_eq_false_iff, Bool.or_eq_false_iff, Bool.not_eq_false', decide_eq_true_eq, decide_eq_false_iff_not, Classical.not_not] at *; constructor <;> omega) | (simp only [Bool.and_eq_true, Bool.or_eq_true, Bool.not_eq_true', Bool.and_eq_false_iff, Bool.or_eq_false_iff, Bool.not_eq_false', decide_eq_true_eq, decide_eq_false_iff_not, Classical.not_not, lt, List.length_cons, List.length_nil, List.length_append, List.length_map, List.length_reverse, List.length_set, rangeI_length] at *; constructor <;> omega))) (px_ixL (.is _) (px_var 8 rfl) px_int (by first | (constructor <;> omega) | (have tc_ := tc (by first | assumption | exact Bool.eq_false_iff.mpr (by assumption)); constructor <;> omega) | (have tp_ := tp (by assumption); constructor <;> omega) | (simp only [Bool.and_eq_true, Bool.or_eq_true, Bool.not_eq_true', Bool.and_eq_false_iff, Bool.or_eq_false_iff, Bool.not_eq_false', decide_eq_true_eq, decide_eq_false_iff_not, Classical.not_not] at *; constructor <;> omega) | (simp only [Bool.and_eq_true, Bool.or_eq_true, Bool.not_eq_true', Bool.and_eq_false_iff, Bool.or_eq_false_iff, Bool.not_eq_false', decide_eq_true_eq, decide_eq_false_iff_not, Classical.not_not, lt, List.length_cons, List.length_nil, List.length_append, List.length_map, List.length_reverse, List.length_set, rangeI_length] at *; constructor <;> omega)))) ax_nil) (.is .nil)) ax_nil)))) (fun v35_rule h35 => ?_) sc__law_rules.nd
      exact sx_nil (sx_endN (.same (.same (.same (.same (.same (.same (.same (.same (.same (.same (.same (.same (.same .nil))))))))))))))
    · try simp only [Bool.and_eq_true, Bool.or_eq_true, Bool.not_eq_true', Bool.and_eq_false_iff, Bool.or_eq_false_iff, Bool.not_eq_false', decide_eq_true_eq, decide_eq_false_iff_not, Classical.not_not] at hc34
      exact sx_nil (sx_endN (.same (.same (.same (.same (.same (.same (.same (.same (.same (.same (.same (.same (.same .nil))))))))))))))
    refine sx_app 6 rfl (px_var 12 rfl) (by exact Nat.lt_of_le_of_lt (show _ ≤ 100000 by first | omega | (have tc_ := tc (by first | assumption | exact Bool.eq_false_iff.mpr (by assumption)); omega) | (have tp_ := tp (by assumption); omega) | (simp only [Bool.and_eq_true, Bool.or_eq_true, Bool.not_eq_true', Bool.and_eq_false_iff, Bool.or_eq_false_iff, Bool.not_eq_false', decide_eq_true_eq, decide_eq_false_iff_not, Classical.not_not] at *; omega) | (simp only [Bool.and_eq_true, Bool.or_eq_true, Bool.not_eq_true', Bool.and_eq_false_iff, Bool.or_eq_false_iff, Bool.not_eq_false', decide_eq_true_eq, decide_eq_false_iff_not, Classical.not_not, lt, List.length_cons, List.length_nil, List.length_append, List.length_map, List.length_reverse, List.length_set, rangeI_length] at *; omega)) (by decide)) (fun v36_rules h36 => ?_)
    exact sx_nil (sx_endN (.same (.same (.same (.same (.same (.same (.same (.drop (.drop (.drop (.drop (.drop (.drop .nil))))))))))))))
  · have hr6 := rangeI_get hx6
    have hI6 := hI6
    have hI6l := hI6.1
    have hrg := rangeI_get hx6
    have hx60 : 0 ≤ x6_k ∧ x6_k < v3_many := by omega
    have hix : x6_k = (i6 : Int) := by omega
    exact (by
      have ho := one_five fvl fva hx60.1 hx60.2
      dsimp only [lt]
      have hlr := lr_ok (wild := a_wild) (t3 := ix v2_told 3) (o2 := ix (sl v4_parts (some (5 * x6_k)) (some (5 * x6_k + 5))) 2) (o3 := ix (sl v4_parts (some (5 * x6_k)) (some (5 * x6_k + 5))) 3) hx60.1 hx60.2 fs.2
      have htm := tm_ok (wild := a_wild) (o := ix (sl v4_parts (some (5 * x6_k)) (some (5 * x6_k + 5))) 4) (v := ix ([(2 : Int), (3 : Int), (4 : Int), (2 : Int), (128 : Int)] : List Int) (ix (sl v4_parts (some (5 * x6_k)) (some (5 * x6_k + 5))) 4)) (times_bd ho.2.2.2)
      refine ri_snoc hix hI6 ?_
      refine if_ind (P := fun z : Rul => RuI a_wild x6_k z) (fun c => ru_ltr (Nat.le_refl 1)) (fun c => if_ind (P := fun z : Rul => RuI a_wild x6_k z) (fun c => ru_pow hlr htm c) (fun c => if_ind (P := fun z : Rul => RuI a_wild x6_k z) (fun c => ru_pair hlr c) (fun c => ru_ltr (Nat.le_refl 1)))))
  have hJ6 := hI7
  rw [rangeI_length] at hJ6
  exact sx_retV (mr := (fun r => r)) 6 rfl (rets_ret) rfl
def PP__law_rules (a_cell : Int) (a_wild : Bool) (res : (List Rul)) : Prop := RulP res
theorem post__law_rules (a_cell : Int) (a_wild : Bool) : PP__law_rules a_cell a_wild (m__law_rules a_cell a_wild) := by
  unfold m__law_rules
  refine lt_ind (P := PP__law_rules a_cell a_wild) fun v1_head h1 => ?_
  have fhl : v1_head.length = 4 := by rw [h1]; rfl
  refine lt_ind (P := PP__law_rules a_cell a_wild) fun v2_told h2 => ?_
  have hL := (draws_all h2 (by rw [h1]; exact ⟨by decide, by decide⟩)).1
  have hD := (draws_all h2 (by rw [h1]; exact ⟨by decide, by decide⟩)).2
  rw [h1] at hL hD
  simp only [List.length_cons, List.length_nil] at hL
  have f2 := hD (2 : Int) 26 rfl (by decide)
  clear hD
  refine lt_ind (P := PP__law_rules a_cell a_wild) fun v3_many h3 => ?_
  have fs := size_post h3 (by decide)
  clear h3
  refine lt_ind (P := PP__law_rules a_cell a_wild) fun v4_parts h4 => ?_
  have fv := draws_rest h4 (by rw [h1]; rfl) (by rw [h1]; exact ⟨by decide, by decide⟩) (by decide) (by rw [h1]; simp only [List.length_cons, List.length_nil]; omega)
  obtain ⟨fvl, fva⟩ := fv
  simp only [List.length_cons, List.length_nil] at fvl fva
  clear h4
  refine lt_ind (P := PP__law_rules a_cell a_wild) fun v5_rules h5 => ?_
  refine lt_ind (P := PP__law_rules a_cell a_wild) fun s7 h7 => ?_
  have hI7 := foldl_ix (fun i s => RI a_wild i s) ((fun (s6 : (List Rul)) (x6_k : Int) => lt (sl v4_parts (some ((5 : Int) * x6_k)) (some (((5 : Int) * x6_k) + (5 : Int)))) fun (v8_one : (List Int)) => 
    lt ((ix v8_one (2 : Int)) % v3_many) fun (v9_left : Int) => 
    lt ((ix v8_one (3 : Int)) % v3_many) fun (v10_right : Int) => 
    lt (ix ([(2 : Int), (3 : Int), (4 : Int), (2 : Int), (128 : Int)] : List Int) (ix v8_one (4 : Int))) fun (v11_times : Int) => 
    lt (if ((decide (x6_k > (0 : Int))) && ((!a_wild) || (decide ((ix v2_told (3 : Int)) > (1 : Int))))) = true then lt ((x6_k - (1 : Int)) - ((ix v8_one (2 : Int)) % (if (3 : Int) < x6_k then (3 : Int) else x6_k : Int))) fun (v16_left : Int) => 
      lt ((ix v8_one (3 : Int)) % x6_k) fun (v17_right : Int) => 
      (v16_left, v17_right) else (v9_left, v10_right) : Int × Int) fun (s15 : Int × Int) => 
    lt (if (!a_wild) = true then lt ((2 : Int) + ((ix v8_one (4 : Int)) % (4 : Int))) fun (v20_times : Int) => 
      v20_times else v11_times : Int) fun (s19 : Int) => 
    lt (Rul.ltr (m__law_letter ((ix v2_told (2 : Int)) + ((ix v8_one (1 : Int)) * ((1 : Int) + ((6 : Int) * (if (decide ((ix v2_told (3 : Int)) = (1 : Int))) = true then 1 else 0 : Int))))))) fun (v21_rule : Rul) => 
    lt (if ((decide ((ix v8_one (0 : Int)) > (0 : Int))) && (a_wild || (decide (x6_k > (0 : Int))))) = true then lt (Rul.pair s15.1 s15.2) fun (v26_rule : Rul) => 
      v26_rule else v21_rule : Rul) fun (s25 : Rul) => 
    lt (if ((decide ((ix v8_one (0 : Int)) = (5 : Int))) && (a_wild || (decide (x6_k > (0 : Int))))) = true then lt (Rul.pow s15.1 s19) fun (v31_rule : Rul) => 
      v31_rule else s25 : Rul) fun (s30 : Rul) => 
    lt (if ((!a_wild) && (decide (((ix (m__law_lengths (s6 ++ ([s30] : List Rul))) x6_k).getD 0) > (48 : Int)))) = true then lt (Rul.ltr (m__law_letter ((ix v2_told (2 : Int)) + (ix v8_one (1 : Int))))) fun (v35_rule : Rul) => 
      v35_rule else s30 : Rul) fun (s34 : Rul) => 
    lt (s6 ++ [s34]) fun (v36_rules : (List Rul)) => 
    v36_rules)) (v5_rules : (List Rul)) (rangeI 0 (v3_many).toNat) (by rw [h5]; exact ⟨rfl, fun j p hp => by simp at hp⟩) (fun i6 s6 x6_k hx6 hI6 => by
    have hr6 := rangeI_get hx6
    have hI6 := hI6
    have hI6l := hI6.1
    have hrg := rangeI_get hx6
    have hx60 : 0 ≤ x6_k ∧ x6_k < v3_many := by omega
    have hix : x6_k = (i6 : Int) := by omega
    (exact (by
      have ho := one_five fvl fva hx60.1 hx60.2
      dsimp only [lt]
      have hlr := lr_ok (wild := a_wild) (t3 := ix v2_told 3) (o2 := ix (sl v4_parts (some (5 * x6_k)) (some (5 * x6_k + 5))) 2) (o3 := ix (sl v4_parts (some (5 * x6_k)) (some (5 * x6_k + 5))) 3) hx60.1 hx60.2 fs.2
      have htm := tm_ok (wild := a_wild) (o := ix (sl v4_parts (some (5 * x6_k)) (some (5 * x6_k + 5))) 4) (v := ix ([(2 : Int), (3 : Int), (4 : Int), (2 : Int), (128 : Int)] : List Int) (ix (sl v4_parts (some (5 * x6_k)) (some (5 * x6_k + 5))) 4)) (times_bd ho.2.2.2)
      refine ri_snoc hix hI6 ?_
      refine if_ind (P := fun z : Rul => RuI a_wild x6_k z) (fun c => ru_ltr (Nat.le_refl 1)) (fun c => if_ind (P := fun z : Rul => RuI a_wild x6_k z) (fun c => ru_pow hlr htm c) (fun c => if_ind (P := fun z : Rul => RuI a_wild x6_k z) (fun c => ru_pair hlr c) (fun c => ru_ltr (Nat.le_refl 1)))))))
  rw [← h7] at hI7
  have hJ6 := hI7
  rw [rangeI_length] at hJ6
  show RulP (s7)
  exact ri_rulP (by omega) hJ6
theorem each_snoc {i : Nat} {s : List Rul} {p : Rul} (h : s.length = i ∧ ∀ p ∈ s, p.let.length ≤ 1) (hp : p.let.length ≤ 1) : (s ++ [p]).length = i + 1 ∧ ∀ q ∈ s ++ [p], q.let.length ≤ 1 := by
  refine ⟨by rw [List.length_append, h.1]; rfl, fun q hq => ?_⟩
  rcases List.mem_append.mp hq with z | z
  · exact h.2 q z
  · rw [List.mem_singleton.mp z]; exact hp
theorem each_rulP {i : Nat} (hi : i ≤ 1000) {s : List Rul} (h : s.length = i ∧ ∀ p ∈ s, p.let.length ≤ 1) : RulP s := ⟨by omega, fun p hp => Nat.le_trans (h.2 p hp) (by decide)⟩
theorem spoilt_ok {rs : List Rul} (h : RulP rs) {d : Int} (h0 : 0 ≤ d) (h1 : d < rs.length) {r : Rul} (hr : r.let.length ≤ 1000) : RulP ((sl rs none (some d) ++ [r]) ++ sl rs (some (d + 1)) none) := by
  rw [sl_to h0, sl_from (by omega)]
  refine ⟨?_, fun p hp => ?_⟩
  · rw [List.length_append, List.length_append, List.length_take, List.length_drop, List.length_cons, List.length_nil]
    have := h.1
    omega
  · rcases List.mem_append.mp hp with z | z
    · rcases List.mem_append.mp z with y | y
      · exact h.2 p (List.mem_of_mem_take y)
      · rw [List.mem_singleton.mp y]; exact hr
    · exact h.2 p (List.mem_of_mem_drop z)
def m__law_each (a_script : Scr) (a_many : Int) : (List Rul) :=
  lt ([] : List Rul) fun (v1_rules : (List Rul)) => 
  lt (List.foldl (fun (s2 : (List Rul)) (x2_k : Int) => lt (m__law_draws ((m__law_cell a_script ((4 : Int) + x2_k)) + x2_k) ([(5 : Int), (26 : Int), a_many, a_many, (127 : Int)] : List Int)) fun (v4_one : (List Int)) => 
    lt (Rul.ltr (m__law_letter (ix v4_one (1 : Int)))) fun (v5_rule : Rul) => 
    lt (if (decide ((ix v4_one (0 : Int)) > (1 : Int))) = true then lt (Rul.pair (ix v4_one (2 : Int)) (ix v4_one (3 : Int))) fun (v8_rule : Rul) => 
      v8_rule else v5_rule : Rul) fun (s7 : Rul) => 
    lt (if (decide ((ix v4_one (0 : Int)) = (4 : Int))) = true then lt (Rul.pow (ix v4_one (2 : Int)) ((2 : Int) + (ix v4_one (4 : Int)))) fun (v11_rule : Rul) => 
      v11_rule else s7 : Rul) fun (s10 : Rul) => 
    lt (s2 ++ [s10]) fun (v12_rules : (List Rul)) => 
    v12_rules) (v1_rules : (List Rul)) (rangeI 0 (a_many).toNat)) fun (s3 : (List Rul)) => 
  s3
abbrev s__law_each : Stmt := topS 64
abbrev N__law_each : List Str := ["script", "many", "rules", "k", "one", "rule"]
theorem sc__law_each : FnScope N__law_each ["script", "many"] (defScope s__law_each) := ⟨rfl, rfl, rfl, by decide +kernel, rfl, by decide +kernel, by decide +kernel⟩
abbrev Ok__law_each (P : Program) (w : World) (K : PySem.W.Frag) (mg : Str → Option Value) (base : Heap) : Prop :=
  DefOk P w K mg base 2 "_law_each" 2 (spD (ι := Scr × Int) K (fun i => 1 ≤ i.2 ∧ i.2 ≤ 48) (fun i => [.is i.1, .is i.2]) (fun i => .own (m__law_each i.1 i.2)))
theorem ok__law_each {P : Program} {w : World} {K : PySem.W.Frag} {mg : Str → Option Value} {base : Heap} {f : Addr} {fd : FuncData} (F : Fun K "_law_each" "_law_each" s__law_each f fd) (hm : mg "_law_each" = some (.ref f)) (bd : Binds K fd ["script", "many"] []) (T : Bt mg) (D__law_cell : Ok__law_cell P w K mg base) (D__law_draws : Ok__law_draws P w K mg base) (D__law_letter : Ok__law_letter P w K mg base) : Ok__law_each P w K mg base := by
  refine defOk (kk := 1) (R := (List Rul)) F hm sc__law_each bd _ _ (fun r => .own r) _ (fun _ => rfl) (fun i hp cdv A outer s H E hr => ?_)
  obtain ⟨a_script, a_many⟩ := i
  have hp : 1 ≤ a_many ∧ a_many ≤ 48 := hp
  show SX _ _ [.is a_script, .is a_many, .no, .no, .no, .no] _ (m__law_each a_script a_many)
  unfold m__law_each
  refine sx_setO 2 (px_list ([] : List Rul) ax_nil) (fun v1_rules h1 => ?_) sc__law_each.nd
  refine sx_forF 3 (fun (s2 : (List Rul)) => [.is a_script, .is a_many, .own s2, .no, .no, .no]) _ (v1_rules : (List Rul)) (fun i s => s.length = i ∧ ∀ p ∈ s, p.let.length ≤ 1) (it_range1 T.range_ (px_var 1 rfl) (by first | (constructor <;> omega) | (have tc_ := tc (by first | assumption | exact Bool.eq_false_iff.mpr (by assumption)); constructor <;> omega) | (have tp_ := tp (by assumption); constructor <;> omega) | (simp only [Bool.and_eq_true, Bool.or_eq_true, Bool.not_eq_true', Bool.and_eq_false_iff, Bool.or_eq_false_iff, Bool.not_eq_false', decide_eq_true_eq, decide_eq_false_iff_not, Classical.not_not] at *; constructor <;> omega) | (simp only [Bool.and_eq_true, Bool.or_eq_true, Bool.not_eq_true', Bool.and_eq_false_iff, Bool.or_eq_false_iff, Bool.not_eq_false', decide_eq_true_eq, decide_eq_false_iff_not, Classical.not_not, lt, List.length_cons, List.length_nil, List.length_append, List.length_map, List.length_reverse, List.length_set, rangeI_length] at *; constructor <;> omega))) (pg_name (i := 3) sc__law_each.nd rfl (by first | exact Or.inl rfl | exact Or.inr rfl)) (.same (.same (.same (.same (.same (.same .nil)))))) (by rw [h1]; exact ⟨rfl, fun p hp => (nomatch hp)⟩) (fun i2 s2 x2_k hx2 hI2 => ?_) (fun i2 s2 x2_k hx2 hI2 => ?_) (fun s3 h3 hI3 => ?_)
  · have hr2 := rangeI_get hx2
    have hI2 := hI2
    have hI2l := hI2.1
    have hrg := rangeI_get hx2
    refine sx_set 4 (px_share (x := (m__law_draws ((m__law_cell a_script ((4 : Int) + x2_k)) + x2_k) ([(5 : Int), (26 : Int), a_many, a_many, (127 : Int)] : List Int))) (px_call D__law_draws (((m__law_cell a_script ((4 : Int) + x2_k)) + x2_k), ([(5 : Int), (26 : Int), a_many, a_many, (127 : Int)] : List Int)) (by show DrawsPre (([(5 : Int), (26 : Int), a_many, a_many, (127 : Int)] : List Int)); refine ⟨show 5 ≤ 10000 by decide, fun s hs => ?_⟩; simp only [List.mem_cons, List.not_mem_nil, or_false] at hs; omega) (hr.mono (by decide)) (ax_cons (px_add (px_callS D__law_cell (a_script, ((4 : Int) + x2_k)) (by show 0 ≤ (((4 : Int) + x2_k)); first | omega | (have tc_ := tc (by first | assumption | exact Bool.eq_false_iff.mpr (by assumption)); omega) | (have tp_ := tp (by assumption); omega) | (simp only [Bool.and_eq_true, Bool.or_eq_true, Bool.not_eq_true', Bool.and_eq_false_iff, Bool.or_eq_false_iff, Bool.not_eq_false', decide_eq_true_eq, decide_eq_false_iff_not, Classical.not_not] at *; omega) | (simp only [Bool.and_eq_true, Bool.or_eq_true, Bool.not_eq_true', Bool.and_eq_false_iff, Bool.or_eq_false_iff, Bool.not_eq_false', decide_eq_true_eq, decide_eq_false_iff_not, Classical.not_not, lt, List.length_cons, List.length_nil, List.length_append, List.length_map, List.length_reverse, List.length_set, rangeI_length] at *; omega)) (hr.mono (by decide)) (ax_cons (px_var 0 rfl) (ax_cons (px_add px_int (px_var 3 rfl)) ax_nil)) (.is (.is .nil))) (px_var 3 rfl)) (ax_cons (px_list ([(5 : Int), (26 : Int), a_many, a_many, (127 : Int)] : List Int) (ax_cons px_int (ax_cons px_int (ax_cons (px_var 1 rfl) (ax_cons (px_var 1 rfl) (ax_cons px_int ax_nil)))))) ax_nil)) (.is (.arg (.own _) .nil)))) (fun v4_one h4 => ?_) sc__law_each.nd
    have hL := (draws_all h4 (by refine ⟨show 5 ≤ 10000 by decide, fun s hs => ?_⟩; simp only [List.mem_cons, List.not_mem_nil, or_false] at hs; omega)).1
    simp only [List.length_cons, List.length_nil] at hL
    clear h4
    refine sx_set 5 (rul_of_pair (px_pair (ax_cons (px_str (x := ([108, 101, 116, 116, 101, 114] : List Nat)) (by decide +kernel)) (ax_cons (px_callT D__law_letter (ix v4_one (1 : Int)) (by trivial) (hr.mono (by decide)) (ax_cons (px_ixL (.is _) (px_var 4 rfl) px_int (by first | (constructor <;> omega) | (have tc_ := tc (by first | assumption | exact Bool.eq_false_iff.mpr (by assumption)); constructor <;> omega) | (have tp_ := tp (by assumption); constructor <;> omega) | (simp only [Bool.and_eq_true, Bool.or_eq_true, Bool.not_eq_true', Bool.and_eq_false_iff, Bool.or_eq_false_iff, Bool.not_eq_false', decide_eq_true_eq, decide_eq_false_iff_not, Classical.not_not] at *; constructor <;> omega) | (simp only [Bool.and_eq_true, Bool.or_eq_true, Bool.not_eq_true', Bool.and_eq_false_iff, Bool.or_eq_false_iff, Bool.not_eq_false', decide_eq_true_eq, decide_eq_false_iff_not, Classical.not_not, lt, List.length_cons, List.length_nil, List.length_append, List.length_map, List.length_reverse, List.length_set, rangeI_length] at *; constructor <;> omega))) ax_nil) (.is .nil)) ax_nil)))) (fun v5_rule h5 => ?_) sc__law_each.nd
    refine sx_ifj (fun (s7 : Rul) => [.is a_script, .is a_many, .own s2, .is x2_k, .is v4_one, .is s7]) (tx_gt (px_ixL (.is _) (px_var 4 rfl) px_int (by first | (constructor <;> omega) | (have tc_ := tc (by first | assumption | exact Bool.eq_false_iff.mpr (by assumption)); constructor <;> omega) | (have tp_ := tp (by assumption); constructor <;> omega) | (simp only [Bool.and_eq_true, Bool.or_eq_true, Bool.not_eq_true', Bool.and_eq_false_iff, Bool.or_eq_false_iff, Bool.not_eq_false', decide_eq_true_eq, decide_eq_false_iff_not, Classical.not_not] at *; constructor <;> omega) | (simp only [Bool.and_eq_true, Bool.or_eq_true, Bool.not_eq_true', Bool.and_eq_false_iff, Bool.or_eq_false_iff, Bool.not_eq_false', decide_eq_true_eq, decide_eq_false_iff_not, Classical.not_not, lt, List.length_cons, List.length_nil, List.length_append, List.length_map, List.length_reverse, List.length_set, rangeI_length] at *; constructor <;> omega))) px_int) (fun hc7 => ?_) (fun hc7 => ?_) (fun s7 h7 => ?_)
    · try simp only [Bool.and_eq_true, Bool.or_eq_true, Bool.not_eq_true', Bool.and_eq_false_iff, Bool.or_eq_false_iff, Bool.not_eq_false', decide_eq_true_eq, decide_eq_false_iff_not, Classical.not_not] at hc7
      refine sx_set 5 (rul_of_t3 (px_t3 (ax_cons (px_str (x := ([112, 97, 105, 114] : List Nat)) (by decide +kernel)) (ax_cons (px_ixL (.is _) (px_var 4 rfl) px_int (by first | (constructor <;> omega) | (have tc_ := tc (by first | assumption | exact Bool.eq_false_iff.mpr (by assumption)); constructor <;> omega) | (have tp_ := tp (by assumption); constructor <;> omega) | (simp only [Bool.and_eq_true, Bool.or_eq_true, Bool.not_eq_true', Bool.and_eq_false_iff, Bool.or_eq_false_iff, Bool.not_eq_false', decide_eq_true_eq, decide_eq_false_iff_not, Classical.not_not] at *; constructor <;> omega) | (simp only [Bool.and_eq_true, Bool.or_eq_true, Bool.not_eq_true', Bool.and_eq_false_iff, Bool.or_eq_false_iff, Bool.not_eq_false', decide_eq_true_eq, decide_eq_false_iff_not, Classical.not_not, lt, List.length_cons, List.length_nil, List.length_append, List.length_map, List.length_reverse, List.length_set, rangeI_length] at *; constructor <;> omega))) (ax_cons (px_ixL (.is _) (px_var 4 rfl) px_int (by first | (constructor <;> omega) | (have tc_ := tc (by first | assumption | exact Bool.eq_false_iff.mpr (by assumption)); constructor <;> omega) | (have tp_ := tp (by assumption); constructor <;> omega) | (simp only [Bool.and_eq_true, Bool.or_eq_true, Bool.not_eq_true', Bool.and_eq_false_iff, Bool.or_eq_false_iff, Bool.not_eq_false', decide_eq_true_eq, decide_eq_false_iff_not, Classical.not_not] at *; constructor <;> omega) | (simp only [Bool.and_eq_true, Bool.or_eq_true, Bool.not_eq_true', Bool.and_eq_false_iff, Bool.or_eq_false_iff, Bool.not_eq_false', decide_eq_true_eq, decide_eq_false_iff_not, Classical.not_not, lt, List.length_cons, List.length_nil, List.length_append, List.length_map, List.length_reverse, List.length_set, rangeI_length] at *; constructor <;> omega))) ax_nil))))) (fun v8_rule h8 => ?_) sc__law_each.nd
      exact sx_nil (sx_endN (.same (.same (.same (.same (.same (.same .nil)))))))
    · try simp only [Bool.and_eq_true, Bool.or_eq_true, Bool.not_eq_true', Bool.and_eq_false_iff, Bool.or_eq_false_iff, Bool.not_eq_false', decide_eq_true_eq, decide_eq_false_iff_not, Classical.not_not] at hc7
      exact sx_nil (sx_endN (.same (.same (.same (.same (.same (.same .nil)))))))
    refine sx_ifj (fun (s10 : Rul) => [.is a_script, .is a_many, .own s2, .is x2_k, .is v4_one, .is s10]) (tx_eq (px_ixL (.is _) (px_var 4 rfl) px_int (by first | (constructor <;> omega) | (have tc_ := tc (by first | assumption | exact Bool.eq_false_iff.mpr (by assumption)); constructor <;> omega) | (have tp_ := tp (by assumption); constructor <;> omega) | (simp only [Bool.and_eq_true, Bool.or_eq_true, Bool.not_eq_true', Bool.and_eq_false_iff, Bool.or_eq_false_iff, Bool.not_eq_false', decide_eq_true_eq, decide_eq_false_iff_not, Classical.not_not] at *; constructor <;> omega) | (simp only [Bool.and_eq_true, Bool.or_eq_true, Bool.not_eq_true', Bool.and_eq_false_iff, Bool.or_eq_false_iff, Bool.not_eq_false', decide_eq_true_eq, decide_eq_false_iff_not, Classical.not_not, lt, List.length_cons, List.length_nil, List.length_append, List.length_map, List.length_reverse, List.length_set, rangeI_length] at *; constructor <;> omega))) px_int) (fun hc10 => ?_) (fun hc10 => ?_) (fun s10 h10 => ?_)
    · try simp only [Bool.and_eq_true, Bool.or_eq_true, Bool.not_eq_true', Bool.and_eq_false_iff, Bool.or_eq_false_iff, Bool.not_eq_false', decide_eq_true_eq, decide_eq_false_iff_not, Classical.not_not] at hc10
      refine sx_set 5 (rul_of_pow (px_t3 (ax_cons (px_str (x := ([112, 111, 119, 101, 114] : List Nat)) (by decide +kernel)) (ax_cons (px_ixL (.is _) (px_var 4 rfl) px_int (by first | (constructor <;> omega) | (have tc_ := tc (by first | assumption | exact Bool.eq_false_iff.mpr (by assumption)); constructor <;> omega) | (have tp_ := tp (by assumption); constructor <;> omega) | (simp only [Bool.and_eq_true, Bool.or_eq_true, Bool.not_eq_true', Bool.and_eq_false_iff, Bool.or_eq_false_iff, Bool.not_eq_false', decide_eq_true_eq, decide_eq_false_iff_not, Classical.not_not] at *; constructor <;> omega) | (simp only [Bool.and_eq_true, Bool.or_eq_true, Bool.not_eq_true', Bool.and_eq_false_iff, Bool.or_eq_false_iff, Bool.not_eq_false', decide_eq_true_eq, decide_eq_false_iff_not, Classical.not_not, lt, List.length_cons, List.length_nil, List.length_append, List.length_map, List.length_reverse, List.length_set, rangeI_length] at *; constructor <;> omega))) (ax_cons (px_add px_int (px_ixL (.is _) (px_var 4 rfl) px_int (by first | (constructor <;> omega) | (have tc_ := tc (by first | assumption | exact Bool.eq_false_iff.mpr (by assumption)); constructor <;> omega) | (have tp_ := tp (by assumption); constructor <;> omega) | (simp only [Bool.and_eq_true, Bool.or_eq_true, Bool.not_eq_true', Bool.and_eq_false_iff, Bool.or_eq_false_iff, Bool.not_eq_false', decide_eq_true_eq, decide_eq_false_iff_not, Classical.not_not] at *; constructor <;> omega) | (simp only [Bool.and_eq_true, Bool.or_eq_true, Bool.not_eq_true', Bool.and_eq_false_iff, Bool.or_eq_false_iff, Bool.not_eq_false', decide_eq_true_eq, decide_eq_false_iff_not, Classical.not_not, lt, List.length_cons, List.length_nil, List.length_append, List.length_map, List.length_reverse, List.length_set, rangeI_length] at *; constructor <;> omega)))) ax_nil))))) (fun v11_rule h11 => ?_) sc__law_each.nd
      exact sx_nil (sx_endN (.same (.same (.same (.same (.same (.same .nil)))))))
    · try simp only [Bool.and_eq_true, Bool.or_eq_true, Bool.not_eq_true', Bool.and_eq_false_iff, Bool.or_eq_false_iff, Bool.not_eq_false', decide_eq_true_eq, decide_eq_false_iff_not, Classical.not_not] at hc10
      exact sx_nil (sx_endN (.same (.same (.same (.same (.same (.same .nil)))))))
    refine sx_app 2 rfl (px_var 5 rfl) (by exact Nat.lt_of_le_of_lt (show _ ≤ 100000 by first | omega | (have tc_ := tc (by first | assumption | exact Bool.eq_false_iff.mpr (by assumption)); omega) | (have tp_ := tp (by assumption); omega) | (simp only [Bool.and_eq_true, Bool.or_eq_true, Bool.not_eq_true', Bool.and_eq_false_iff, Bool.or_eq_false_iff, Bool.not_eq_false', decide_eq_true_eq, decide_eq_false_iff_not, Classical.not_not] at *; omega) | (simp only [Bool.and_eq_true, Bool.or_eq_true, Bool.not_eq_true', Bool.and_eq_false_iff, Bool.or_eq_false_iff, Bool.not_eq_false', decide_eq_true_eq, decide_eq_false_iff_not, Classical.not_not, lt, List.length_cons, List.length_nil, List.length_append, List.length_map, List.length_reverse, List.length_set, rangeI_length] at *; omega)) (by decide)) (fun v12_rules h12 => ?_)
    exact sx_nil (sx_endN (.same (.same (.same (.drop (.drop (.drop .nil)))))))
  · have hr2 := rangeI_get hx2
    have hI2 := hI2
    have hI2l := hI2.1
    have hrg := rangeI_get hx2
    (dsimp only [lt]; exact each_snoc hI2 (if_ind (P := fun z : Rul => z.let.length ≤ 1) (fun c => Nat.zero_le _) (fun c => if_ind (P := fun z : Rul => z.let.length ≤ 1) (fun c => Nat.zero_le _) (fun c => Nat.le_refl 1))))
  have hJ2 := hI3
  rw [rangeI_length] at hJ2
  exact sx_retV (mr := (fun r => r)) 2 rfl (rets_ret) rfl
def PP__law_each (a_script : Scr) (a_many : Int) (res : (List Rul)) : Prop := RulP res
theorem post__law_each (a_script : Scr) (a_many : Int) (hp : 1 ≤ a_many ∧ a_many ≤ 48) : PP__law_each a_script a_many (m__law_each a_script a_many) := by
  unfold m__law_each
  refine lt_ind (P := PP__law_each a_script a_many) fun v1_rules h1 => ?_
  refine lt_ind (P := PP__law_each a_script a_many) fun s3 h3 => ?_
  have hI3 := foldl_ix (fun i s => s.length = i ∧ ∀ p ∈ s, p.let.length ≤ 1) ((fun (s2 : (List Rul)) (x2_k : Int) => lt (m__law_draws ((m__law_cell a_script ((4 : Int) + x2_k)) + x2_k) ([(5 : Int), (26 : Int), a_many, a_many, (127 : Int)] : List Int)) fun (v4_one : (List Int)) => 
    lt (Rul.ltr (m__law_letter (ix v4_one (1 : Int)))) fun (v5_rule : Rul) => 
    lt (if (decide ((ix v4_one (0 : Int)) > (1 : Int))) = true then lt (Rul.pair (ix v4_one (2 : Int)) (ix v4_one (3 : Int))) fun (v8_rule : Rul) => 
      v8_rule else v5_rule : Rul) fun (s7 : Rul) => 
    lt (if (decide ((ix v4_one (0 : Int)) = (4 : Int))) = true then lt (Rul.pow (ix v4_one (2 : Int)) ((2 : Int) + (ix v4_one (4 : Int)))) fun (v11_rule : Rul) => 
      v11_rule else s7 : Rul) fun (s10 : Rul) => 
    lt (s2 ++ [s10]) fun (v12_rules : (List Rul)) => 
    v12_rules)) (v1_rules : (List Rul)) (rangeI 0 (a_many).toNat) (by rw [h1]; exact ⟨rfl, fun p hp => (nomatch hp)⟩) (fun i2 s2 x2_k hx2 hI2 => by
    have hr2 := rangeI_get hx2
    have hI2 := hI2
    have hI2l := hI2.1
    have hrg := rangeI_get hx2
    ((dsimp only [lt]; exact each_snoc hI2 (if_ind (P := fun z : Rul => z.let.length ≤ 1) (fun c => Nat.zero_le _) (fun c => if_ind (P := fun z : Rul => z.let.length ≤ 1) (fun c => Nat.zero_le _) (fun c => Nat.le_refl 1))))))
  rw [← h3] at hI3
  have hJ2 := hI3
  rw [rangeI_length] at hJ2
  show RulP (s3)
  exact each_rulP (by omega) hJ2
def m__law_spoilt (a_rules : (List Rul)) (a_cell : Int) : (List Rul) :=
  lt (a_rules.length : Int) fun (v1_many : Int) => 
  (if (decide (v1_many = (0 : Int))) = true then ([] : List Rul) else 
  lt (m__law_draws a_cell ([v1_many, (3 : Int), (10 : Int), (10 : Int), (10 : Int), (6 : Int), (96 : Int), (26 : Int), (1000 : Int)] : List Int)) fun (v3_drawn : (List Int)) => 
    lt ([(0 : Int), (v1_many - (1 : Int)), (ix v3_drawn (0 : Int)), (v1_many / (2 : Int)), ((ix v3_drawn (8 : Int)) % v1_many), v1_many, (-(1 : Int)), (v1_many + (1 : Int)), (1000000000000000000000000000000 : Int), ((-(1 : Int)) - (ix v3_drawn (8 : Int)))] : List Int) fun (v4_near : (List Int)) => 
    lt ([(2 : Int), (128 : Int), (3 : Int), ((2 : Int) + ((ix v3_drawn (8 : Int)) % (127 : Int))), (1 : Int), (129 : Int), (0 : Int), ((-(1 : Int)) - (ix v3_drawn (8 : Int))), (1000 : Int), (1 : Int)] : List Int) fun (v5_times : (List Int)) => 
    lt (m__law_letter (ix v3_drawn (7 : Int))) fun (v6_letter : (List Nat)) => 
    lt (m__law_sign (ix v3_drawn (6 : Int))) fun (v7_sign : (List Nat)) => 
    lt (Rul.ltr (ix ([([] : List Nat), v7_sign, (v6_letter ++ v7_sign), (v7_sign ++ v6_letter), (v6_letter ++ v6_letter), v6_letter] : List (List Nat)) (ix v3_drawn (5 : Int)))) fun (v8_rule : Rul) => 
    lt (if (decide ((ix v3_drawn (1 : Int)) = (1 : Int))) = true then lt (Rul.pair (ix v4_near (ix v3_drawn (2 : Int))) (ix v4_near (ix v3_drawn (3 : Int)))) fun (v11_rule : Rul) => 
      v11_rule else v8_rule : Rul) fun (s10 : Rul) => 
    lt (if (decide ((ix v3_drawn (1 : Int)) = (2 : Int))) = true then lt (Rul.pow (ix v4_near ((ix v3_drawn (2 : Int)) % (7 : Int))) (ix v5_times (ix v3_drawn (4 : Int)))) fun (v14_rule : Rul) => 
      v14_rule else s10 : Rul) fun (s13 : Rul) => 
    (((sl a_rules none (some (ix v3_drawn (0 : Int)))) ++ ([s13] : List Rul)) ++ (sl a_rules (some ((ix v3_drawn (0 : Int)) + (1 : Int))) none)))
abbrev s__law_spoilt : Stmt := topS 66
abbrev N__law_spoilt : List Str := ["rules", "cell", "many", "drawn", "near", "times", "letter", "sign", "rule"]
theorem sc__law_spoilt : FnScope N__law_spoilt ["rules", "cell"] (defScope s__law_spoilt) := ⟨rfl, rfl, rfl, by decide +kernel, rfl, by decide +kernel, by decide +kernel⟩
abbrev Ok__law_spoilt (P : Program) (w : World) (K : PySem.W.Frag) (mg : Str → Option Value) (base : Heap) : Prop :=
  DefOk P w K mg base 2 "_law_spoilt" 2 (spD (ι := (List Rul) × Int) K (fun i => RulP i.1) (fun i => [.is i.1, .is i.2]) (fun i => .own (m__law_spoilt i.1 i.2)))
theorem ok__law_spoilt {P : Program} {w : World} {K : PySem.W.Frag} {mg : Str → Option Value} {base : Heap} {f : Addr} {fd : FuncData} (F : Fun K "_law_spoilt" "_law_spoilt" s__law_spoilt f fd) (hm : mg "_law_spoilt" = some (.ref f)) (bd : Binds K fd ["rules", "cell"] []) (T : Bt mg) (D__law_draws : Ok__law_draws P w K mg base) (D__law_letter : Ok__law_letter P w K mg base) (D__law_sign : Ok__law_sign P w K mg base) : Ok__law_spoilt P w K mg base := by
  refine defOk (kk := 1) (R := (List Rul)) F hm sc__law_spoilt bd _ _ (fun r => .own r) _ (fun _ => rfl) (fun i hp cdv A outer s H E hr => ?_)
  obtain ⟨a_rules, a_cell⟩ := i
  have hp : RulP a_rules := hp
  have hp1 := hp.1
  show SX _ _ [.is a_rules, .is a_cell, .no, .no, .no, .no, .no, .no, .no] _ (m__law_spoilt a_rules a_cell)
  unfold m__law_spoilt
  refine sx_set 2 (px_len (.is _) T.len_ (px_var 0 rfl)) (fun v1_many h1 => ?_) sc__law_spoilt.nd
  refine sx_if (tx_eq (px_var 2 rfl) px_int) (fun hc2 => ?_) (fun hc2 => ?_)
  · try simp only [Bool.and_eq_true, Bool.or_eq_true, Bool.not_eq_true', Bool.and_eq_false_iff, Bool.or_eq_false_iff, Bool.not_eq_false', decide_eq_true_eq, decide_eq_false_iff_not, Classical.not_not] at hc2
    exact sx_retO (mr := (fun r => r)) (rets_ret) rfl (px_list ([] : List Rul) ax_nil)
  · try simp only [Bool.and_eq_true, Bool.or_eq_true, Bool.not_eq_true', Bool.and_eq_false_iff, Bool.or_eq_false_iff, Bool.not_eq_false', decide_eq_true_eq, decide_eq_false_iff_not, Classical.not_not] at hc2
    refine sx_nil ?_
    refine sx_set 3 (px_share (x := (m__law_draws a_cell ([v1_many, (3 : Int), (10 : Int), (10 : Int), (10 : Int), (6 : Int), (96 : Int), (26 : Int), (1000 : Int)] : List Int))) (px_call D__law_draws (a_cell, ([v1_many, (3 : Int), (10 : Int), (10 : Int), (10 : Int), (6 : Int), (96 : Int), (26 : Int), (1000 : Int)] : List Int)) (by show DrawsPre (([v1_many, (3 : Int), (10 : Int), (10 : Int), (10 : Int), (6 : Int), (96 : Int), (26 : Int), (1000 : Int)] : List Int)); refine ⟨show 9 ≤ 10000 by decide, fun s hs => ?_⟩; simp only [List.mem_cons, List.not_mem_nil, or_false] at hs; omega) (hr.mono (by decide)) (ax_cons (px_var 1 rfl) (ax_cons (px_list ([v1_many, (3 : Int), (10 : Int), (10 : Int), (10 : Int), (6 : Int), (96 : Int), (26 : Int), (1000 : Int)] : List Int) (ax_cons (px_var 2 rfl) (ax_cons px_int (ax_cons px_int (ax_cons px_int (ax_cons px_int (ax_cons px_int (ax_cons px_int (ax_cons px_int (ax_cons px_int ax_nil)))))))))) ax_nil)) (.is (.arg (.own _) .nil)))) (fun v3_drawn h3 => ?_) sc__law_spoilt.nd
    have hL := (draws_all h3 (by refine ⟨show 9 ≤ 10000 by decide, fun s hs => ?_⟩; simp only [List.mem_cons, List.not_mem_nil, or_false] at hs; omega)).1
    have hD := (draws_all h3 (by refine ⟨show 9 ≤ 10000 by decide, fun s hs => ?_⟩; simp only [List.mem_cons, List.not_mem_nil, or_false] at hs; omega)).2
    simp only [List.length_cons, List.length_nil] at hL
    have f0 := hD (0 : Int) v1_many rfl (by decide)
    have f1 := hD (1 : Int) 3 rfl (by decide)
    have f2 := hD (2 : Int) 10 rfl (by decide)
    have f3 := hD (3 : Int) 10 rfl (by decide)
    have f4 := hD (4 : Int) 10 rfl (by decide)
    have f5 := hD (5 : Int) 6 rfl (by decide)
    clear hD h3
    refine sx_set 4 (px_share (px_list ([(0 : Int), (v1_many - (1 : Int)), (ix v3_drawn (0 : Int)), (v1_many / (2 : Int)), ((ix v3_drawn (8 : Int)) % v1_many), v1_many, (-(1 : Int)), (v1_many + (1 : Int)), (1000000000000000000000000000000 : Int), ((-(1 : Int)) - (ix v3_drawn (8 : Int)))] : List Int) (ax_cons px_int (ax_cons (px_sub (px_var 2 rfl) px_int) (ax_cons (px_ixL (.is _) (px_var 3 rfl) px_int (by first | (constructor <;> omega) | (have tc_ := tc (by first | assumption | exact Bool.eq_false_iff.mpr (by assumption)); constructor <;> omega) | (have tp_ := tp (by assumption); constructor <;> omega) | (simp only [Bool.and_eq_true, Bool.or_eq_true, Bool.not_eq_true', Bool.and_eq_false_iff, Bool.or_eq_false_iff, Bool.not_eq_false', decide_eq_true_eq, decide_eq_false_iff_not, Classical.not_not] at *; constructor <;> omega) | (simp only [Bool.and_eq_true, Bool.or_eq_true, Bool.not_eq_true', Bool.and_eq_false_iff, Bool.or_eq_false_iff, Bool.not_eq_false', decide_eq_true_eq, decide_eq_false_iff_not, Classical.not_not, lt, List.length_cons, List.length_nil, List.length_append, List.length_map, List.length_reverse, List.length_set, rangeI_length] at *; constructor <;> omega))) (ax_cons (px_div (px_var 2 rfl) px_int (by exact wide_div (b := 64) (by omega) (by omega) (by decide) (by decide))) (ax_cons (px_mod (px_int1 T.int_ (px_ixL (.is _) (px_var 3 rfl) px_int (by first | (constructor <;> omega) | (have tc_ := tc (by first | assumption | exact Bool.eq_false_iff.mpr (by assumption)); constructor <;> omega) | (have tp_ := tp (by assumption); constructor <;> omega) | (simp only [Bool.and_eq_true, Bool.or_eq_true, Bool.not_eq_true', Bool.and_eq_false_iff, Bool.or_eq_false_iff, Bool.not_eq_false', decide_eq_true_eq, decide_eq_false_iff_not, Classical.not_not] at *; constructor <;> omega) | (simp only [Bool.and_eq_true, Bool.or_eq_true, Bool.not_eq_true', Bool.and_eq_false_iff, Bool.or_eq_false_iff, Bool.not_eq_false', decide_eq_true_eq, decide_eq_false_iff_not, Classical.not_not, lt, List.length_cons, List.length_nil, List.length_append, List.length_map, List.length_reverse, List.length_set, rangeI_length] at *; constructor <;> omega)))) (px_var 2 rfl) (by first | omega | (have tc_ := tc (by first | assumption | exact Bool.eq_false_iff.mpr (by assumption)); omega) | (have tp_ := tp (by assumption); omega) | (simp only [Bool.and_eq_true, Bool.or_eq_true, Bool.not_eq_true', Bool.and_eq_false_iff, Bool.or_eq_false_iff, Bool.not_eq_false', decide_eq_true_eq, decide_eq_false_iff_not, Classical.not_not] at *; omega) | (simp only [Bool.and_eq_true, Bool.or_eq_true, Bool.not_eq_true', Bool.and_eq_false_iff, Bool.or_eq_false_iff, Bool.not_eq_false', decide_eq_true_eq, decide_eq_false_iff_not, Classical.not_not, lt, List.length_cons, List.length_nil, List.length_append, List.length_map, List.length_reverse, List.length_set, rangeI_length] at *; omega))) (ax_cons (px_var 2 rfl) (ax_cons (px_neg px_int) (ax_cons (px_add (px_var 2 rfl) px_int) (ax_cons (px_powC (z := 1000000000000000000000000000000) px_int px_int (by exact ⟨by decide, by decide, by decide⟩) (by decide +kernel)) (ax_cons (px_sub (px_neg px_int) (px_ixL (.is _) (px_var 3 rfl) px_int (by first | (constructor <;> omega) | (have tc_ := tc (by first | assumption | exact Bool.eq_false_iff.mpr (by assumption)); constructor <;> omega) | (have tp_ := tp (by assumption); constructor <;> omega) | (simp only [Bool.and_eq_true, Bool.or_eq_true, Bool.not_eq_true', Bool.and_eq_false_iff, Bool.or_eq_false_iff, Bool.not_eq_false', decide_eq_true_eq, decide_eq_false_iff_not, Classical.not_not] at *; constructor <;> omega) | (simp only [Bool.and_eq_true, Bool.or_eq_true, Bool.not_eq_true', Bool.and_eq_false_iff, Bool.or_eq_false_iff, Bool.not_eq_false', decide_eq_true_eq, decide_eq_false_iff_not, Classical.not_not, lt, List.length_cons, List.length_nil, List.length_append, List.length_map, List.length_reverse, List.length_set, rangeI_length] at *; constructor <;> omega)))) ax_nil)))))))))))) (fun v4_near h4 => ?_) sc__law_spoilt.nd
    have hnl : v4_near.length = 10 := by rw [h4]; rfl
    refine sx_set 5 (px_share (px_list ([(2 : Int), (128 : Int), (3 : Int), ((2 : Int) + ((ix v3_drawn (8 : Int)) % (127 : Int))), (1 : Int), (129 : Int), (0 : Int), ((-(1 : Int)) - (ix v3_drawn (8 : Int))), (1000 : Int), (1 : Int)] : List Int) (ax_cons px_int (ax_cons px_int (ax_cons px_int (ax_cons (px_add px_int (px_mod (px_int1 T.int_ (px_ixL (.is _) (px_var 3 rfl) px_int (by first | (constructor <;> omega) | (have tc_ := tc (by first | assumption | exact Bool.eq_false_iff.mpr (by assumption)); constructor <;> omega) | (have tp_ := tp (by assumption); constructor <;> omega) | (simp only [Bool.and_eq_true, Bool.or_eq_true, Bool.not_eq_true', Bool.and_eq_false_iff, Bool.or_eq_false_iff, Bool.not_eq_false', decide_eq_true_eq, decide_eq_false_iff_not, Classical.not_not] at *; constructor <;> omega) | (simp only [Bool.and_eq_true, Bool.or_eq_true, Bool.not_eq_true', Bool.and_eq_false_iff, Bool.or_eq_false_iff, Bool.not_eq_false', decide_eq_true_eq, decide_eq_false_iff_not, Classical.not_not, lt, List.length_cons, List.length_nil, List.length_append, List.length_map, List.length_reverse, List.length_set, rangeI_length] at *; constructor <;> omega)))) px_int (by first | omega | (have tc_ := tc (by first | assumption | exact Bool.eq_false_iff.mpr (by assumption)); omega) | (have tp_ := tp (by assumption); omega) | (simp only [Bool.and_eq_true, Bool.or_eq_true, Bool.not_eq_true', Bool.and_eq_false_iff, Bool.or_eq_false_iff, Bool.not_eq_false', decide_eq_true_eq, decide_eq_false_iff_not, Classical.not_not] at *; omega) | (simp only [Bool.and_eq_true, Bool.or_eq_true, Bool.not_eq_true', Bool.and_eq_false_iff, Bool.or_eq_false_iff, Bool.not_eq_false', decide_eq_true_eq, decide_eq_false_iff_not, Classical.not_not, lt, List.length_cons, List.length_nil, List.length_append, List.length_map, List.length_reverse, List.length_set, rangeI_length] at *; omega)))) (ax_cons px_int (ax_cons px_int (ax_cons px_int (ax_cons (px_sub (px_neg px_int) (px_ixL (.is _) (px_var 3 rfl) px_int (by first | (constructor <;> omega) | (have tc_ := tc (by first | assumption | exact Bool.eq_false_iff.mpr (by assumption)); constructor <;> omega) | (have tp_ := tp (by assumption); constructor <;> omega) | (simp only [Bool.and_eq_true, Bool.or_eq_true, Bool.not_eq_true', Bool.and_eq_false_iff, Bool.or_eq_false_iff, Bool.not_eq_false', decide_eq_true_eq, decide_eq_false_iff_not, Classical.not_not] at *; constructor <;> omega) | (simp only [Bool.and_eq_true, Bool.or_eq_true, Bool.not_eq_true', Bool.and_eq_false_iff, Bool.or_eq_false_iff, Bool.not_eq_false', decide_eq_true_eq, decide_eq_false_iff_not, Classical.not_not, lt, List.length_cons, List.length_nil, List.length_append, List.length_map, List.length_reverse, List.length_set, rangeI_length] at *; constructor <;> omega)))) (ax_cons px_int (ax_cons px_int ax_nil)))))))))))) (fun v5_times h5 => ?_) sc__law_spoilt.nd
    have htl : v5_times.length = 10 := by rw [h5]; rfl
    refine sx_set 6 (px_callT D__law_letter (ix v3_drawn (7 : Int)) (by trivial) (hr.mono (by decide)) (ax_cons (px_ixL (.is _) (px_var 3 rfl) px_int (by first | (constructor <;> omega) | (have tc_ := tc (by first | assumption | exact Bool.eq_false_iff.mpr (by assumption)); constructor <;> omega) | (have tp_ := tp (by assumption); constructor <;> omega) | (simp only [Bool.and_eq_true, Bool.or_eq_true, Bool.not_eq_true', Bool.and_eq_false_iff, Bool.or_eq_false_iff, Bool.not_eq_false', decide_eq_true_eq, decide_eq_false_iff_not, Classical.not_not] at *; constructor <;> omega) | (simp only [Bool.and_eq_true, Bool.or_eq_true, Bool.not_eq_true', Bool.and_eq_false_iff, Bool.or_eq_false_iff, Bool.not_eq_false', decide_eq_true_eq, decide_eq_false_iff_not, Classical.not_not, lt, List.length_cons, List.length_nil, List.length_append, List.length_map, List.length_reverse, List.length_set, rangeI_length] at *; constructor <;> omega))) ax_nil) (.is .nil)) (fun v6_letter h6 => ?_) sc__law_spoilt.nd
    have hle : v6_letter.length = 1 := by rw [h6]; rfl
    refine sx_set 7 (px_callT D__law_sign (ix v3_drawn (6 : Int)) (by trivial) (hr.mono (by decide)) (ax_cons (px_ixL (.is _) (px_var 3 rfl) px_int (by first | (constructor <;> omega) | (have tc_ := tc (by first | assumption | exact Bool.eq_false_iff.mpr (by assumption)); constructor <;> omega) | (have tp_ := tp (by assumption); constructor <;> omega) | (simp only [Bool.and_eq_true, Bool.or_eq_true, Bool.not_eq_true', Bool.and_eq_false_iff, Bool.or_eq_false_iff, Bool.not_eq_false', decide_eq_true_eq, decide_eq_false_iff_not, Classical.not_not] at *; constructor <;> omega) | (simp only [Bool.and_eq_true, Bool.or_eq_true, Bool.not_eq_true', Bool.and_eq_false_iff, Bool.or_eq_false_iff, Bool.not_eq_false', decide_eq_true_eq, decide_eq_false_iff_not, Classical.not_not, lt, List.length_cons, List.length_nil, List.length_append, List.length_map, List.length_reverse, List.length_set, rangeI_length] at *; constructor <;> omega))) ax_nil) (.is .nil)) (fun v7_sign h7 => ?_) sc__law_spoilt.nd
    have hsi : v7_sign.length = 1 := by rw [h7]; rfl
    refine sx_set 8 (rul_of_pair (px_pair (ax_cons (px_str (x := ([108, 101, 116, 116, 101, 114] : List Nat)) (by decide +kernel)) (ax_cons (px_ixL (.own _) (px_list ([([] : List Nat), v7_sign, (v6_letter ++ v7_sign), (v7_sign ++ v6_letter), (v6_letter ++ v6_letter), v6_letter] : List (List Nat)) (ax_cons (px_str (x := ([] : List Nat)) (by decide +kernel)) (ax_cons (px_var 7 rfl) (ax_cons (px_addS (px_var 6 rfl) (px_var 7 rfl) (by exact Nat.le_trans (show _ ≤ 100000 by (first | omega | (simp only [lt, List.length_cons, List.length_nil, List.length_append, List.length_map, List.length_reverse, List.length_set, rangeI_length]; omega))) (by decide))) (ax_cons (px_addS (px_var 7 rfl) (px_var 6 rfl) (by exact Nat.le_trans (show _ ≤ 100000 by (first | omega | (simp only [lt, List.length_cons, List.length_nil, List.length_append, List.length_map, List.length_reverse, List.length_set, rangeI_length]; omega))) (by decide))) (ax_cons (px_addS (px_var 6 rfl) (px_var 6 rfl) (by exact Nat.le_trans (show _ ≤ 100000 by (first | omega | (simp only [lt, List.length_cons, List.length_nil, List.length_append, List.length_map, List.length_reverse, List.length_set, rangeI_length]; omega))) (by decide))) (ax_cons (px_var 6 rfl) ax_nil))))))) (px_ixL (.is _) (px_var 3 rfl) px_int (by first | (constructor <;> omega) | (have tc_ := tc (by first | assumption | exact Bool.eq_false_iff.mpr (by assumption)); constructor <;> omega) | (have tp_ := tp (by assumption); constructor <;> omega) | (simp only [Bool.and_eq_true, Bool.or_eq_true, Bool.not_eq_true', Bool.and_eq_false_iff, Bool.or_eq_false_iff, Bool.not_eq_false', decide_eq_true_eq, decide_eq_false_iff_not, Classical.not_not] at *; constructor <;> omega) | (simp only [Bool.and_eq_true, Bool.or_eq_true, Bool.not_eq_true', Bool.and_eq_false_iff, Bool.or_eq_false_iff, Bool.not_eq_false', decide_eq_true_eq, decide_eq_false_iff_not, Classical.not_not, lt, List.length_cons, List.length_nil, List.length_append, List.length_map, List.length_reverse, List.length_set, rangeI_length] at *; constructor <;> omega))) (by first | (constructor <;> omega) | (have tc_ := tc (by first | assumption | exact Bool.eq_false_iff.mpr (by assumption)); constructor <;> omega) | (have tp_ := tp (by assumption); constructor <;> omega) | (simp only [Bool.and_eq_true, Bool.or_eq_true, Bool.not_eq_true', Bool.and_eq_false_iff, Bool.or_eq_false_iff, Bool.not_eq_false', decide_eq_true_eq, decide_eq_false_iff_not, Classical.not_not] at *; constructor <;> omega) | (simp only [Bool.and_eq_true, Bool.or_eq_true, Bool.not_eq_true', Bool.and_eq_false_iff, Bool.or_eq_false_iff, Bool.not_eq_false', decide_eq_true_eq, decide_eq_false_iff_not, Classical.not_not, lt, List.length_cons, List.length_nil, List.length_append, List.length_map, List.length_reverse, List.length_set, rangeI_length] at *; constructor <;> omega))) ax_nil)))) (fun v8_rule h8 => ?_) sc__law_spoilt.nd
    have hr9 : v8_rule.let.length ≤ 2 := by { rw [h8]; exact ix_all (fun y : List Nat => y.length ≤ 2) (by intro y hy; simp only [List.mem_cons, List.not_mem_nil, or_false] at hy; rcases hy with z | z | z | z | z | z <;> rw [z] <;> (try rw [List.length_append]) <;> (try simp only [List.length_nil]) <;> omega) (by simp only [List.length_cons, List.length_nil]; constructor <;> omega) }
    refine sx_ifj (fun (s10 : Rul) => [.is a_rules, .is a_cell, .is v1_many, .is v3_drawn, .is v4_near, .is v5_times, .is v6_letter, .is v7_sign, .is s10]) (tx_eq (px_ixL (.is _) (px_var 3 rfl) px_int (by first | (constructor <;> omega) | (have tc_ := tc (by first | assumption | exact Bool.eq_false_iff.mpr (by assumption)); constructor <;> omega) | (have tp_ := tp (by assumption); constructor <;> omega) | (simp only [Bool.and_eq_true, Bool.or_eq_true, Bool.not_eq_true', Bool.and_eq_false_iff, Bool.or_eq_false_iff, Bool.not_eq_false', decide_eq_true_eq, decide_eq_false_iff_not, Classical.not_not] at *; constructor <;> omega) | (simp only [Bool.and_eq_true, Bool.or_eq_true, Bool.not_eq_true', Bool.and_eq_false_iff, Bool.or_eq_false_iff, Bool.not_eq_false', decide_eq_true_eq, decide_eq_false_iff_not, Classical.not_not, lt, List.length_cons, List.length_nil, List.length_append, List.length_map, List.length_reverse, List.length_set, rangeI_length] at *; constructor <;> omega))) px_int) (fun hc10 => ?_) (fun hc10 => ?_) (fun s10 h10 => ?_)
    · try simp only [Bool.and_eq_true, Bool.or_eq_true, Bool.not_eq_true', Bool.and_eq_false_iff, Bool.or_eq_false_iff, Bool.not_eq_false', decide_eq_true_eq, decide_eq_false_iff_not, Classical.not_not] at hc10
      refine sx_set 8 (rul_of_t3 (px_t3 (ax_cons (px_str (x := ([112, 97, 105, 114] : List Nat)) (by decide +kernel)) (ax_cons (px_ixL (.is _) (px_var 4 rfl) (px_ixL (.is _) (px_var 3 rfl) px_int (by first | (constructor <;> omega) | (have tc_ := tc (by first | assumption | exact Bool.eq_false_iff.mpr (by assumption)); constructor <;> omega) | (have tp_ := tp (by assumption); constructor <;> omega) | (simp only [Bool.and_eq_true, Bool.or_eq_true, Bool.not_eq_true', Bool.and_eq_false_iff, Bool.or_eq_false_iff, Bool.not_eq_false', decide_eq_true_eq, decide_eq_false_iff_not, Classical.not_not] at *; constructor <;> omega) | (simp only [Bool.and_eq_true, Bool.or_eq_true, Bool.not_eq_true', Bool.and_eq_false_iff, Bool.or_eq_false_iff, Bool.not_eq_false', decide_eq_true_eq, decide_eq_false_iff_not, Classical.not_not, lt, List.length_cons, List.length_nil, List.length_append, List.length_map, List.length_reverse, List.length_set, rangeI_length] at *; constructor <;> omega))) (by first | (constructor <;> omega) | (have tc_ := tc (by first | assumption | exact Bool.eq_false_iff.mpr (by assumption)); constructor <;> omega) | (have tp_ := tp (by assumption); constructor <;> omega) | (simp only [Bool.and_eq_true, Bool.or_eq_true, Bool.not_eq_true', Bool.and_eq_false_iff, Bool.or_eq_false_iff, Bool.not_eq_false', decide_eq_true_eq, decide_eq_false_iff_not, Classical.not_not] at *; constructor <;> omega) | (simp only [Bool.and_eq_true, Bool.or_eq_true, Bool.not_eq_true', Bool.and_eq_false_iff, Bool.or_eq_false_iff, Bool.not_eq_false', decide_eq_true_eq, decide_eq_false_iff_not, Classical.not_not, lt, List.length_cons, List.length_nil, List.length_append, List.length_map, List.length_reverse, List.length_set, rangeI_length] at *; constructor <;> omega))) (ax_cons (px_ixL (.is _) (px_var 4 rfl) (px_ixL (.is _) (px_var 3 rfl) px_int (by first | (constructor <;> omega) | (have tc_ := tc (by first | assumption | exact Bool.eq_false_iff.mpr (by assumption)); constructor <;> omega) | (have tp_ := tp (by assumption); constructor <;> omega) | (simp only [Bool.and_eq_true, Bool.or_eq_true, Bool.not_eq_true', Bool.and_eq_false_iff, Bool.or_eq_false_iff, Bool.not_eq_false', decide_eq_true_eq, decide_eq_false_iff_not, Classical.not_not] at *; constructor <;> omega) | (simp only [Bool.and_eq_true, Bool.or_eq_true, Bool.not_eq_true', Bool.and_eq_false_iff, Bool.or_eq_false_iff, Bool.not_eq_false', decide_eq_true_eq, decide_eq_false_iff_not, Classical.not_not, lt, List.length_cons, List.length_nil, List.length_append, List.length_map, List.length_reverse, List.length_set, rangeI_length] at *; constructor <;> omega))) (by first | (constructor <;> omega) | (have tc_ := tc (by first | assumption | exact Bool.eq_false_iff.mpr (by assumption)); constructor <;> omega) | (have tp_ := tp (by assumption); constructor <;> omega) | (simp only [Bool.and_eq_true, Bool.or_eq_true, Bool.not_eq_true', Bool.and_eq_false_iff, Bool.or_eq_false_iff, Bool.not_eq_false', decide_eq_true_eq, decide_eq_false_iff_not, Classical.not_not] at *; constructor <;> omega) | (simp only [Bool.and_eq_true, Bool.or_eq_true, Bool.not_eq_true', Bool.and_eq_false_iff, Bool.or_eq_false_iff, Bool.not_eq_false', decide_eq_true_eq, decide_eq_false_iff_not, Classical.not_not, lt, List.length_cons, List.length_nil, List.length_append, List.length_map, List.length_reverse, List.length_set, rangeI_length] at *; constructor <;> omega))) ax_nil))))) (fun v11_rule h11 => ?_) sc__law_spoilt.nd
      exact sx_nil (sx_endN (.same (.same (.same (.same (.same (.same (.same (.same (.same .nil))))))))))
    · try simp only [Bool.and_eq_true, Bool.or_eq_true, Bool.not_eq_true', Bool.and_eq_false_iff, Bool.or_eq_false_iff, Bool.not_eq_false', decide_eq_true_eq, decide_eq_false_iff_not, Classical.not_not] at hc10
      exact sx_nil (sx_endN (.same (.same (.same (.same (.same (.same (.same (.same (.same .nil))))))))))
    have hr11 : s10.let.length ≤ 2 := by { rw [h10]; exact if_ind (P := fun z : Rul => z.let.length ≤ 2) (fun c => Nat.zero_le _) (fun c => hr9) }
    refine sx_ifj (fun (s13 : Rul) => [.is a_rules, .is a_cell, .is v1_many, .is v3_drawn, .is v4_near, .is v5_times, .is v6_letter, .is v7_sign, .is s13]) (tx_eq (px_ixL (.is _) (px_var 3 rfl) px_int (by first | (constructor <;> omega) | (have tc_ := tc (by first | assumption | exact Bool.eq_false_iff.mpr (by assumption)); constructor <;> omega) | (have tp_ := tp (by assumption); constructor <;> omega) | (simp only [Bool.and_eq_true, Bool.or_eq_true, Bool.not_eq_true', Bool.and_eq_false_iff, Bool.or_eq_false_iff, Bool.not_eq_false', decide_eq_true_eq, decide_eq_false_iff_not, Classical.not_not] at *; constructor <;> omega) | (simp only [Bool.and_eq_true, Bool.or_eq_true, Bool.not_eq_true', Bool.and_eq_false_iff, Bool.or_eq_false_iff, Bool.not_eq_false', decide_eq_true_eq, decide_eq_false_iff_not, Classical.not_not, lt, List.length_cons, List.length_nil, List.length_append, List.length_map, List.length_reverse, List.length_set, rangeI_length] at *; constructor <;> omega))) px_int) (fun hc13 => ?_) (fun hc13 => ?_) (fun s13 h13 => ?_)
    · try simp only [Bool.and_eq_true, Bool.or_eq_true, Bool.not_eq_true', Bool.and_eq_false_iff, Bool.or_eq_false_iff, Bool.not_eq_false', decide_eq_true_eq, decide_eq_false_iff_not, Classical.not_not] at hc13
      refine sx_set 8 (rul_of_pow (px_t3 (ax_cons (px_str (x := ([112, 111, 119, 101, 114] : List Nat)) (by decide +kernel)) (ax_cons (px_ixL (.is _) (px_var 4 rfl) (px_mod (px_int1 T.int_ (px_ixL (.is _) (px_var 3 rfl) px_int (by first | (constructor <;> omega) | (have tc_ := tc (by first | assumption | exact Bool.eq_false_iff.mpr (by assumption)); constructor <;> omega) | (have tp_ := tp (by assumption); constructor <;> omega) | (simp only [Bool.and_eq_true, Bool.or_eq_true, Bool.not_eq_true', Bool.and_eq_false_iff, Bool.or_eq_false_iff, Bool.not_eq_false', decide_eq_true_eq, decide_eq_false_iff_not, Classical.not_not] at *; constructor <;> omega) | (simp only [Bool.and_eq_true, Bool.or_eq_true, Bool.not_eq_true', Bool.and_eq_false_iff, Bool.or_eq_false_iff, Bool.not_eq_false', decide_eq_true_eq, decide_eq_false_iff_not, Classical.not_not, lt, List.length_cons, List.length_nil, List.length_append, List.length_map, List.length_reverse, List.length_set, rangeI_length] at *; constructor <;> omega)))) px_int (by first | omega | (have tc_ := tc (by first | assumption | exact Bool.eq_false_iff.mpr (by assumption)); omega) | (have tp_ := tp (by assumption); omega) | (simp only [Bool.and_eq_true, Bool.or_eq_true, Bool.not_eq_true', Bool.and_eq_false_iff, Bool.or_eq_false_iff, Bool.not_eq_false', decide_eq_true_eq, decide_eq_false_iff_not, Classical.not_not] at *; omega) | (simp only [Bool.and_eq_true, Bool.or_eq_true, Bool.not_eq_true', Bool.and_eq_false_iff, Bool.or_eq_false_iff, Bool.not_eq_false', decide_eq_true_eq, decide_eq_false_iff_not, Classical.not_not, lt, List.length_cons, List.length_nil, List.length_append, List.length_map, List.length_reverse, List.length_set, rangeI_length] at *; omega))) (by first | (constructor <;> omega) | (have tc_ := tc (by first | assumption | exact Bool.eq_false_iff.mpr (by assumption)); constructor <;> omega) | (have tp_ := tp (by assumption); constructor <;> omega) | (simp only [Bool.and_eq_true, Bool.or_eq_true, Bool.not_eq_true', Bool.and_eq_false_iff, Bool.or_eq_false_iff, Bool.not_eq_false', decide_eq_true_eq, decide_eq_false_iff_not, Classical.not_not] at *; constructor <;> omega) | (simp only [Bool.and_eq_true, Bool.or_eq_true, Bool.not_eq_true', Bool.and_eq_false_iff, Bool.or_eq_false_iff, Bool.not_eq_false', decide_eq_true_eq, decide_eq_false_iff_not, Classical.not_not, lt, List.length_cons, List.length_nil, List.length_append, List.length_map, List.length_reverse, List.length_set, rangeI_length] at *; constructor <;> omega))) (ax_cons (px_ixL (.is _) (px_var 5 rfl) (px_ixL (.is _) (px_var 3 rfl) px_int (by first | (constructor <;> omega) | (have tc_ := tc (by first | assumption | exact Bool.eq_false_iff.mpr (by assumption)); constructor <;> omega) | (have tp_ := tp (by assumption); constructor <;> omega) | (simp only [Bool.and_eq_true, Bool.or_eq_true, Bool.not_eq_true', Bool.and_eq_false_iff, Bool.or_eq_false_iff, Bool.not_eq_false', decide_eq_true_eq, decide_eq_false_iff_not, Classical.not_not] at *; constructor <;> omega) | (simp only [Bool.and_eq_true, Bool.or_eq_true, Bool.not_eq_true', Bool.and_eq_false_iff, Bool.or_eq_false_iff, Bool.not_eq_false', decide_eq_true_eq, decide_eq_false_iff_not, Classical.not_not, lt, List.length_cons, List.length_nil, List.length_append, List.length_map, List.length_reverse, List.length_set, rangeI_length] at *; constructor <;> omega))) (by first | (constructor <;> omega) | (have tc_ := tc (by first | assumption | exact Bool.eq_false_iff.mpr (by assumption)); constructor <;> omega) | (have tp_ := tp (by assumption); constructor <;> omega) | (simp only [Bool.and_eq_true, Bool.or_eq_true, Bool.not_eq_true', Bool.and_eq_false_iff, Bool.or_eq_false_iff, Bool.not_eq_false', decide_eq_true_eq, decide_eq_false_iff_not, Classical.not_not] at *; constructor <;> omega) | (simp only [Bool.and_eq_true, Bool.or_eq_true, Bool.not_eq_true', Bool.and_eq_false_iff, Bool.or_eq_false_iff, Bool.not_eq_false', decide_eq_true_eq, decide_eq_false_iff_not, Classical.not_not, lt, List.length_cons, List.length_nil, List.length_append, List.length_map, List.length_reverse, List.length_set, rangeI_length] at *; constructor <;> omega))) ax_nil))))) (fun v14_rule h14 => ?_) sc__law_spoilt.nd
      exact sx_nil (sx_endN (.same (.same (.same (.same (.same (.same (.same (.same (.same .nil))))))))))
    · try simp only [Bool.and_eq_true, Bool.or_eq_true, Bool.not_eq_true', Bool.and_eq_false_iff, Bool.or_eq_false_iff, Bool.not_eq_false', decide_eq_true_eq, decide_eq_false_iff_not, Classical.not_not] at hc13
      exact sx_nil (sx_endN (.same (.same (.same (.same (.same (.same (.same (.same (.same .nil))))))))))
    have hr14 : s13.let.length ≤ 2 := by { rw [h13]; exact if_ind (P := fun z : Rul => z.let.length ≤ 2) (fun c => Nat.zero_le _) (fun c => hr11) }
    exact sx_retO (mr := (fun r => r)) (rets_ret) rfl (px_cat (.own _) (.own _) (px_cat (.own _) (.own _) (px_sl (.is _) (px_var 0 rfl) ox_none (ox_some (px_ixL (.is _) (px_var 3 rfl) px_int (by first | (constructor <;> omega) | (have tc_ := tc (by first | assumption | exact Bool.eq_false_iff.mpr (by assumption)); constructor <;> omega) | (have tp_ := tp (by assumption); constructor <;> omega) | (simp only [Bool.and_eq_true, Bool.or_eq_true, Bool.not_eq_true', Bool.and_eq_false_iff, Bool.or_eq_false_iff, Bool.not_eq_false', decide_eq_true_eq, decide_eq_false_iff_not, Classical.not_not] at *; constructor <;> omega) | (simp only [Bool.and_eq_true, Bool.or_eq_true, Bool.not_eq_true', Bool.and_eq_false_iff, Bool.or_eq_false_iff, Bool.not_eq_false', decide_eq_true_eq, decide_eq_false_iff_not, Classical.not_not, lt, List.length_cons, List.length_nil, List.length_append, List.length_map, List.length_reverse, List.length_set, rangeI_length] at *; constructor <;> omega))))) (px_list ([s13] : List Rul) (ax_cons (px_var 8 rfl) ax_nil)) (by have := sl_length_le a_rules none (some (ix v3_drawn (0 : Int))); first | (exact Nat.le_trans (show _ ≤ 100000 by (first | omega | (simp only [lt, List.length_cons, List.length_nil, List.length_append, List.length_map, List.length_reverse, List.length_set, rangeI_length]; omega))) (by decide)) | (simp only [repL_length, List.length_append, List.length_cons, List.length_nil]; rw [show sizeLine = 16777216 from sizeLine_eq]; omega))) (px_sl (.is _) (px_var 0 rfl) (ox_some (px_add (px_ixL (.is _) (px_var 3 rfl) px_int (by first | (constructor <;> omega) | (have tc_ := tc (by first | assumption | exact Bool.eq_false_iff.mpr (by assumption)); constructor <;> omega) | (have tp_ := tp (by assumption); constructor <;> omega) | (simp only [Bool.and_eq_true, Bool.or_eq_true, Bool.not_eq_true', Bool.and_eq_false_iff, Bool.or_eq_false_iff, Bool.not_eq_false', decide_eq_true_eq, decide_eq_false_iff_not, Classical.not_not] at *; constructor <;> omega) | (simp only [Bool.and_eq_true, Bool.or_eq_true, Bool.not_eq_true', Bool.and_eq_false_iff, Bool.or_eq_false_iff, Bool.not_eq_false', decide_eq_true_eq, decide_eq_false_iff_not, Classical.not_not, lt, List.length_cons, List.length_nil, List.length_append, List.length_map, List.length_reverse, List.length_set, rangeI_length] at *; constructor <;> omega))) px_int)) ox_none) (by have := sl_length_le a_rules none (some (ix v3_drawn (0 : Int))); have := sl_length_le a_rules (some ((ix v3_drawn (0 : Int)) + (1 : Int))) none; first | (exact Nat.le_trans (show _ ≤ 100000 by (first | omega | (simp only [lt, List.length_cons, List.length_nil, List.length_append, List.length_map, List.length_reverse, List.length_set, rangeI_length]; omega))) (by decide)) | (simp only [repL_length, List.length_append, List.length_cons, List.length_nil]; rw [show sizeLine = 16777216 from sizeLine_eq]; omega)))
def PP__law_spoilt (a_rules : (List Rul)) (a_cell : Int) (res : (List Rul)) : Prop := RulP res
theorem post__law_spoilt (a_rules : (List Rul)) (a_cell : Int) (hp : RulP a_rules) : PP__law_spoilt a_rules a_cell (m__law_spoilt a_rules a_cell) := by
  have hp1 := hp.1
  unfold m__law_spoilt
  refine lt_ind (P := PP__law_spoilt a_rules a_cell) fun v1_many h1 => ?_
  refine if_ind (P := PP__law_spoilt a_rules a_cell) (fun hc2 => ?_) (fun hc2 => ?_)
  · try simp only [Bool.and_eq_true, Bool.or_eq_true, Bool.not_eq_true', Bool.and_eq_false_iff, Bool.or_eq_false_iff, Bool.not_eq_false', decide_eq_true_eq, decide_eq_false_iff_not, Classical.not_not] at hc2
    show RulP (([] : List Rul))
    exact ⟨Nat.zero_le _, fun p hp => (nomatch hp)⟩
  · try simp only [Bool.and_eq_true, Bool.or_eq_true, Bool.not_eq_true', Bool.and_eq_false_iff, Bool.or_eq_false_iff, Bool.not_eq_false', decide_eq_true_eq, decide_eq_false_iff_not, Classical.not_not] at hc2
    refine lt_ind (P := PP__law_spoilt a_rules a_cell) fun v4_drawn h4 => ?_
    have hL := (draws_all h4 (by refine ⟨show 9 ≤ 10000 by decide, fun s hs => ?_⟩; simp only [List.mem_cons, List.not_mem_nil, or_false] at hs; omega)).1
    have hD := (draws_all h4 (by refine ⟨show 9 ≤ 10000 by decide, fun s hs => ?_⟩; simp only [List.mem_cons, List.not_mem_nil, or_false] at hs; omega)).2
    simp only [List.length_cons, List.length_nil] at hL
    have f0 := hD (0 : Int) v1_many rfl (by decide)
    have f1 := hD (1 : Int) 3 rfl (by decide)
    have f2 := hD (2 : Int) 10 rfl (by decide)
    have f3 := hD (3 : Int) 10 rfl (by decide)
    have f4 := hD (4 : Int) 10 rfl (by decide)
    have f5 := hD (5 : Int) 6 rfl (by decide)
    clear hD h4
    refine lt_ind (P := PP__law_spoilt a_rules a_cell) fun v5_near h5 => ?_
    have hnl : v5_near.length = 10 := by rw [h5]; rfl
    refine lt_ind (P := PP__law_spoilt a_rules a_cell) fun v6_times h6 => ?_
    have htl : v6_times.length = 10 := by rw [h6]; rfl
    refine lt_ind (P := PP__law_spoilt a_rules a_cell) fun v7_letter h7 => ?_
    have hle : v7_letter.length = 1 := by rw [h7]; rfl
    refine lt_ind (P := PP__law_spoilt a_rules a_cell) fun v8_sign h8 => ?_
    have hsi : v8_sign.length = 1 := by rw [h8]; rfl
    refine lt_ind (P := PP__law_spoilt a_rules a_cell) fun v9_rule h9 => ?_
    have hr9 : v9_rule.let.length ≤ 2 := by { rw [h9]; exact ix_all (fun y : List Nat => y.length ≤ 2) (by intro y hy; simp only [List.mem_cons, List.not_mem_nil, or_false] at hy; rcases hy with z | z | z | z | z | z <;> rw [z] <;> (try rw [List.length_append]) <;> (try simp only [List.length_nil]) <;> omega) (by simp only [List.length_cons, List.length_nil]; constructor <;> omega) }
    refine lt_ind (P := PP__law_spoilt a_rules a_cell) fun s11 h11 => ?_
    have hr11 : s11.let.length ≤ 2 := by { rw [h11]; exact if_ind (P := fun z : Rul => z.let.length ≤ 2) (fun c => Nat.zero_le _) (fun c => hr9) }
    refine lt_ind (P := PP__law_spoilt a_rules a_cell) fun s14 h14 => ?_
    have hr14 : s14.let.length ≤ 2 := by { rw [h14]; exact if_ind (P := fun z : Rul => z.let.length ≤ 2) (fun c => Nat.zero_le _) (fun c => hr11) }
    show RulP ((((sl a_rules none (some (ix v4_drawn (0 : Int)))) ++ ([s14] : List Rul)) ++ (sl a_rules (some ((ix v4_drawn (0 : Int)) + (1 : Int))) none)))
    have := sl_length_le a_rules none (some (ix v4_drawn (0 : Int))); have := sl_length_le a_rules (some ((ix v4_drawn (0 : Int)) + (1 : Int))) none
    exact spoilt_ok hp f0.1 (by omega) (Nat.le_trans hr14 (by decide))
theorem one_len {x : List Nat} (h : (!decide ((x.length : Int) = (1 : Int))) = false) : x = [x.headD 0] := by
  have h : (x.length : Int) = 1 := by simpa using h
  match x, h with
  | [c], _ => rfl
def m__law_wrong (a_rule : Rul) (a_many : Int) : Bool :=
  (if a_rule.isLtr = true then ((!decide ((a_rule.let.length : Int) = (1 : Int))) || (!decide (a_rule.let.headD 0 ∈ ([97, 98, 99, 100, 101, 102, 103, 104, 105, 106, 107, 108, 109, 110, 111, 112, 113, 114, 115, 116, 117, 118, 119, 120, 121, 122] : List Nat)))) else 
  (if (a_rule.isPow && ((decide (a_rule.two < (2 : Int))) || (decide (a_rule.two > (128 : Int))))) = true then true else 
    (decide (((((m__law_parts a_rule).filter (fun (c7_name : Int) => ((decide (c7_name < (0 : Int))) || (decide (c7_name ≥ a_many))))).map (fun (c7_name : Int) => c7_name)).length : Int) > (0 : Int)))))
abbrev s__law_wrong : Stmt := topS 67
abbrev N__law_wrong : List Str := ["rule", "many", "name"]
theorem sc__law_wrong : FnScope N__law_wrong ["rule", "many"] (defScope s__law_wrong) := ⟨rfl, rfl, rfl, by decide +kernel, rfl, by decide +kernel, by decide +kernel⟩
abbrev Ok__law_wrong (P : Program) (w : World) (K : PySem.W.Frag) (mg : Str → Option Value) (base : Heap) : Prop :=
  DefOk P w K mg base 2 "_law_wrong" 2 (spD (ι := Rul × Int) K (fun i => i.1.let.length ≤ 1000) (fun i => [.is i.1, .is i.2]) (fun i => .is (m__law_wrong i.1 i.2)))
theorem ok__law_wrong {P : Program} {w : World} {K : PySem.W.Frag} {mg : Str → Option Value} {base : Heap} {f : Addr} {fd : FuncData} (F : Fun K "_law_wrong" "_law_wrong" s__law_wrong f fd) (hm : mg "_law_wrong" = some (.ref f)) (bd : Binds K fd ["rule", "many"] []) (T : Bt mg) (D__law_parts : Ok__law_parts P w K mg base) : Ok__law_wrong P w K mg base := by
  refine defOk (kk := 1) (R := Bool) F hm sc__law_wrong bd _ _ (fun r => .is r) _ (fun _ => rfl) (fun i hp cdv A outer s H E hr => ?_)
  obtain ⟨a_rule, a_many⟩ := i
  have hp : a_rule.let.length ≤ 1000 := hp
  show SX _ _ [.is a_rule, .is a_many, .no] _ (m__law_wrong a_rule a_many)
  unfold m__law_wrong
  refine sx_if (tx_isLtr (px_var 0 rfl)) (fun hc1 => ?_) (fun hc1 => ?_)
  · try simp only [Bool.and_eq_true, Bool.or_eq_true, Bool.not_eq_true', Bool.and_eq_false_iff, Bool.or_eq_false_iff, Bool.not_eq_false', decide_eq_true_eq, decide_eq_false_iff_not, Classical.not_not] at hc1
    exact sx_retI (mr := (fun r => r)) (rets_ret) rfl (px_or (px_ne (px_lenS T.len_ (px_ruLet (px_var 0 rfl) px_int (by first | assumption | exact rul_np (by assumption) | exact rul_nw (by assumption) | (simp only [Bool.and_eq_true, Bool.or_eq_true, Bool.not_eq_true', Bool.and_eq_false_iff, Bool.or_eq_false_iff, Bool.not_eq_false', decide_eq_true_eq, decide_eq_false_iff_not, Classical.not_not] at *; first | assumption | exact rul_np (by assumption) | exact rul_nw (by assumption) | simp_all))) (by first | omega | decide | exact Nat.le_trans (show _ ≤ 100000 by (first | omega | (simp only [lt, List.length_cons, List.length_nil, List.length_append, List.length_map, List.length_reverse, List.length_set, rangeI_length] at *; omega) | (simp only [lt, List.length_cons, List.length_nil, List.length_append, List.length_map, List.length_reverse, List.length_set, rangeI_length]; omega) | (simp only [repT_length, Int.reduceToNat, lt, List.length_cons, List.length_nil, List.length_append, List.length_map, List.length_reverse, List.length_set, rangeI_length]; omega))) (by decide))) px_int) (fun hb2_3 => (px_and1 (px_niT1 (px_ruLet (px_var 0 rfl) px_int (by first | assumption | exact rul_np (by assumption) | exact rul_nw (by assumption) | (simp only [Bool.and_eq_true, Bool.or_eq_true, Bool.not_eq_true', Bool.and_eq_false_iff, Bool.or_eq_false_iff, Bool.not_eq_false', decide_eq_true_eq, decide_eq_false_iff_not, Classical.not_not] at *; first | assumption | exact rul_np (by assumption) | exact rul_nw (by assumption) | simp_all))) (px_str (x := ([97, 98, 99, 100, 101, 102, 103, 104, 105, 106, 107, 108, 109, 110, 111, 112, 113, 114, 115, 116, 117, 118, 119, 120, 121, 122] : List Nat)) (by decide +kernel)) (by exact one_len (by assumption))))))
  · try simp only [Bool.and_eq_true, Bool.or_eq_true, Bool.not_eq_true', Bool.and_eq_false_iff, Bool.or_eq_false_iff, Bool.not_eq_false', decide_eq_true_eq, decide_eq_false_iff_not, Classical.not_not] at hc1
    refine sx_nil ?_
    refine sx_if (tx_w (wx_and (tx_isPow (px_var 0 rfl)) (fun hw5 => (wx_and1 (tx_w (wx_or (tx_lt (px_ruTwo (px_var 0 rfl) px_int (by first | assumption | exact rul_np (by assumption) | exact rul_nw (by assumption) | (simp only [Bool.and_eq_true, Bool.or_eq_true, Bool.not_eq_true', Bool.and_eq_false_iff, Bool.or_eq_false_iff, Bool.not_eq_false', decide_eq_true_eq, decide_eq_false_iff_not, Classical.not_not] at *; first | assumption | exact rul_np (by assumption) | exact rul_nw (by assumption) | simp_all))) px_int) (fun hw4 => (wx_or1 (tx_gt (px_ruTwo (px_var 0 rfl) px_int (by first | assumption | exact rul_np (by assumption) | exact rul_nw (by assumption) | (simp only [Bool.and_eq_true, Bool.or_eq_true, Bool.not_eq_true', Bool.and_eq_false_iff, Bool.or_eq_false_iff, Bool.not_eq_false', decide_eq_true_eq, decide_eq_false_iff_not, Classical.not_not] at *; first | assumption | exact rul_np (by assumption) | exact rul_nw (by assumption) | simp_all))) px_int))))))))) (fun hc6 => ?_) (fun hc6 => ?_)
    · try simp only [Bool.and_eq_true, Bool.or_eq_true, Bool.not_eq_true', Bool.and_eq_false_iff, Bool.or_eq_false_iff, Bool.not_eq_false', decide_eq_true_eq, decide_eq_false_iff_not, Classical.not_not] at hc6
      exact sx_retI (mr := (fun r => r)) (rets_ret) rfl px_bool
    · try simp only [Bool.and_eq_true, Bool.or_eq_true, Bool.not_eq_true', Bool.and_eq_false_iff, Bool.or_eq_false_iff, Bool.not_eq_false', decide_eq_true_eq, decide_eq_false_iff_not, Classical.not_not] at hc6
      refine sx_nil ?_
      exact sx_retI (mr := (fun r => r)) (rets_ret) rfl (px_gt (px_len (.own _) T.len_ (px_lc1  2 (fun (c7_name : Int) => c7_name) (fun (c7_name : Int) => ((decide (c7_name < (0 : Int))) || (decide (c7_name ≥ a_many)))) (IX.b (it_list (px_share (x := (m__law_parts a_rule)) (px_call D__law_parts a_rule (by trivial) (hr.mono (by decide)) (ax_cons (px_var 0 rfl) ax_nil) (.is .nil))))) id (fun _ _ _ _ _ => pg_name (i := 2) sc__law_wrong.nd rfl (by first | exact Or.inl rfl | exact Or.inr rfl)) (blkOk_by (own := [("name", 2)]) (N := N__law_wrong) (sc := defScope s__law_wrong) (by decide +kernel)) sc__law_wrong.nd rfl (fun i7 c7_name hx7 _ _ _ _ _ => by
      exact (tx_w (wx_or (tx_lt (px_var 2 rfl) px_int) (fun hw8 => (wx_or1 (tx_ge (px_var 2 rfl) (px_var 1 rfl))))))) (fun i7 c7_name hx7 hf7 _ _ _ _ _ => by
      exact (px_var 2 rfl)))) px_int)
def m__law_due (a_rules : (List Rul)) : (Sum Unit (T3 (List Nat) Int Bool)) :=
  (if (decide ((a_rules.length : Int) = (0 : Int))) = true then (Sum.inr (T3.mk ([66, 97, 100, 80, 114, 101, 115, 115] : List Nat) (0 : Int) true) : (Sum Unit (T3 (List Nat) Int Bool))) else 
  (if (decide ((a_rules.length : Int) > (256 : Int))) = true then (Sum.inr (T3.mk ([84, 111, 111, 76, 111, 110, 103] : List Nat) (0 : Int) true) : (Sum Unit (T3 (List Nat) Int Bool))) else 
    forK (fun (s3 : Unit) (x3_k : Int) => (if (m__law_wrong (ix a_rules x3_k) (a_rules.length : Int)) = true then .ret (Sum.inr (T3.mk ([66, 97, 100, 80, 114, 101, 115, 115] : List Nat) x3_k true) : (Sum Unit (T3 (List Nat) Int Bool))) else 
        .go ())) (() : Unit) (rangeI 0 ((a_rules.length : Int)).toNat) (fun (s4 : Unit) => 
      (Sum.inl () : (Sum Unit (T3 (List Nat) Int Bool)))) (fun r => r)))
abbrev s__law_due : Stmt := topS 68
abbrev N__law_due : List Str := ["rules", "k"]
theorem sc__law_due : FnScope N__law_due ["rules"] (defScope s__law_due) := ⟨rfl, rfl, rfl, by decide +kernel, rfl, by decide +kernel, by decide +kernel⟩
abbrev Ok__law_due (P : Program) (w : World) (K : PySem.W.Frag) (mg : Str → Option Value) (base : Heap) : Prop :=
  DefOk P w K mg base 3 "_law_due" 1 (spD (ι := (List Rul)) K (fun i => RulP i) (fun i => [.is i]) (fun i => .is (m__law_due i)))
theorem ok__law_due {P : Program} {w : World} {K : PySem.W.Frag} {mg : Str → Option Value} {base : Heap} {f : Addr} {fd : FuncData} (F : Fun K "_law_due" "_law_due" s__law_due f fd) (hm : mg "_law_due" = some (.ref f)) (bd : Binds K fd ["rules"] []) (T : Bt mg) (D__law_wrong : Ok__law_wrong P w K mg base) : Ok__law_due P w K mg base := by
  refine defOk (kk := 2) (R := (Sum Unit (T3 (List Nat) Int Bool))) F hm sc__law_due bd _ _ (fun r => .is r) _ (fun _ => rfl) (fun i hp cdv A outer s H E hr => ?_)
  obtain ⟨a_rules, rfl⟩ : ∃ z, z = i := ⟨i, rfl⟩
  have hp : RulP a_rules := hp
  have hp1 := hp.1
  show SX _ _ [.is a_rules, .no] _ (m__law_due a_rules)
  unfold m__law_due
  refine sx_if (tx_eq (px_len (.is _) T.len_ (px_var 0 rfl)) px_int) (fun hc1 => ?_) (fun hc1 => ?_)
  · try simp only [Bool.and_eq_true, Bool.or_eq_true, Bool.not_eq_true', Bool.and_eq_false_iff, Bool.or_eq_false_iff, Bool.not_eq_false', decide_eq_true_eq, decide_eq_false_iff_not, Classical.not_not] at hc1
    exact sx_retI (mr := (fun r => r)) (rets_ret) rfl (px_inr (px_t3 (ax_cons (px_str (x := ([66, 97, 100, 80, 114, 101, 115, 115] : List Nat)) (by decide +kernel)) (ax_cons px_int (ax_cons px_bool ax_nil)))))
  · try simp only [Bool.and_eq_true, Bool.or_eq_true, Bool.not_eq_true', Bool.and_eq_false_iff, Bool.or_eq_false_iff, Bool.not_eq_false', decide_eq_true_eq, decide_eq_false_iff_not, Classical.not_not] at hc1
    refine sx_nil ?_
    refine sx_if (tx_gt (px_len (.is _) T.len_ (px_var 0 rfl)) px_int) (fun hc2 => ?_) (fun hc2 => ?_)
    · try simp only [Bool.and_eq_true, Bool.or_eq_true, Bool.not_eq_true', Bool.and_eq_false_iff, Bool.or_eq_false_iff, Bool.not_eq_false', decide_eq_true_eq, decide_eq_false_iff_not, Classical.not_not] at hc2
      exact sx_retI (mr := (fun r => r)) (rets_ret) rfl (px_inr (px_t3 (ax_cons (px_str (x := ([84, 111, 111, 76, 111, 110, 103] : List Nat)) (by decide +kernel)) (ax_cons px_int (ax_cons px_bool ax_nil)))))
    · try simp only [Bool.and_eq_true, Bool.or_eq_true, Bool.not_eq_true', Bool.and_eq_false_iff, Bool.or_eq_false_iff, Bool.not_eq_false', decide_eq_true_eq, decide_eq_false_iff_not, Classical.not_not] at hc2
      refine sx_nil ?_
      refine sx_for 1 (fun (s3 : Unit) => [.is a_rules, .no]) (fun r => .is r) _ (() : Unit) (fun _ _ => True) (it_range1 T.range_ (px_len (.is _) T.len_ (px_var 0 rfl)) (by first | (constructor <;> omega) | (have tc_ := tc (by first | assumption | exact Bool.eq_false_iff.mpr (by assumption)); constructor <;> omega) | (have tp_ := tp (by assumption); constructor <;> omega) | (simp only [Bool.and_eq_true, Bool.or_eq_true, Bool.not_eq_true', Bool.and_eq_false_iff, Bool.or_eq_false_iff, Bool.not_eq_false', decide_eq_true_eq, decide_eq_false_iff_not, Classical.not_not] at *; constructor <;> omega) | (simp only [Bool.and_eq_true, Bool.or_eq_true, Bool.not_eq_true', Bool.and_eq_false_iff, Bool.or_eq_false_iff, Bool.not_eq_false', decide_eq_true_eq, decide_eq_false_iff_not, Classical.not_not, lt, List.length_cons, List.length_nil, List.length_append, List.length_map, List.length_reverse, List.length_set, rangeI_length] at *; constructor <;> omega))) (pg_name (i := 1) sc__law_due.nd rfl (by first | exact Or.inl rfl | exact Or.inr rfl)) (.same (.same .nil)) (trivial) (fun i3 s3 x3_k hx3 hI3 => ?_) (fun i3 s3 x3_k s3_ hx3 hI3 hs3 => ?_) (rets_ret) (fun s4 h4 => ?_)
      · have hr3 := rangeI_get hx3
        refine sx_if (tx_val (px_callS D__law_wrong ((ix a_rules x3_k), (a_rules.length : Int)) (by show ((ix a_rules x3_k)).let.length ≤ 1000; exact hp.2 _ (List.mem_of_getElem? (ix_nn (xs := a_rules) (i := x3_k) (by omega) (by omega)))) (hr.mono (by decide)) (ax_cons (px_ixL (.is _) (px_var 0 rfl) (px_var 1 rfl) (by first | (constructor <;> omega) | (have tc_ := tc (by first | assumption | exact Bool.eq_false_iff.mpr (by assumption)); constructor <;> omega) | (have tp_ := tp (by assumption); constructor <;> omega) | (simp only [Bool.and_eq_true, Bool.or_eq_true, Bool.not_eq_true', Bool.and_eq_false_iff, Bool.or_eq_false_iff, Bool.not_eq_false', decide_eq_true_eq, decide_eq_false_iff_not, Classical.not_not] at *; constructor <;> omega) | (simp only [Bool.and_eq_true, Bool.or_eq_true, Bool.not_eq_true', Bool.and_eq_false_iff, Bool.or_eq_false_iff, Bool.not_eq_false', decide_eq_true_eq, decide_eq_false_iff_not, Classical.not_not, lt, List.length_cons, List.length_nil, List.length_append, List.length_map, List.length_reverse, List.length_set, rangeI_length] at *; constructor <;> omega))) (ax_cons (px_len (.is _) T.len_ (px_var 0 rfl)) ax_nil)) (.is (.is .nil)))) (fun hc5 => ?_) (fun hc5 => ?_)
        · try simp only [Bool.and_eq_true, Bool.or_eq_true, Bool.not_eq_true', Bool.and_eq_false_iff, Bool.or_eq_false_iff, Bool.not_eq_false', decide_eq_true_eq, decide_eq_false_iff_not, Classical.not_not] at hc5
          exact sx_retI (mr := Out.ret) (rets_out) rfl (px_inr (px_t3 (ax_cons (px_str (x := ([66, 97, 100, 80, 114, 101, 115, 115] : List Nat)) (by decide +kernel)) (ax_cons (px_var 1 rfl) (ax_cons px_bool ax_nil)))))
        · try simp only [Bool.and_eq_true, Bool.or_eq_true, Bool.not_eq_true', Bool.and_eq_false_iff, Bool.or_eq_false_iff, Bool.not_eq_false', decide_eq_true_eq, decide_eq_false_iff_not, Classical.not_not] at hc5
          refine sx_nil ?_
          exact sx_nil (sx_endO (.same (.drop .nil)))
      · have hr3 := rangeI_get hx3
        exact trivial
      exact sx_retI (mr := (fun r => r)) (rets_ret) rfl (px_inl px_none)
theorem snoc_len {i : Nat} {s : List Rul} {p : Rul} (h : s.length = i ∧ ∀ p ∈ s, p.let.length ≤ 1000) (hp : p.let.length ≤ 1000) : (s ++ [p]).length = i + 1 ∧ ∀ q ∈ s ++ [p], q.let.length ≤ 1000 := by
  refine ⟨by rw [List.length_append, h.1]; rfl, fun q hq => ?_⟩
  rcases List.mem_append.mp hq with z | z
  · exact h.2 q z
  · rw [List.mem_singleton.mp z]; exact hp
theorem mend_ok {i : Nat} {s : List Rul} (hi : i ≤ 256) (h : s.length = i ∧ ∀ p ∈ s, p.let.length ≤ 1000) :
    RulP (if (decide ((s.length : Int) = (0 : Int))) = true then s ++ [(Rul.ltr ([122] : List Nat))] else s) ∧ 1 ≤ (if (decide ((s.length : Int) = (0 : Int))) = true then s ++ [(Rul.ltr ([122] : List Nat))] else s).length ∧ (if (decide ((s.length : Int) = (0 : Int))) = true then s ++ [(Rul.ltr ([122] : List Nat))] else s).length ≤ 256 := by
  by_cases c : (s.length : Int) = 0
  · rw [if_pos (decide_eq_true c)]
    have z : s.length = 0 := by omega
    have q := snoc_len (p := Rul.ltr ([122] : List Nat)) h (by show 1 ≤ 1000; decide)
    have q1 : (s ++ [Rul.ltr ([122] : List Nat)]).length = 1 := by rw [List.length_append, z]; rfl
    exact ⟨⟨by omega, q.2⟩, by omega, by omega⟩
  · rw [if_neg (by rw [decide_eq_false c]; exact Bool.false_ne_true)]
    have := h.1
    exact ⟨⟨by omega, h.2⟩, by omega, by omega⟩
def m__law_mended (a_rules : (List Rul)) : (List Rul) :=
  lt ([] : List Rul) fun (v1_out : (List Rul)) => 
  lt (List.foldl (fun (s2 : (List Rul)) (x2_rule : Rul) => lt (if (m__law_wrong x2_rule (a_rules.length : Int)) = true then lt (s2 ++ [(Rul.ltr ([97] : List Nat))]) fun (v6_out : (List Rul)) => 
      v6_out else lt (s2 ++ [x2_rule]) fun (v7_out : (List Rul)) => 
      v7_out : (List Rul)) fun (s5 : (List Rul)) => 
    s5) (v1_out : (List Rul)) (sl a_rules none (some (256 : Int)))) fun (s3 : (List Rul)) => 
  lt (if (decide ((s3.length : Int) = (0 : Int))) = true then lt (s3 ++ [(Rul.ltr ([122] : List Nat))]) fun (v10_out : (List Rul)) => 
    v10_out else s3 : (List Rul)) fun (s9 : (List Rul)) => 
  s9
abbrev s__law_mended : Stmt := topS 69
abbrev N__law_mended : List Str := ["rules", "out", "rule"]
theorem sc__law_mended : FnScope N__law_mended ["rules"] (defScope s__law_mended) := ⟨rfl, rfl, rfl, by decide +kernel, rfl, by decide +kernel, by decide +kernel⟩
abbrev Ok__law_mended (P : Program) (w : World) (K : PySem.W.Frag) (mg : Str → Option Value) (base : Heap) : Prop :=
  DefOk P w K mg base 3 "_law_mended" 1 (spD (ι := (List Rul)) K (fun i => RulP i) (fun i => [.is i]) (fun i => .own (m__law_mended i)))
theorem ok__law_mended {P : Program} {w : World} {K : PySem.W.Frag} {mg : Str → Option Value} {base : Heap} {f : Addr} {fd : FuncData} (F : Fun K "_law_mended" "_law_mended" s__law_mended f fd) (hm : mg "_law_mended" = some (.ref f)) (bd : Binds K fd ["rules"] []) (T : Bt mg) (D__law_wrong : Ok__law_wrong P w K mg base) : Ok__law_mended P w K mg base := by
  refine defOk (kk := 2) (R := (List Rul)) F hm sc__law_mended bd _ _ (fun r => .own r) _ (fun _ => rfl) (fun i hp cdv A outer s H E hr => ?_)
  obtain ⟨a_rules, rfl⟩ : ∃ z, z = i := ⟨i, rfl⟩
  have hp : RulP a_rules := hp
  have hp1 := hp.1
  have hq0 := sl_to_le a_rules (i := 256) (by decide)
  have hq1 : (256 : Int).toNat = 256 := rfl
  show SX _ _ [.is a_rules, .no, .no] _ (m__law_mended a_rules)
  unfold m__law_mended
  refine sx_setO 1 (px_list ([] : List Rul) ax_nil) (fun v1_out h1 => ?_) sc__law_mended.nd
  refine sx_forF 2 (fun (s2 : (List Rul)) => [.is a_rules, .own s2, .no]) _ (v1_out : (List Rul)) (fun i s => s.length = i ∧ ∀ p ∈ s, p.let.length ≤ 1000) (it_list (px_share (px_sl (.is _) (px_var 0 rfl) ox_none (ox_some px_int)))) (pg_name (i := 2) sc__law_mended.nd rfl (by first | exact Or.inl rfl | exact Or.inr rfl)) (.same (.same (.same .nil))) (by rw [h1]; exact ⟨rfl, fun p hp => (nomatch hp)⟩) (fun i2 s2 x2_rule hx2 hI2 => ?_) (fun i2 s2 x2_rule hx2 hI2 => ?_) (fun s3 h3 hI3 => ?_)
  · have hm2 := List.mem_of_getElem? hx2
    have hI2 := hI2
    have hI2l := hI2.1
    have hil := (List.getElem?_eq_some_iff.mp hx2).1
    have hxl := hp.2 _ (mem_sl (List.mem_of_getElem? hx2))
    refine sx_ifj (fun (s5 : (List Rul)) => [.is a_rules, .own s5, .is x2_rule]) (tx_val (px_callS D__law_wrong (x2_rule, (a_rules.length : Int)) (by show (x2_rule).let.length ≤ 1000; exact hp.2 _ (mem_sl (List.mem_of_getElem? hx2))) (hr.mono (by decide)) (ax_cons (px_var 2 rfl) (ax_cons (px_len (.is _) T.len_ (px_var 0 rfl)) ax_nil)) (.is (.is .nil)))) (fun hc5 => ?_) (fun hc5 => ?_) (fun s5 h5 => ?_)
    · try simp only [Bool.and_eq_true, Bool.or_eq_true, Bool.not_eq_true', Bool.and_eq_false_iff, Bool.or_eq_false_iff, Bool.not_eq_false', decide_eq_true_eq, decide_eq_false_iff_not, Classical.not_not] at hc5
      refine sx_app 1 rfl (rul_of_pair (px_pair (ax_cons (px_str (x := ([108, 101, 116, 116, 101, 114] : List Nat)) (by decide +kernel)) (ax_cons (px_str (x := ([97] : List Nat)) (by decide +kernel)) ax_nil)))) (by exact Nat.lt_of_le_of_lt (show _ ≤ 100000 by first | omega | (have tc_ := tc (by first | assumption | exact Bool.eq_false_iff.mpr (by assumption)); omega) | (have tp_ := tp (by assumption); omega) | (simp only [Bool.and_eq_true, Bool.or_eq_true, Bool.not_eq_true', Bool.and_eq_false_iff, Bool.or_eq_false_iff, Bool.not_eq_false', decide_eq_true_eq, decide_eq_false_iff_not, Classical.not_not] at *; omega) | (simp only [Bool.and_eq_true, Bool.or_eq_true, Bool.not_eq_true', Bool.and_eq_false_iff, Bool.or_eq_false_iff, Bool.not_eq_false', decide_eq_true_eq, decide_eq_false_iff_not, Classical.not_not, lt, List.length_cons, List.length_nil, List.length_append, List.length_map, List.length_reverse, List.length_set, rangeI_length] at *; omega)) (by decide)) (fun v6_out h6 => ?_)
      exact sx_nil (sx_endN (.same (.same (.same .nil))))
    · try simp only [Bool.and_eq_true, Bool.or_eq_true, Bool.not_eq_true', Bool.and_eq_false_iff, Bool.or_eq_false_iff, Bool.not_eq_false', decide_eq_true_eq, decide_eq_false_iff_not, Classical.not_not] at hc5
      refine sx_app 1 rfl (px_var 2 rfl) (by exact Nat.lt_of_le_of_lt (show _ ≤ 100000 by first | omega | (have tc_ := tc (by first | assumption | exact Bool.eq_false_iff.mpr (by assumption)); omega) | (have tp_ := tp (by assumption); omega) | (simp only [Bool.and_eq_true, Bool.or_eq_true, Bool.not_eq_true', Bool.and_eq_false_iff, Bool.or_eq_false_iff, Bool.not_eq_false', decide_eq_true_eq, decide_eq_false_iff_not, Classical.not_not] at *; omega) | (simp only [Bool.and_eq_true, Bool.or_eq_true, Bool.not_eq_true', Bool.and_eq_false_iff, Bool.or_eq_false_iff, Bool.not_eq_false', decide_eq_true_eq, decide_eq_false_iff_not, Classical.not_not, lt, List.length_cons, List.length_nil, List.length_append, List.length_map, List.length_reverse, List.length_set, rangeI_length] at *; omega)) (by decide)) (fun v7_out h7 => ?_)
      exact sx_nil (sx_endN (.same (.same (.same .nil))))
    exact sx_nil (sx_endN (.same (.same (.drop .nil))))
  · have hm2 := List.mem_of_getElem? hx2
    have hI2 := hI2
    have hI2l := hI2.1
    have hil := (List.getElem?_eq_some_iff.mp hx2).1
    have hxl := hp.2 _ (mem_sl (List.mem_of_getElem? hx2))
    (dsimp only [lt]; exact if_ind (P := fun z : List Rul => z.length = i2 + 1 ∧ ∀ p ∈ z, p.let.length ≤ 1000) (fun c => snoc_len hI2 (by show 1 ≤ 1000; decide)) (fun c => snoc_len hI2 hxl))
  have hJ2 := hI3
  refine sx_ifj (fun (s9 : (List Rul)) => [.is a_rules, .own s9, .no]) (tx_eq (px_len (.bor _) T.len_ (px_varO 1 (.own _) rfl)) px_int) (fun hc9 => ?_) (fun hc9 => ?_) (fun s9 h9 => ?_)
  · try simp only [Bool.and_eq_true, Bool.or_eq_true, Bool.not_eq_true', Bool.and_eq_false_iff, Bool.or_eq_false_iff, Bool.not_eq_false', decide_eq_true_eq, decide_eq_false_iff_not, Classical.not_not] at hc9
    refine sx_app 1 rfl (rul_of_pair (px_pair (ax_cons (px_str (x := ([108, 101, 116, 116, 101, 114] : List Nat)) (by decide +kernel)) (ax_cons (px_str (x := ([122] : List Nat)) (by decide +kernel)) ax_nil)))) (by exact Nat.lt_of_le_of_lt (show _ ≤ 100000 by first | omega | (have tc_ := tc (by first | assumption | exact Bool.eq_false_iff.mpr (by assumption)); omega) | (have tp_ := tp (by assumption); omega) | (simp only [Bool.and_eq_true, Bool.or_eq_true, Bool.not_eq_true', Bool.and_eq_false_iff, Bool.or_eq_false_iff, Bool.not_eq_false', decide_eq_true_eq, decide_eq_false_iff_not, Classical.not_not] at *; omega) | (simp only [Bool.and_eq_true, Bool.or_eq_true, Bool.not_eq_true', Bool.and_eq_false_iff, Bool.or_eq_false_iff, Bool.not_eq_false', decide_eq_true_eq, decide_eq_false_iff_not, Classical.not_not, lt, List.length_cons, List.length_nil, List.length_append, List.length_map, List.length_reverse, List.length_set, rangeI_length] at *; omega)) (by decide)) (fun v10_out h10 => ?_)
    exact sx_nil (sx_endN (.same (.same (.same .nil))))
  · try simp only [Bool.and_eq_true, Bool.or_eq_true, Bool.not_eq_true', Bool.and_eq_false_iff, Bool.or_eq_false_iff, Bool.not_eq_false', decide_eq_true_eq, decide_eq_false_iff_not, Classical.not_not] at hc9
    exact sx_nil (sx_endN (.same (.same (.same .nil))))
  have hs9 : RulP s9 ∧ 1 ≤ (s9).length ∧ (s9).length ≤ 256 := by { rw [h9]; exact mend_ok (by omega) hJ2 }
  exact sx_retV (mr := (fun r => r)) 1 rfl (rets_ret) rfl
def PP__law_mended (a_rules : (List Rul)) (res : (List Rul)) : Prop := RulP res ∧ 1 ≤ res.length ∧ res.length ≤ 256
theorem post__law_mended (a_rules : (List Rul)) (hp : RulP a_rules) : PP__law_mended a_rules (m__law_mended a_rules) := by
  have hp1 := hp.1
  have hq0 := sl_to_le a_rules (i := 256) (by decide)
  have hq1 : (256 : Int).toNat = 256 := rfl
  unfold m__law_mended
  refine lt_ind (P := PP__law_mended a_rules) fun v1_out h1 => ?_
  refine lt_ind (P := PP__law_mended a_rules) fun s3 h3 => ?_
  have hI3 := foldl_ix (fun i s => s.length = i ∧ ∀ p ∈ s, p.let.length ≤ 1000) ((fun (s2 : (List Rul)) (x2_rule : Rul) => lt (if (m__law_wrong x2_rule (a_rules.length : Int)) = true then lt (s2 ++ [(Rul.ltr ([97] : List Nat))]) fun (v6_out : (List Rul)) => 
      v6_out else lt (s2 ++ [x2_rule]) fun (v7_out : (List Rul)) => 
      v7_out : (List Rul)) fun (s5 : (List Rul)) => 
    s5)) (v1_out : (List Rul)) (sl a_rules none (some (256 : Int))) (by rw [h1]; exact ⟨rfl, fun p hp => (nomatch hp)⟩) (fun i2 s2 x2_rule hx2 hI2 => by
    have hm2 := List.mem_of_getElem? hx2
    have hI2 := hI2
    have hI2l := hI2.1
    have hil := (List.getElem?_eq_some_iff.mp hx2).1
    have hxl := hp.2 _ (mem_sl (List.mem_of_getElem? hx2))
    ((dsimp only [lt]; exact if_ind (P := fun z : List Rul => z.length = i2 + 1 ∧ ∀ p ∈ z, p.let.length ≤ 1000) (fun c => snoc_len hI2 (by show 1 ≤ 1000; decide)) (fun c => snoc_len hI2 hxl))))
  rw [← h3] at hI3
  have hJ2 := hI3
  refine lt_ind (P := PP__law_mended a_rules) fun s9 h9 => ?_
  have hs9 : RulP s9 ∧ 1 ≤ (s9).length ∧ (s9).length ≤ 256 := by { rw [h9]; exact mend_ok (by omega) hJ2 }
  show RulP (s9) ∧ 1 ≤ (s9).length ∧ (s9).length ≤ 256
  exact hs9
def mkP (s10 : List Bool) (p : Int) : List Bool := s10.set p.toNat true
def mkR (rs : List Rul) (bef : List Bool) (s6 : List Bool) (k : Int) : List Bool := if (ix bef k) = true then (m__law_parts (ix rs k)).foldl mkP s6 else s6
def mkT (rs : List Rul) (s3 : List Bool) : List Bool := (rangeI 0 ((rs.length : Int)).toNat).foldl (mkR rs s3) s3
theorem mkP_len : ∀ (ps : List Int) (s : List Bool), (ps.foldl mkP s).length = s.length
  | [], _ => rfl
  | p :: ps, s => by
    rw [List.foldl_cons, mkP_len ps]
    exact List.length_set
theorem mk_row {rs : List Rul} {bef s : List Bool} {k : Int} (h : s.length = rs.length) : (mkR rs bef s k).length = rs.length := by
  unfold mkR
  split
  · rw [mkP_len, h]
  · exact h
theorem mkT_len {rs : List Rul} {s : List Bool} (h : s.length = rs.length) : (mkT rs s).length = rs.length :=
  foldl_ix (fun _ (t : List Bool) => t.length = rs.length) (mkR rs s) s (rangeI 0 ((rs.length : Int)).toNat) h fun _ _ _ _ hI => mk_row hI
def mkQ (rs : List Rul) (s3 : List Bool) (x : Int) : Out (List Bool) Empty := if (decide (mkT rs s3 = s3)) = true then .brk (mkT rs s3) else .go (mkT rs s3)
theorem mk_go {rs : List Rul} {s s' : List Bool} {x : Int} (h : s.length = rs.length) (e : mkQ rs s x = .go s') : s'.length = rs.length := by
  unfold mkQ at e
  split at e
  · cases e
  · injection e with e
    rw [← e]
    exact mkT_len h
theorem mk_brk {rs : List Rul} {s s' : List Bool} {x : Int} (h : s.length = rs.length) (e : mkQ rs s x = .brk s') : s'.length = rs.length := by
  unfold mkQ at e
  split at e
  · injection e with e
    rw [← e]
    exact mkT_len h
  · cases e
def m__law_reached (a_rules : (List Rul)) : Int :=
  lt ((rangeI 0 ((a_rules.length : Int)).toNat).map (fun (c2_k : Int) => (decide (c2_k = ((a_rules.length : Int) - (1 : Int)))))) fun (v1_marks : (List Bool)) => 
  lt (forB ((fun (s3 : (List Bool)) (x3_turn : Int) => lt s3 fun (v5_before : (List Bool)) => 
    lt (List.foldl (fun (s6 : (List Bool)) (x6_k : Int) => lt (if (ix v5_before x6_k) = true then lt (List.foldl (fun (s10 : (List Bool)) (x10_part : Int) => lt (s10.set (x10_part).toNat true) fun (v12_marks : (List Bool)) => 
          v12_marks) (s6 : (List Bool)) (m__law_parts (ix a_rules x6_k))) fun (s11 : (List Bool)) => 
        s11 else s6 : (List Bool)) fun (s9 : (List Bool)) => 
      s9) (s3 : (List Bool)) (rangeI 0 ((a_rules.length : Int)).toNat)) fun (s7 : (List Bool)) => 
    (if (decide (s7 = v5_before)) = true then .brk s7 else 
    .go s7)) : ((List Bool)) → Int → Out ((List Bool)) Empty) (v1_marks : (List Bool)) (rangeI 0 ((a_rules.length : Int)).toNat)) fun (s4 : (List Bool)) => 
  (((s4.filter (fun (c14_mark : Bool) => c14_mark)).map (fun (c14_mark : Bool) => c14_mark)).length : Int)
abbrev s__law_reached : Stmt := topS 70
abbrev N__law_reached : List Str := ["rules", "marks", "turn", "before", "k", "part", "mark"]
theorem sc__law_reached : FnScope N__law_reached ["rules"] (defScope s__law_reached) := ⟨rfl, rfl, rfl, by decide +kernel, rfl, by decide +kernel, by decide +kernel⟩
abbrev Ok__law_reached (P : Program) (w : World) (K : PySem.W.Frag) (mg : Str → Option Value) (base : Heap) : Prop :=
  DefOk P w K mg base 2 "_law_reached" 1 (spD (ι := (List Rul)) K (fun i => GoodRu i) (fun i => [.is i]) (fun i => .is (m__law_reached i)))
theorem ok__law_reached {P : Program} {w : World} {K : PySem.W.Frag} {mg : Str → Option Value} {base : Heap} {f : Addr} {fd : FuncData} (F : Fun K "_law_reached" "_law_reached" s__law_reached f fd) (hm : mg "_law_reached" = some (.ref f)) (bd : Binds K fd ["rules"] []) (T : Bt mg) (D__law_parts : Ok__law_parts P w K mg base) : Ok__law_reached P w K mg base := by
  refine defOk (kk := 1) (R := Int) F hm sc__law_reached bd _ _ (fun r => .is r) _ (fun _ => rfl) (fun i hp cdv A outer s H E hr => ?_)
  obtain ⟨a_rules, rfl⟩ : ∃ z, z = i := ⟨i, rfl⟩
  have hp : GoodRu a_rules := hp
  have hn1 := hp.1
  have hn2 := hp.2.1
  have hn3 := hp.2.2
  show SX _ _ [.is a_rules, .no, .no, .no, .no, .no, .no] _ (m__law_reached a_rules)
  unfold m__law_reached
  refine sx_setLc0 1 4 (fun (c2_k : Int) => (decide (c2_k = ((a_rules.length : Int) - (1 : Int))))) (IX.b (it_range1 T.range_ (px_len (.is _) T.len_ (px_var 0 rfl)) (by first | (constructor <;> omega) | (have tc_ := tc (by first | assumption | exact Bool.eq_false_iff.mpr (by assumption)); constructor <;> omega) | (have tp_ := tp (by assumption); constructor <;> omega) | (simp only [Bool.and_eq_true, Bool.or_eq_true, Bool.not_eq_true', Bool.and_eq_false_iff, Bool.or_eq_false_iff, Bool.not_eq_false', decide_eq_true_eq, decide_eq_false_iff_not, Classical.not_not] at *; constructor <;> omega) | (simp only [Bool.and_eq_true, Bool.or_eq_true, Bool.not_eq_true', Bool.and_eq_false_iff, Bool.or_eq_false_iff, Bool.not_eq_false', decide_eq_true_eq, decide_eq_false_iff_not, Classical.not_not, lt, List.length_cons, List.length_nil, List.length_append, List.length_map, List.length_reverse, List.length_set, rangeI_length] at *; constructor <;> omega)))) (fun _ => (by rw [rangeI_length]; exact Nat.le_trans (show _ ≤ 100000 by omega) (by decide))) (fun v1_marks h1 => ?_) (fun _ _ _ _ _ => pg_name (i := 4) sc__law_reached.nd rfl (by first | exact Or.inl rfl | exact Or.inr rfl)) (blkOk_by (own := [("k", 4)]) (N := N__law_reached) (sc := defScope s__law_reached) (by decide +kernel)) sc__law_reached.nd rfl (fun i2 c2_k hx2 _ _ _ _ _ => by
      have hr2 := rangeI_get hx2; exact (px_eq (px_var 4 rfl) (px_sub (px_len (.is _) T.len_ (px_var 0 rfl)) px_int))) (sw_true rfl rfl rfl (by decide +kernel))
  have hm1 : v1_marks.length = a_rules.length := by { rw [h1, List.length_map, rangeI_length]; omega }
  refine sx_forB 2 (fun (s3 : (List Bool)) => [.is a_rules, .own s3, .no, .no, .no, .no, .no]) ((fun (s3 : (List Bool)) (x3_turn : Int) => lt s3 fun (v5_before : (List Bool)) => 
    lt (List.foldl (fun (s6 : (List Bool)) (x6_k : Int) => lt (if (ix v5_before x6_k) = true then lt (List.foldl (fun (s10 : (List Bool)) (x10_part : Int) => lt (s10.set (x10_part).toNat true) fun (v12_marks : (List Bool)) => 
          v12_marks) (s6 : (List Bool)) (m__law_parts (ix a_rules x6_k))) fun (s11 : (List Bool)) => 
        s11 else s6 : (List Bool)) fun (s9 : (List Bool)) => 
      s9) (s3 : (List Bool)) (rangeI 0 ((a_rules.length : Int)).toNat)) fun (s7 : (List Bool)) => 
    (if (decide (s7 = v5_before)) = true then .brk s7 else 
    .go s7)) : ((List Bool)) → Int → Out ((List Bool)) Empty) (v1_marks : (List Bool)) (fun i (s : List Bool) => s.length = a_rules.length) (fun (s : List Bool) => s.length = a_rules.length) (it_range1 T.range_ (px_len (.is _) T.len_ (px_var 0 rfl)) (by first | (constructor <;> omega) | (have tc_ := tc (by first | assumption | exact Bool.eq_false_iff.mpr (by assumption)); constructor <;> omega) | (have tp_ := tp (by assumption); constructor <;> omega) | (simp only [Bool.and_eq_true, Bool.or_eq_true, Bool.not_eq_true', Bool.and_eq_false_iff, Bool.or_eq_false_iff, Bool.not_eq_false', decide_eq_true_eq, decide_eq_false_iff_not, Classical.not_not] at *; constructor <;> omega) | (simp only [Bool.and_eq_true, Bool.or_eq_true, Bool.not_eq_true', Bool.and_eq_false_iff, Bool.or_eq_false_iff, Bool.not_eq_false', decide_eq_true_eq, decide_eq_false_iff_not, Classical.not_not, lt, List.length_cons, List.length_nil, List.length_append, List.length_map, List.length_reverse, List.length_set, rangeI_length] at *; constructor <;> omega))) (pg_name (i := 2) sc__law_reached.nd rfl (by first | exact Or.inl rfl | exact Or.inr rfl)) (.same (.same (.same (.same (.same (.same (.same .nil))))))) (by exact hm1) (fun i3 s3 x3_turn hx3 hI3 => ?_) (fun i3 s3 x3_turn s3_ hx3 hI3 hs3 => ?_) (fun i3 s3 x3_turn s3_ hx3 hI3 hs3 => ?_) (fun s3 hI3 => ?_) (fun s4 h4 hI4 => ?_)
  · have hr3 := rangeI_get hx3
    have hI3 : s3.length = a_rules.length := hI3
    refine sx_set 3 (px_share (px_listof (.bor _) T.list_ (px_varO 1 (.own _) rfl))) (fun v5_before h5 => ?_) sc__law_reached.nd
    have hb5 : v5_before.length = a_rules.length := by rw [h5, hI3]
    refine sx_forF 4 (fun (s6 : (List Bool)) => [.is a_rules, .own s6, .is x3_turn, .is v5_before, .no, .no, .no]) _ (s3 : (List Bool)) (fun i (s : List Bool) => s.length = a_rules.length) (it_range1 T.range_ (px_len (.is _) T.len_ (px_var 0 rfl)) (by first | (constructor <;> omega) | (have tc_ := tc (by first | assumption | exact Bool.eq_false_iff.mpr (by assumption)); constructor <;> omega) | (have tp_ := tp (by assumption); constructor <;> omega) | (simp only [Bool.and_eq_true, Bool.or_eq_true, Bool.not_eq_true', Bool.and_eq_false_iff, Bool.or_eq_false_iff, Bool.not_eq_false', decide_eq_true_eq, decide_eq_false_iff_not, Classical.not_not] at *; constructor <;> omega) | (simp only [Bool.and_eq_true, Bool.or_eq_true, Bool.not_eq_true', Bool.and_eq_false_iff, Bool.or_eq_false_iff, Bool.not_eq_false', decide_eq_true_eq, decide_eq_false_iff_not, Classical.not_not, lt, List.length_cons, List.length_nil, List.length_append, List.length_map, List.length_reverse, List.length_set, rangeI_length] at *; constructor <;> omega))) (pg_name (i := 4) sc__law_reached.nd rfl (by first | exact Or.inl rfl | exact Or.inr rfl)) (.same (.same (.same (.same (.same (.same (.same .nil))))))) (hI3) (fun i6 s6 x6_k hx6 hI6 => ?_) (fun i6 s6 x6_k hx6 hI6 => ?_) (fun s7 h7 hI7 => ?_)
    · have hr6 := rangeI_get hx6
      have hI6 : s6.length = a_rules.length := hI6
      refine sx_ifj (fun (s9 : (List Bool)) => [.is a_rules, .own s9, .is x3_turn, .is v5_before, .is x6_k, .no, .no]) (tx_val (px_ixL (.is _) (px_var 3 rfl) (px_var 4 rfl) (by first | (constructor <;> omega) | (have tc_ := tc (by first | assumption | exact Bool.eq_false_iff.mpr (by assumption)); constructor <;> omega) | (have tp_ := tp (by assumption); constructor <;> omega) | (simp only [Bool.and_eq_true, Bool.or_eq_true, Bool.not_eq_true', Bool.and_eq_false_iff, Bool.or_eq_false_iff, Bool.not_eq_false', decide_eq_true_eq, decide_eq_false_iff_not, Classical.not_not] at *; constructor <;> omega) | (simp only [Bool.and_eq_true, Bool.or_eq_true, Bool.not_eq_true', Bool.and_eq_false_iff, Bool.or_eq_false_iff, Bool.not_eq_false', decide_eq_true_eq, decide_eq_false_iff_not, Classical.not_not, lt, List.length_cons, List.length_nil, List.length_append, List.length_map, List.length_reverse, List.length_set, rangeI_length] at *; constructor <;> omega)))) (fun hc9 => ?_) (fun hc9 => ?_) (fun s9 h9 => ?_)
      · try simp only [Bool.and_eq_true, Bool.or_eq_true, Bool.not_eq_true', Bool.and_eq_false_iff, Bool.or_eq_false_iff, Bool.not_eq_false', decide_eq_true_eq, decide_eq_false_iff_not, Classical.not_not] at hc9
        refine sx_forF 5 (fun (s10 : (List Bool)) => [.is a_rules, .own s10, .is x3_turn, .is v5_before, .is x6_k, .no, .no]) _ (s6 : (List Bool)) (fun i (s : List Bool) => s.length = a_rules.length) (it_list (px_share (x := (m__law_parts (ix a_rules x6_k))) (px_call D__law_parts (ix a_rules x6_k) (by trivial) (hr.mono (by decide)) (ax_cons (px_ixL (.is _) (px_var 0 rfl) (px_var 4 rfl) (by first | (constructor <;> omega) | (have tc_ := tc (by first | assumption | exact Bool.eq_false_iff.mpr (by assumption)); constructor <;> omega) | (have tp_ := tp (by assumption); constructor <;> omega) | (simp only [Bool.and_eq_true, Bool.or_eq_true, Bool.not_eq_true', Bool.and_eq_false_iff, Bool.or_eq_false_iff, Bool.not_eq_false', decide_eq_true_eq, decide_eq_false_iff_not, Classical.not_not] at *; constructor <;> omega) | (simp only [Bool.and_eq_true, Bool.or_eq_true, Bool.not_eq_true', Bool.and_eq_false_iff, Bool.or_eq_false_iff, Bool.not_eq_false', decide_eq_true_eq, decide_eq_false_iff_not, Classical.not_not, lt, List.length_cons, List.length_nil, List.length_append, List.length_map, List.length_reverse, List.length_set, rangeI_length] at *; constructor <;> omega))) ax_nil) (.is .nil)))) (pg_name (i := 5) sc__law_reached.nd rfl (by first | exact Or.inl rfl | exact Or.inr rfl)) (.same (.same (.same (.same (.same (.same (.same .nil))))))) (hI6) (fun i10 s10 x10_part hx10 hI10 => ?_) (fun i10 s10 x10_part hx10 hI10 => ?_) (fun s11 h11 hI11 => ?_)
        · have hm10 := List.mem_of_getElem? hx10
          have hI10 : s10.length = a_rules.length := hI10
          have hpr := hn3 _ (List.mem_of_getElem? (ix_nn (xs := a_rules) (i := x6_k) (by omega) (by omega))) _ (by rw [← lparts_is]; exact List.mem_of_getElem? hx10)
          refine sx_put 1 rfl px_bool (px_var 5 rfl) (by exact ixN_nn (by omega) (by omega)) (fun v12_marks h12 => ?_)
          exact sx_nil (sx_endN (.same (.same (.same (.same (.same (.drop (.same .nil))))))))
        · have hm10 := List.mem_of_getElem? hx10
          have hI10 : s10.length = a_rules.length := hI10
          have hpr := hn3 _ (List.mem_of_getElem? (ix_nn (xs := a_rules) (i := x6_k) (by omega) (by omega))) _ (by rw [← lparts_is]; exact List.mem_of_getElem? hx10)
          (dsimp only [lt]; rw [List.length_set]; exact hI10)
        exact sx_nil (sx_endN (.same (.same (.same (.same (.same (.same (.same .nil))))))))
      · try simp only [Bool.and_eq_true, Bool.or_eq_true, Bool.not_eq_true', Bool.and_eq_false_iff, Bool.or_eq_false_iff, Bool.not_eq_false', decide_eq_true_eq, decide_eq_false_iff_not, Classical.not_not] at hc9
        exact sx_nil (sx_endN (.same (.same (.same (.same (.same (.same (.same .nil))))))))
      exact sx_nil (sx_endN (.same (.same (.same (.same (.drop (.same (.same .nil))))))))
    · have hr6 := rangeI_get hx6
      have hI6 : s6.length = a_rules.length := hI6
      (dsimp only [lt]; exact mk_row hI6)
    have hJ6 : s7.length = a_rules.length := hI7
    refine sx_if (tx_eqQO (.bor _) hr.units (by first | trivial | (intro _ _; trivial)) (by first | trivial | (intro _ _; trivial)) (px_varO 1 (.own _) rfl) (px_var 3 rfl)) (fun hc13 => ?_) (fun hc13 => ?_)
    · try simp only [Bool.and_eq_true, Bool.or_eq_true, Bool.not_eq_true', Bool.and_eq_false_iff, Bool.or_eq_false_iff, Bool.not_eq_false', decide_eq_true_eq, decide_eq_false_iff_not, Classical.not_not] at hc13
      exact sx_brkG (.same (.same (.drop (.drop (.same (.same (.same .nil)))))))
    · try simp only [Bool.and_eq_true, Bool.or_eq_true, Bool.not_eq_true', Bool.and_eq_false_iff, Bool.or_eq_false_iff, Bool.not_eq_false', decide_eq_true_eq, decide_eq_false_iff_not, Classical.not_not] at hc13
      refine sx_nil ?_
      exact sx_nil (sx_endG (.same (.same (.drop (.drop (.same (.same (.same .nil))))))))
  · have hr3 := rangeI_get hx3
    have hI3 : s3.length = a_rules.length := hI3
    exact mk_go hI3 (x := 0) hs3
  · have hr3 := rangeI_get hx3
    have hI3 : s3.length = a_rules.length := hI3
    exact mk_brk hI3 (x := 0) hs3
  · exact hI3
  have hJ3 : s4.length = a_rules.length := hI4
  exact sx_retI (mr := (fun r => r)) (rets_ret) rfl (px_len (.own _) T.len_ (px_lc1  6 (fun (c14_mark : Bool) => c14_mark) (fun (c14_mark : Bool) => c14_mark) (it_listB (.bor _) (px_varO 1 (.own _) rfl)) id (fun _ _ _ _ _ => pg_name (i := 6) sc__law_reached.nd rfl (by first | exact Or.inl rfl | exact Or.inr rfl)) (blkOk_by (own := [("mark", 6)]) (N := N__law_reached) (sc := defScope s__law_reached) (by decide +kernel)) sc__law_reached.nd rfl (fun i14 c14_mark hx14 _ _ _ _ _ => by
      exact (tx_val (px_var 6 rfl))) (fun i14 c14_mark hx14 hf14 _ _ _ _ _ => by
      exact (px_var 6 rfl))))
theorem forO_first {S α R : Type} (I : Nat → S → Prop) (bad : Nat → Bool) (r : Nat → R) (step : S → α → Out S R) : ∀ (xs : List α) (n : Nat) (s0 : S), I n s0 → (∀ (i : Nat) (s : S) (y : α), xs[i]? = some y → I (n + i) s → (bad (n + i) = true ∧ step s y = .ret (r (n + i))) ∨ (bad (n + i) = false ∧ ∃ s', step s y = .go s' ∧ I (n + i + 1) s')) →
    (∃ i, i < xs.length ∧ bad (n + i) = true ∧ (∀ j, j < i → bad (n + j) = false) ∧ forO step s0 xs = .ret (r (n + i))) ∨ ((∀ i, i < xs.length → bad (n + i) = false) ∧ ∃ s', forO step s0 xs = .go s')
  | [], n, s0, _, _ => .inr ⟨fun i hi => absurd hi (Nat.not_lt_zero i), s0, rfl⟩
  | y :: xs, n, s0, h0, h => by
    rcases h 0 s0 y rfl h0 with ⟨b, e⟩ | ⟨b, s', e, h1⟩
    · refine .inl ⟨0, Nat.succ_pos _, b, fun j hj => absurd hj (Nat.not_lt_zero j), ?_⟩
      rw [forO_cons, e]
    · rw [forO_cons, e]
      have ih := forO_first I bad r step xs (n + 1) s' h1 (fun i s z hz hI => by
        have := h (i + 1) s z hz (by rw [show n + (i + 1) = n + 1 + i by omega]; exact hI)
        rw [show n + (i + 1) = n + 1 + i by omega] at this
        exact this)
      rcases ih with ⟨i, i1, i2, i3, i4⟩ | ⟨g, s'', g2⟩
      · refine .inl ⟨i + 1, Nat.succ_lt_succ i1, by rw [show n + (i + 1) = n + 1 + i by omega]; exact i2, fun j hj => ?_, by rw [show n + (i + 1) = n + 1 + i by omega]; exact i4⟩
        cases j with
        | zero => exact b
        | succ j =>
          have := i3 j (by omega)
          rw [show n + (j + 1) = n + 1 + j by omega]
          exact this
      · refine .inr ⟨fun i hi => ?_, s'', g2⟩
        cases i with
        | zero => exact b
        | succ i =>
          have hi : i + 1 < xs.length + 1 := hi
          have := g i (by omega)
          rw [show n + (i + 1) = n + 1 + i by omega]
          exact this
theorem head_alpha (z : Nat) : decide (z ∈ ([97, 98, 99, 100, 101, 102, 103, 104, 105, 106, 107, 108, 109, 110, 111, 112, 113, 114, 115, 116, 117, 118, 119, 120, 121, 122] : List Nat)) = decide (97 ≤ z ∧ z ≤ 122) := by
  refine decide_eq_decide.mpr ?_
  simp only [List.mem_cons, List.not_mem_nil, or_false]
  omega
def inR (n x : Int) : Bool := (decide ((0 : Int) ≤ x)) && (decide (x < n))
theorem bad_inR (n x : Int) : ((decide (x < (0 : Int))) || (decide (x ≥ n))) = !inR n x := by
  unfold inR
  by_cases h1 : 0 ≤ x <;> by_cases h2 : x < n <;> simp [h1, h2] <;> omega
theorem walk_parts (n : Int) (m : Bool) : ∀ xs : List Int, forK (S := Unit) (fun (s2 : Unit) (x2_part : Int) => (if (!((decide ((0 : Int) ≤ x2_part)) && (decide (x2_part < n)))) = true then (Out.ret false : Out Unit Bool) else .go ())) (() : Unit) xs (fun (s3 : Unit) => m) (fun r => r) = (xs.all (inR n) && m)
  | [] => rfl
  | x :: xs => by
    have ih := walk_parts n m xs
    unfold forK at ih ⊢
    rw [forO_cons, List.all_cons]
    have e : ((decide ((0 : Int) ≤ x)) && (decide (x < n))) = inR n x := rfl
    rw [e]
    cases inR n x with
    | true => rw [Bool.true_and]; exact ih
    | false => rfl
theorem filt_parts (n : Int) : ∀ xs : List Int, decide ((((xs.filter (fun (c7_name : Int) => ((decide (c7_name < (0 : Int))) || (decide (c7_name ≥ n))))).map (fun (c7_name : Int) => c7_name)).length : Int) > (0 : Int)) = !(xs.all (inR n))
  | [] => rfl
  | x :: xs => by
    have ih := filt_parts n xs
    rw [List.length_map] at ih ⊢
    rw [List.filter_cons, bad_inR, List.all_cons]
    cases inR n x with
    | true => rw [Bool.true_and]; exact ih
    | false =>
      rw [if_pos (by rfl), List.length_cons]
      exact decide_eq_true (by omega)
theorem wrong_is (r : Rul) (n : Int) : m__law_wrong r n = !(m__is_rule r n) := by
  cases r with
  | ltr c =>
    show ((!decide ((c.length : Int) = (1 : Int))) || (!decide (c.headD 0 ∈ ([97, 98, 99, 100, 101, 102, 103, 104, 105, 106, 107, 108, 109, 110, 111, 112, 113, 114, 115, 116, 117, 118, 119, 120, 121, 122] : List Nat)))) = !(m_is_letter c)
    rw [head_alpha]
    by_cases h : (c.length : Int) = 1
    · match c, h with
      | [z], _ =>
        rw [one_letter]
        rfl
    · have e : m_is_letter c = false := by
        unfold m_is_letter
        rw [decide_eq_false h, Bool.false_and]
      rw [e, decide_eq_false h]
      rfl
  | pair a b =>
    have e1 : m__law_wrong (.pair a b) n = decide (((([a, b].filter (fun (c7_name : Int) => ((decide (c7_name < (0 : Int))) || (decide (c7_name ≥ n))))).map (fun (c7_name : Int) => c7_name)).length : Int) > (0 : Int)) := rfl
    have e2 := walk_parts n true [a, b]
    rw [e1, filt_parts]
    refine congrArg (! ·) (Eq.trans ?_ e2.symm)
    rw [Bool.and_true]
  | pow a t =>
    have e1 : m__law_wrong (.pow a t) n = if (true && ((decide (t < (2 : Int))) || (decide (t > (128 : Int))))) = true then true else decide (((([a].filter (fun (c7_name : Int) => ((decide (c7_name < (0 : Int))) || (decide (c7_name ≥ n))))).map (fun (c7_name : Int) => c7_name)).length : Int) > (0 : Int)) := rfl
    have e2 := walk_parts n ((false || ((decide ((2 : Int) ≤ t)) && (decide (t ≤ (128 : Int)))))) [a]
    have e3 : m__is_rule (.pow a t) n = ([a].all (inR n) && ((false || ((decide ((2 : Int) ≤ t)) && (decide (t ≤ (128 : Int))))))) := e2
    rw [e1, e3, filt_parts]
    by_cases h1 : 2 ≤ t <;> by_cases h2 : t ≤ 128
    · rw [if_neg (by simp; omega), decide_eq_true h1, decide_eq_true h2]
      simp
    · rw [if_pos (by simp; omega), decide_eq_false h2]
      simp
    · rw [if_pos (by simp; omega), decide_eq_false h1]
      simp
    · rw [if_pos (by simp; omega), decide_eq_false h1]
      simp
/-- a rule of the form: its parts are names -/
theorem rule_parts {r : Rul} {n : Int} (h : m__is_rule r n = true) : ∀ q ∈ partsR r, 0 ≤ q ∧ q < n := by
  have key : ∀ xs : List Int, xs.all (inR n) = true → ∀ q ∈ xs, 0 ≤ q ∧ q < n := fun xs hx q hq => by
    have := List.all_eq_true.mp hx q hq
    unfold inR at this
    rw [Bool.and_eq_true, decide_eq_true_eq, decide_eq_true_eq] at this
    exact this
  cases r with
  | ltr c => exact fun q hq => nomatch hq
  | pair a b =>
    have e : m__is_rule (.pair a b) n = ([a, b].all (inR n) && true) := walk_parts n true [a, b]
    rw [e, Bool.and_true] at h
    exact key _ h
  | pow a t =>
    have e : m__is_rule (.pow a t) n = ([a].all (inR n) && ((false || ((decide ((2 : Int) ≤ t)) && (decide (t ≤ (128 : Int))))))) := walk_parts n ((false || ((decide ((2 : Int) ≤ t)) && (decide (t ≤ (128 : Int)))))) [a]
    rw [e, Bool.and_eq_true] at h
    exact key _ h.1
theorem form_cases (rs : List Rul) : (∃ k : Int, m__law_due rs = Sum.inr (T3.mk ([66, 97, 100, 80, 114, 101, 115, 115] : List Nat) k true) ∧ m_Rules___init__ rs = .error ⟨"BadPress", .int "index" k⟩) ∨ (m__law_due rs = Sum.inr (T3.mk ([84, 111, 111, 76, 111, 110, 103] : List Nat) (0 : Int) true) ∧ m_Rules___init__ rs = .error ⟨"TooLong", .no⟩) ∨ (m__law_due rs = Sum.inl () ∧ m_Rules___init__ rs = .ok ⟨rs⟩ ∧ GoodRu rs) := by
  by_cases h0 : rs = []
  · subst h0
    exact .inl ⟨0, rfl, rfl⟩
  have hl : rs.length ≠ 0 := fun z => h0 (List.eq_nil_of_length_eq_zero z)
  have he : rs.isEmpty = false := by cases rs with
    | nil => exact absurd rfl h0
    | cons _ _ => rfl
  by_cases h1 : (rs.length : Int) > 256
  · refine .inr (.inl ⟨?_, ?_⟩)
    · unfold m__law_due
      rw [if_neg (by simpa using h0), if_pos (decide_eq_true h1)]
    · unfold m_Rules___init__
      refine exK_er ?_
      unfold m_check_form_rules
      rw [he, if_neg (by decide), if_pos (decide_eq_true h1)]
  have f1 := forO_first (R := Res Unit) (fun _ (_ : Unit) => True) (fun i => !(m__is_rule (ix rs (i : Int)) (rs.length : Int))) (fun i => .error ⟨"BadPress", .int "index" (i : Int)⟩) (fun (s3 : Unit) (x3_rule : (Int × Rul)) => (if (!(m__is_rule x3_rule.2 (rs.length : Int))) = true then (.ret (.error ⟨"BadPress", .int "index" x3_rule.1⟩)) else .go ())) (enumI rs) 0 () trivial (fun i s y hy _ => by
    obtain ⟨y1, y2⟩ := enumI_get hy
    have hi := (List.getElem?_eq_some_iff.mp y2).1
    have e := ix_nn (xs := rs) (i := (i : Int)) (by omega) (by omega)
    rw [Int.toNat_natCast, y2] at e
    injection e with e
    rw [Nat.zero_add, y1, e]
    cases q : m__is_rule (ix rs (i : Int)) (rs.length : Int) with
    | true => exact .inr ⟨rfl, (), rfl, trivial⟩
    | false => exact .inl ⟨rfl, rfl⟩)
  have f2 := forO_first (R := Sum Unit (T3 (List Nat) Int Bool)) (fun _ (_ : Unit) => True) (fun i => !(m__is_rule (ix rs (i : Int)) (rs.length : Int))) (fun i => Sum.inr (T3.mk ([66, 97, 100, 80, 114, 101, 115, 115] : List Nat) (i : Int) true)) (fun (s3 : Unit) (x3_k : Int) => (if m__law_wrong (ix rs x3_k) (rs.length : Int) = true then .ret (Sum.inr (T3.mk ([66, 97, 100, 80, 114, 101, 115, 115] : List Nat) x3_k true) : (Sum Unit (T3 (List Nat) Int Bool))) else .go ())) (rangeI 0 ((rs.length : Int)).toNat) 0 () trivial (fun i s y hy _ => by
    have hz := rangeI_get hy
    have ey : y = (i : Int) := by omega
    rw [Nat.zero_add, ey, wrong_is]
    cases q : m__is_rule (ix rs (i : Int)) (rs.length : Int) with
    | true => exact .inr ⟨rfl, (), rfl, trivial⟩
    | false => exact .inl ⟨rfl, rfl⟩)
  have d : m__law_due rs = forK (fun (s3 : Unit) (x3_k : Int) => (if m__law_wrong (ix rs x3_k) (rs.length : Int) = true then .ret (Sum.inr (T3.mk ([66, 97, 100, 80, 114, 101, 115, 115] : List Nat) x3_k true) : (Sum Unit (T3 (List Nat) Int Bool))) else .go ())) () (rangeI 0 ((rs.length : Int)).toNat) (fun _ => (Sum.inl () : (Sum Unit (T3 (List Nat) Int Bool)))) (fun r => r) := by
    unfold m__law_due
    rw [if_neg (by simpa using h0), if_neg (by rw [decide_eq_false h1]; exact Bool.false_ne_true)]
  have c : m_check_form_rules rs = forK (fun (s3 : Unit) (x3_rule : (Int × Rul)) => (if (!(m__is_rule x3_rule.2 (rs.length : Int))) = true then (.ret (.error ⟨"BadPress", .int "index" x3_rule.1⟩)) else .go ())) () (enumI rs) (fun _ => (.ok () : Res Unit)) (fun r => r) := by
    unfold m_check_form_rules
    rw [he, if_neg (by decide), if_neg (by rw [decide_eq_false h1]; exact Bool.false_ne_true)]
  rw [enumI_length] at f1
  rw [rangeI_length, Int.toNat_natCast] at f2
  simp only [Nat.zero_add] at f1 f2
  rcases f1 with ⟨i, i1, i2, i3, i4⟩ | ⟨i1, s1, i4⟩
  · rcases f2 with ⟨j, j1, j2, j3, j4⟩ | ⟨j1, _⟩
    · have eij : i = j := by
        rcases Nat.lt_trichotomy i j with z | z | z
        · have := j3 i z; rw [i2] at this; cases this
        · exact z
        · have := i3 j z; rw [j2] at this; cases this
      subst eij
      refine .inl ⟨i, by rw [d]; exact forK_ret j4, ?_⟩
      unfold m_Rules___init__
      exact exK_er (by rw [c]; exact forK_ret i4)
    · have := j1 i i1
      rw [i2] at this
      cases this
  · rcases f2 with ⟨j, j1, j2, _⟩ | ⟨j1, s2, j4⟩
    · have := i1 j j1
      rw [j2] at this
      cases this
    · refine .inr (.inr ⟨by rw [d]; exact forK_go j4, ?_, by omega, by omega, fun p hp => ?_⟩)
      · unfold m_Rules___init__
        rw [exK_ok (by rw [c]; exact forK_go i4)]
      · obtain ⟨k, hk⟩ := List.getElem?_of_mem hp
        have hkl := (List.getElem?_eq_some_iff.mp hk).1
        have e := ix_nn (xs := rs) (i := (k : Int)) (by omega) (by omega)
        rw [Int.toNat_natCast, hk] at e
        injection e with e
        have b := i1 k hkl
        rw [← e, Bool.not_eq_false'] at b
        exact rule_parts b
theorem init_er {rs : List Rul} {e : PErr} (h : m_Rules___init__ rs = .error e) : (∃ k, e = ⟨"BadPress", .int "index" k⟩) ∨ e = ⟨"TooLong", .no⟩ := by
  rcases form_cases rs with ⟨k, _, q⟩ | ⟨_, q⟩ | ⟨_, q, _⟩
  · rw [q] at h; injection h with h; exact .inl ⟨k, h.symm⟩
  · rw [q] at h; injection h with h; exact .inr h.symm
  · rw [q] at h; cases h
def m__law_try (a_rules : (List Rul)) : (Sum ((List Nat) × RulD) (T3 (List Nat) Int Bool)) :=
  exK (m_Rules___init__ a_rules) (fun e1 => (if e1.nm = ("BadPress" : Str) then lt (true && true) fun (v2_base : Bool) => 
      lt false fun (v5_odd : Bool) => 
      (Sum.inr (T3.mk ([66, 97, 100, 80, 114, 101, 115, 115] : List Nat) (payI e1) (v2_base && (!v5_odd))) : (Sum ((List Nat) × RulD) (T3 (List Nat) Int Bool))) else lt (true && true) fun (v8_base : Bool) => 
      lt false fun (v11_odd : Bool) => 
      (Sum.inr (T3.mk ([84, 111, 111, 76, 111, 110, 103] : List Nat) (0 : Int) (v8_base && (!v11_odd))) : (Sum ((List Nat) × RulD) (T3 (List Nat) Int Bool))))) (fun r1 => 
  (Sum.inl (([116, 111, 108, 100] : List Nat), r1) : (Sum ((List Nat) × RulD) (T3 (List Nat) Int Bool))))
abbrev s__law_try : Stmt := topS 71
abbrev N__law_try : List Str := ["rules", "e", "base", "odd"]
theorem sc__law_try : FnScope N__law_try ["rules"] (defScope s__law_try) := ⟨rfl, rfl, rfl, by decide +kernel, rfl, by decide +kernel, by decide +kernel⟩
abbrev Ok__law_try (P : Program) (w : World) (K : PySem.W.Frag) (mg : Str → Option Value) (base : Heap) : Prop :=
  DefOk P w K mg base 6 "_law_try" 1 (spD (ι := (List Rul)) K (fun i => RulP i) (fun i => [.arg i]) (fun i => .is (m__law_try i)))
theorem ok__law_try {P : Program} {w : World} {K : PySem.W.Frag} {mg : Str → Option Value} {base : Heap} {f : Addr} {fd : FuncData} (F : Fun K "_law_try" "_law_try" s__law_try f fd) (hm : mg "_law_try" = some (.ref f)) (bd : Binds K fd ["rules"] []) (T : Bt mg) (D_Rules___init__ : Ok_Rules___init__ P w K mg base) {A : EA} (R : Er K mg A) : Ok__law_try P w K mg base := by
  refine defOk (kk := 5) (R := (Sum ((List Nat) × RulD) (T3 (List Nat) Int Bool))) F hm sc__law_try bd _ _ (fun r => .is r) _ (fun _ => rfl) (fun i hp cdv A outer s H E hr => ?_)
  obtain ⟨a_rules, rfl⟩ : ∃ z, z = i := ⟨i, rfl⟩
  have hp : RulP a_rules := hp
  show SX _ _ [.arg a_rules, .no, .no, .no] _ (m__law_try a_rules)
  unfold m__law_try
  refine sx_try_g sc__law_try.nd (.consN 1 ⟨rfl, by decide, .inl R.g_BadPress⟩ (.consN 1 ⟨rfl, by decide, .inl R.g_TooLong⟩ .nil)) rts_D (fun r1 hk1 pn xe po => ?_) (fun e1 hk1 => ?_)
  · exact sx_retI (mr := (fun r => r)) (rets_ret) rfl (px_inl (px_pair (ax_cons (px_str (x := ([116, 111, 108, 100] : List Nat)) (by decide +kernel)) (ax_cons (px_makeX D_Rules___init__ a_rules (by show RulP (a_rules); first | omega | (have tc_ := tc (by first | assumption | exact Bool.eq_false_iff.mpr (by assumption)); omega) | (have tp_ := tp (by assumption); omega) | (simp only [Bool.and_eq_true, Bool.or_eq_true, Bool.not_eq_true', Bool.and_eq_false_iff, Bool.or_eq_false_iff, Bool.not_eq_false', decide_eq_true_eq, decide_eq_false_iff_not, Classical.not_not] at *; omega) | (simp only [Bool.and_eq_true, Bool.or_eq_true, Bool.not_eq_true', Bool.and_eq_false_iff, Bool.or_eq_false_iff, Bool.not_eq_false', decide_eq_true_eq, decide_eq_false_iff_not, Classical.not_not, lt, List.length_cons, List.length_nil, List.length_append, List.length_map, List.length_reverse, List.length_set, rangeI_length] at *; omega)) hk1 (hr.mono (by decide)) (ax_cons (px_varO 0 (.arg _) rfl) ax_nil) (.arg (.bor _) .nil)) ax_nil))))
  · rcases init_er hk1 with ⟨kk, ee⟩ | ee
    · subst ee
      refine ⟨tr_retS fun W pn xe tk => (pxr_tup (axr_tail (px_str (x := ([116, 111, 108, 100] : List Nat)) (by decide +kernel)) (axr_head (pxr_make tk D_Rules___init__ a_rules (by show RulP (a_rules); first | omega | (have tc_ := tc (by first | assumption | exact Bool.eq_false_iff.mpr (by assumption)); omega) | (have tp_ := tp (by assumption); omega) | (simp only [Bool.and_eq_true, Bool.or_eq_true, Bool.not_eq_true', Bool.and_eq_false_iff, Bool.or_eq_false_iff, Bool.not_eq_false', decide_eq_true_eq, decide_eq_false_iff_not, Classical.not_not] at *; omega) | (simp only [Bool.and_eq_true, Bool.or_eq_true, Bool.not_eq_true', Bool.and_eq_false_iff, Bool.or_eq_false_iff, Bool.not_eq_false', decide_eq_true_eq, decide_eq_false_iff_not, Classical.not_not, lt, List.length_cons, List.length_nil, List.length_append, List.length_map, List.length_reverse, List.length_set, rangeI_length] at *; omega)) hk1 (hr.mono (by decide)) (ax_cons (px_varO 0 (.arg _) rfl) ax_nil) (.arg (.bor _) .nil))))), _, R.g_BadPress, .yesN R.h_BadPress_BadPress (fun a oe d pn hz hf => ?_)⟩
      refine sx_eq (m := lt (true && true) fun (v2_base : Bool) => 
      lt false fun (v5_odd : Bool) => 
      (Sum.inr (T3.mk ([66, 97, 100, 80, 114, 101, 115, 115] : List Nat) kk (v2_base && (!v5_odd))) : (Sum ((List Nat) × RulD) (T3 (List Nat) Int Bool)))) ?_ (by first | rfl | (simp only []; rw [if_pos rfl]; done) | (rw [if_pos rfl]; done) | (rw [if_neg (by decide)]; done) | (rw [if_neg (by decide), if_pos rfl]; done) | (rw [if_neg (by decide), if_neg (by decide)]; done))
      refine sx_set 2 (px_and (px_isEP (X := (cxOf CX0 P w K mg base N__law_try "_law_try" (defScope s__law_try) f cdv A outer s H E).nox) (a0 := a) (pn := pn) R.x_BadPress hz hf (px_var 1 rfl) (px_cls R.g_PressError) (fun u h => h) R.i_BadPress_PressError T.isinstance_) (fun hb3_4 => (px_and1 (px_isEP (X := (cxOf CX0 P w K mg base N__law_try "_law_try" (defScope s__law_try) f cdv A outer s H E).nox) (a0 := a) (pn := pn) R.x_BadPress hz hf (px_var 1 rfl) (px_clsB T.ValueError_ (by decide +kernel)) (fun u h => h) R.i_BadPress_ValueError T.isinstance_)))) (fun v2_base h2 => ?_) sc__law_try.nd
      refine sx_set 3 (px_isEPT (X := (cxOf CX0 P w K mg base N__law_try "_law_try" (defScope s__law_try) f cdv A outer s H E).nox) (a0 := a) (pn := pn) (cs := [⟨.ref _⟩, ⟨.ref _⟩, ⟨.ref _⟩, ⟨.ref _⟩, ⟨.ref _⟩, ⟨.ref _⟩, ⟨.ref _⟩, ⟨.ref _⟩, ⟨.ref _⟩, ⟨.ref _⟩]) R.x_BadPress hz hf (px_var 1 rfl) (ax_cons (px_cls R.g_BadText) (ax_cons (px_cls R.g_BadPlaces) (ax_cons (px_cls R.g_BadCount) (ax_cons (px_cls R.g_TooLong) (ax_cons (px_cls R.g_TooShort) (ax_cons (px_cls R.g_NoText) (ax_cons (px_cls R.g_BadPaper) (ax_cons (px_cls R.g_BadLine) (ax_cons (px_cls R.g_NotARoot) (ax_cons (px_cls R.g_DeskError) ax_nil)))))))))) (show 10 ≤ sizeLine by decide) (.cons (.own _) (.cons (.own _) (.cons (.own _) (.cons (.own _) (.cons (.own _) (.cons (.own _) (.cons (.own _) (.cons (.own _) (.cons (.own _) (.cons (.own _) .nil)))))))))) R.j0_BadPress T.isinstance_) (fun v5_odd h5 => ?_) sc__law_try.nd
      exact sx_retI (mr := (fun r => r)) (rets_ret) rfl (px_inr (px_t3 (ax_cons (px_str (x := ([66, 97, 100, 80, 114, 101, 115, 115] : List Nat)) (by decide +kernel)) (ax_cons (px_xfI (X := (cxOf CX0 P w K mg base N__law_try "_law_try" (defScope s__law_try) f cdv A outer s H E).nox) (a0 := a) (pn := pn) R.f_BadPress R.n_BadPress hz hf (px_var 1 rfl)) (ax_cons (px_and (px_var 2 rfl) (fun hb6_7 => (px_and1 (px_not (px_var 3 rfl))))) ax_nil)))))
    · subst ee
      refine ⟨tr_retS fun W pn xe tk => (pxr_tup (axr_tail (px_str (x := ([116, 111, 108, 100] : List Nat)) (by decide +kernel)) (axr_head (pxr_make tk D_Rules___init__ a_rules (by show RulP (a_rules); first | omega | (have tc_ := tc (by first | assumption | exact Bool.eq_false_iff.mpr (by assumption)); omega) | (have tp_ := tp (by assumption); omega) | (simp only [Bool.and_eq_true, Bool.or_eq_true, Bool.not_eq_true', Bool.and_eq_false_iff, Bool.or_eq_false_iff, Bool.not_eq_false', decide_eq_true_eq, decide_eq_false_iff_not, Classical.not_not] at *; omega) | (simp only [Bool.and_eq_true, Bool.or_eq_true, Bool.not_eq_true', Bool.and_eq_false_iff, Bool.or_eq_false_iff, Bool.not_eq_false', decide_eq_true_eq, decide_eq_false_iff_not, Classical.not_not, lt, List.length_cons, List.length_nil, List.length_append, List.length_map, List.length_reverse, List.length_set, rangeI_length] at *; omega)) hk1 (hr.mono (by decide)) (ax_cons (px_varO 0 (.arg _) rfl) ax_nil) (.arg (.bor _) .nil))))), _, R.g_TooLong, .no R.h_TooLong_BadPress (.yesN R.h_TooLong_TooLong (fun a oe d pn hz hf => ?_))⟩
      refine sx_eq (m := lt (true && true) fun (v8_base : Bool) => 
      lt false fun (v11_odd : Bool) => 
      (Sum.inr (T3.mk ([84, 111, 111, 76, 111, 110, 103] : List Nat) (0 : Int) (v8_base && (!v11_odd))) : (Sum ((List Nat) × RulD) (T3 (List Nat) Int Bool)))) ?_ (by first | rfl | (simp only []; rw [if_pos rfl]; done) | (rw [if_pos rfl]; done) | (rw [if_neg (by decide)]; done) | (rw [if_neg (by decide), if_pos rfl]; done) | (rw [if_neg (by decide), if_neg (by decide)]; done))
      refine sx_set 2 (px_and (px_isEP (X := (cxOf CX0 P w K mg base N__law_try "_law_try" (defScope s__law_try) f cdv A outer s H E).nox) (a0 := a) (pn := pn) R.x_TooLong hz hf (px_var 1 rfl) (px_cls R.g_PressError) (fun u h => h) R.i_TooLong_PressError T.isinstance_) (fun hb9_10 => (px_and1 (px_isEP (X := (cxOf CX0 P w K mg base N__law_try "_law_try" (defScope s__law_try) f cdv A outer s H E).nox) (a0 := a) (pn := pn) R.x_TooLong hz hf (px_var 1 rfl) (px_clsB T.ValueError_ (by decide +kernel)) (fun u h => h) R.i_TooLong_ValueError T.isinstance_)))) (fun v8_base h8 => ?_) sc__law_try.nd
      refine sx_set 3 (px_isEPT (X := (cxOf CX0 P w K mg base N__law_try "_law_try" (defScope s__law_try) f cdv A outer s H E).nox) (a0 := a) (pn := pn) (cs := [⟨.ref _⟩, ⟨.ref _⟩, ⟨.ref _⟩, ⟨.ref _⟩, ⟨.ref _⟩, ⟨.ref _⟩, ⟨.ref _⟩, ⟨.ref _⟩, ⟨.ref _⟩, ⟨.ref _⟩]) R.x_TooLong hz hf (px_var 1 rfl) (ax_cons (px_cls R.g_BadText) (ax_cons (px_cls R.g_BadPlaces) (ax_cons (px_cls R.g_BadCount) (ax_cons (px_cls R.g_TooShort) (ax_cons (px_cls R.g_NoText) (ax_cons (px_cls R.g_BadPress) (ax_cons (px_cls R.g_BadPaper) (ax_cons (px_cls R.g_BadLine) (ax_cons (px_cls R.g_NotARoot) (ax_cons (px_cls R.g_DeskError) ax_nil)))))))))) (show 10 ≤ sizeLine by decide) (.cons (.own _) (.cons (.own _) (.cons (.own _) (.cons (.own _) (.cons (.own _) (.cons (.own _) (.cons (.own _) (.cons (.own _) (.cons (.own _) (.cons (.own _) .nil)))))))))) R.j1_TooLong T.isinstance_) (fun v11_odd h11 => ?_) sc__law_try.nd
      exact sx_retI (mr := (fun r => r)) (rets_ret) rfl (px_inr (px_t3 (ax_cons (px_str (x := ([84, 111, 111, 76, 111, 110, 103] : List Nat)) (by decide +kernel)) (ax_cons px_int (ax_cons (px_and (px_var 2 rfl) (fun hb12_13 => (px_and1 (px_not (px_var 3 rfl))))) ax_nil)))))
abbrev tTold18 : List Nat := [116, 111, 108, 100]
theorem try_cases (rs : List Rul) : (isL (m__law_due rs) = false ∧ isL (m__law_try rs) = false ∧ getR (m__law_try rs) = getR (m__law_due rs)) ∨ (isL (m__law_due rs) = true ∧ isL (m__law_try rs) = true ∧ Tagged.tag (m__law_try rs) = tTold18 ∧ getL (m__law_try rs) = (tTold18, ⟨rs⟩) ∧ GoodRu rs) := by
  rcases form_cases rs with ⟨k, d, q⟩ | ⟨d, q⟩ | ⟨d, q, g⟩
  · refine .inl ?_
    have t : m__law_try rs = Sum.inr (T3.mk ([66, 97, 100, 80, 114, 101, 115, 115] : List Nat) k true) := by
      unfold m__law_try
      rw [exK_er q]
      rfl
    rw [d, t]
    exact ⟨rfl, rfl, rfl⟩
  · refine .inl ?_
    have t : m__law_try rs = Sum.inr (T3.mk ([84, 111, 111, 76, 111, 110, 103] : List Nat) (0 : Int) true) := by
      unfold m__law_try
      rw [exK_er q]
      rfl
    rw [d, t]
    exact ⟨rfl, rfl, rfl⟩
  · refine .inr ?_
    have t : m__law_try rs = Sum.inl (tTold18, ⟨rs⟩) := by
      unfold m__law_try
      rw [exK_ok q]
    rw [d, t]
    exact ⟨rfl, rfl, rfl, rfl, g⟩
theorem holds_due {rs : List Rul} (h : isL (m__law_due rs) = false) : isL (m__law_due rs) = false ∧ isL (m__law_try rs) = false ∧ getR (m__law_try rs) = getR (m__law_due rs) := by
  rcases try_cases rs with z | z
  · exact z
  · rw [z.1] at h; cases h
theorem holds_none {rs : List Rul} (h : isL (m__law_due rs) = true) : isL (m__law_due rs) = true ∧ isL (m__law_try rs) = true ∧ Tagged.tag (m__law_try rs) = tTold18 ∧ getL (m__law_try rs) = (tTold18, ⟨rs⟩) ∧ GoodRu rs := by
  rcases try_cases rs with z | z
  · rw [z.1] at h; cases h
  · exact z
def m__law_holds (a_told : (Sum ((List Nat) × RulD) (T3 (List Nat) Int Bool))) (a_rules : (List Rul)) : Bool :=
  lt (m__law_due a_rules) fun (v1_due : (Sum Unit (T3 (List Nat) Int Bool))) => 
  (if (!isL v1_due) = true then (same (encD (getR a_told)) (encD (getR v1_due))) else 
  (if (!decide ((Tagged.tag a_told) = ([116, 111, 108, 100] : List Nat))) = true then false else 
    lt ((getL a_told).2) fun (v4_press : RulD) => 
      ((same (encD (Tup.mk v4_press.rs)) (encD (Tup.mk a_rules))) && (same (encD (m_Rules_size v4_press)) (encD (m__law_reached a_rules))))))
abbrev s__law_holds : Stmt := topS 72
abbrev N__law_holds : List Str := ["told", "rules", "due", "press"]
theorem sc__law_holds : FnScope N__law_holds ["told", "rules"] (defScope s__law_holds) := ⟨rfl, rfl, rfl, by decide +kernel, rfl, by decide +kernel, by decide +kernel⟩
abbrev Ok__law_holds (P : Program) (w : World) (K : PySem.W.Frag) (mg : Str → Option Value) (base : Heap) : Prop :=
  DefOk P w K mg base 10 "_law_holds" 2 (spD (ι := (Sum ((List Nat) × RulD) (T3 (List Nat) Int Bool)) × (List Rul)) K (fun i => RulP i.2 ∧ i.1 = m__law_try i.2) (fun i => [.is i.1, .is i.2]) (fun i => .is (m__law_holds i.1 i.2)))
theorem ok__law_holds {P : Program} {w : World} {K : PySem.W.Frag} {mg : Str → Option Value} {base : Heap} {f : Addr} {fd : FuncData} (F : Fun K "_law_holds" "_law_holds" s__law_holds f fd) (hm : mg "_law_holds" = some (.ref f)) (bd : Binds K fd ["told", "rules"] []) (T : Bt mg) (D__law_due : Ok__law_due P w K mg base) (D__law_same : ∀ n, Ok__law_same n P w K mg base) (D_Rules_size : Ok_Rules_size P w K mg base) (D__law_reached : Ok__law_reached P w K mg base) {CKU : Addr} (KU : CKg K mg "Rules" ["rules"] CKU) : Ok__law_holds P w K mg base := by
  refine defOk (kk := 9) (R := Bool) F hm sc__law_holds bd _ _ (fun r => .is r) _ (fun _ => rfl) (fun i hp cdv A outer s H E hr => ?_)
  obtain ⟨a_told, a_rules⟩ := i
  have hp : RulP a_rules ∧ a_told = m__law_try a_rules := hp
  obtain ⟨hp1, hp2⟩ := id hp
  have hA := holds_due (rs := a_rules)
  have hB := holds_none (rs := a_rules)
  rw [← hp2] at hA hB
  show SX _ _ [.is a_told, .is a_rules, .no, .no] _ (m__law_holds a_told a_rules)
  unfold m__law_holds
  refine sx_set 2 (px_call D__law_due a_rules (by show RulP (a_rules); exact hp1) (hr.mono (by decide)) (ax_cons (px_var 1 rfl) ax_nil) (.is .nil)) (fun v1_due h1 => ?_) sc__law_holds.nd
  rw [← h1] at hA hB
  refine sx_if (tx_notNS (px_var 2 rfl)) (fun hc2 => ?_) (fun hc2 => ?_)
  · try simp only [Bool.and_eq_true, Bool.or_eq_true, Bool.not_eq_true', Bool.and_eq_false_iff, Bool.or_eq_false_iff, Bool.not_eq_false', decide_eq_true_eq, decide_eq_false_iff_not, Classical.not_not] at hc2
    exact sx_retI (mr := (fun r => r)) (rets_ret) rfl (px_callS (D__law_same 7) ((encD (getR a_told)), (encD (getR v1_due))) (by show flatD 9 ((encD (getR a_told))) = true ∧ flatD 7 ((encD (getR v1_due))) = true; exact ⟨FL.ok (α := (T3 (List Nat) Int Bool)) _ 9 (by decide) ⟨trivial, trivial, trivial⟩, FL.ok (α := (T3 (List Nat) Int Bool)) _ 7 (by decide) ⟨trivial, trivial, trivial⟩⟩) (hr.mono (by decide)) (ax_cons (px_toD (px_unr (px_var 0 rfl) (by exact (hA hc2).2.1))) (ax_cons (px_toD (px_unr (px_var 2 rfl) (by exact (hA hc2).1))) ax_nil)) (.is (.is .nil)))
  · try simp only [Bool.and_eq_true, Bool.or_eq_true, Bool.not_eq_true', Bool.and_eq_false_iff, Bool.or_eq_false_iff, Bool.not_eq_false', decide_eq_true_eq, decide_eq_false_iff_not, Classical.not_not] at hc2
    refine sx_nil ?_
    refine sx_if (tx_neS (px_tag0 (px_var 0 rfl) px_int) (px_str (x := ([116, 111, 108, 100] : List Nat)) (by decide +kernel))) (fun hc3 => ?_) (fun hc3 => ?_)
    · try simp only [Bool.and_eq_true, Bool.or_eq_true, Bool.not_eq_true', Bool.and_eq_false_iff, Bool.or_eq_false_iff, Bool.not_eq_false', decide_eq_true_eq, decide_eq_false_iff_not, Classical.not_not] at hc3
      exact sx_retI (mr := (fun r => r)) (rets_ret) rfl px_bool
    · try simp only [Bool.and_eq_true, Bool.or_eq_true, Bool.not_eq_true', Bool.and_eq_false_iff, Bool.or_eq_false_iff, Bool.not_eq_false', decide_eq_true_eq, decide_eq_false_iff_not, Classical.not_not] at hc3
      refine sx_nil ?_
      refine sx_set 3 (px_snd (px_unl (px_var 0 rfl) (by exact (hB hc2).2.1)) px_int) (fun v4_press h4 => ?_) sc__law_holds.nd
      have hpr : v4_press = ⟨a_rules⟩ := by rw [h4, (hB hc2).2.2.2.1]
      have hg := (hB hc2).2.2.2.2
      have hgl := hg.2.1
      have hg2 : GoodRu v4_press.rs := by rw [hpr]; exact hg
      have hg3 : v4_press.rs.length ≤ 256 := by rw [hpr]; exact hgl
      exact sx_retI (mr := (fun r => r)) (rets_ret) rfl (px_and (px_callS (D__law_same 7) ((encD (Tup.mk v4_press.rs)), (encD (Tup.mk a_rules))) (by show flatD 9 ((encD (Tup.mk v4_press.rs))) = true ∧ flatD 7 ((encD (Tup.mk a_rules))) = true; exact ⟨FL.ok (α := (Tup Rul)) _ 9 (by decide) ⟨by first | omega | (refine Nat.le_trans (show _ ≤ 100000 by (first | assumption | omega | (dsimp only; omega) | (simp only [lt, List.length_cons, List.length_nil, List.length_append, List.length_map, List.length_reverse, List.length_set, rangeI_length]; omega))) (by decide)), fun _ _ => trivial⟩, FL.ok (α := (Tup Rul)) _ 7 (by decide) ⟨by first | omega | (refine Nat.le_trans (show _ ≤ 100000 by (first | assumption | omega | (dsimp only; omega) | (simp only [lt, List.length_cons, List.length_nil, List.length_append, List.length_map, List.length_reverse, List.length_set, rangeI_length]; omega))) (by decide)), fun _ _ => trivial⟩⟩) (hr.mono (by decide)) (ax_cons (px_toD (px_rules KU (px_var 3 rfl))) (ax_cons (px_toD (px_tupleof (.is _) T.tuple_ (px_var 1 rfl))) ax_nil)) (.is (.is .nil))) (fun hb5_6 => (px_and1 (px_callS (D__law_same 7) ((encD (m_Rules_size v4_press)), (encD (m__law_reached a_rules))) (by show flatD 9 ((encD (m_Rules_size v4_press))) = true ∧ flatD 7 ((encD (m__law_reached a_rules))) = true; exact ⟨FL.ok (α := Int) _ 9 (by decide) trivial, FL.ok (α := Int) _ 7 (by decide) trivial⟩) (hr.mono (by decide)) (ax_cons (px_toD (px_meth0 D_Rules_size v4_press (by show GoodRu (v4_press).rs; exact hg2) (hr.mono (by decide)) rfl (px_var 3 rfl))) (ax_cons (px_toD (px_callS D__law_reached a_rules (by show GoodRu (a_rules); exact hg) (hr.mono (by decide)) (ax_cons (px_var 1 rfl) ax_nil) (.is .nil))) ax_nil)) (.is (.is .nil))))))
theorem letters_rulP {n : Int} {f : Int → Int} (hn : n ≤ 1000) : RulP ((rangeI 0 n.toNat).map (fun (c : Int) => Rul.ltr (m__law_letter (f c)))) := by
  refine ⟨by rw [List.length_map, rangeI_length]; omega, fun p hp => ?_⟩
  obtain ⟨c, _, e⟩ := List.mem_map.mp hp
  rw [← e]
  show (m__law_letter (f c)).length ≤ 1000
  rw [show (m__law_letter (f c)).length = 1 from rfl]
  decide
theorem four_rulP {a b : List Rul} (ha : RulP a) (hb : RulP b ∧ 1 ≤ b.length ∧ b.length ≤ 256) : ∀ l ∈ [a, b, b ++ [Rul.ltr [113]], a], RulP l := by
  have hc : RulP (b ++ [Rul.ltr [113]]) := by
    refine ⟨by rw [List.length_append, List.length_singleton]; omega, fun p hp => ?_⟩
    rcases List.mem_append.mp hp with z | z
    · exact hb.1.2 p z
    · rw [List.mem_singleton.mp z]; show 1 ≤ 1000; decide
  intro l hl
  simp only [List.mem_cons, List.not_mem_nil, or_false] at hl
  rcases hl with z | z | z | z <;> rw [z]
  · exact ha
  · exact hb.1
  · exact hc
  · exact ha
theorem map_id_eq {α : Type} {x y : List α} (h : x = y.map (fun c => c)) : x = y := by rw [h]; exact List.map_id' y
theorem told_at {L H : List (List Rul)} {T : List (Sum ((List Nat) × RulD) (T3 (List Nat) Int Bool))} (h : T = H.map (fun c => m__law_try c)) (e : H = L) (hl : H.length = 4) (hr : ∀ l ∈ L, RulP l) (k : Int) (k0 : 0 ≤ k) (k1 : k < 4) : RulP (ix L k) ∧ ix T k = m__law_try (ix L k) := by
  subst e
  have a := ix_nn (xs := H) k0 (by omega)
  refine ⟨hr _ (List.mem_of_getElem? a), ?_⟩
  have b := ix_nn (xs := T) k0 (by rw [h, List.length_map]; omega)
  rw [h, List.getElem?_map, a] at b
  injection b with b
  rw [h]
  exact b.symm
def m_law (a_script : Scr) : Bool :=
  lt (m__law_draws (m__law_cell a_script (0 : Int)) ([(3 : Int), (24 : Int), (5 : Int), (26 : Int), (12 : Int), (10 : Int), (40 : Int)] : List Int)) fun (v1_drawn : (List Int)) => 
  lt (m__law_rules (m__law_cell a_script (1 : Int)) (decide ((ix v1_drawn (4 : Int)) > (3 : Int)))) fun (v2_rules : (List Rul)) => 
  lt (if (decide ((ix v1_drawn (1 : Int)) > (13 : Int))) = true then lt (m__law_each a_script (m__law_size (ix v1_drawn (5 : Int)) (ix v1_drawn (6 : Int)) (40 : Int))) fun (v5_rules : (List Rul)) => 
    v5_rules else v2_rules : (List Rul)) fun (s4 : (List Rul)) => 
  lt (if (decide ((ix v1_drawn (1 : Int)) = (0 : Int))) = true then lt ([] : List Rul) fun (v8_rules : (List Rul)) => 
    v8_rules else s4 : (List Rul)) fun (s7 : (List Rul)) => 
  lt (if ((decide ((ix v1_drawn (1 : Int)) = (1 : Int))) || (decide ((ix v1_drawn (1 : Int)) = (2 : Int)))) = true then lt ((rangeI 0 (((254 : Int) + (ix v1_drawn (2 : Int)))).toNat).map (fun (c13_k : Int) => (Rul.ltr (m__law_letter ((ix v1_drawn (3 : Int)) + (c13_k * (ix v1_drawn (4 : Int)))))))) fun (v12_rules : (List Rul)) => 
    v12_rules else s7 : (List Rul)) fun (s11 : (List Rul)) => 
  lt (List.foldl (fun (s14 : (List Rul)) (x14_j : Int) => lt (m__law_spoilt s14 (m__law_cell a_script ((2 : Int) + x14_j))) fun (v16_rules : (List Rul)) => 
    v16_rules) (s11 : (List Rul)) (rangeI 0 ((ix v1_drawn (0 : Int))).toNat)) fun (s15 : (List Rul)) => 
  lt (m__law_mended s15) fun (v17_mended : (List Rul)) => 
  lt ([s15, v17_mended, (v17_mended ++ ([(Rul.ltr ([113] : List Nat))] : List Rul)), s15] : List (List Rul)) fun (v18_lists : (List (List Rul))) => 
  lt (v18_lists.map (fun (c19_here : (List Rul)) => c19_here)) fun (v20_handed : (List (List Rul))) => 
  lt (v20_handed.map (fun (c22_here : (List Rul)) => (m__law_try c22_here))) fun (v21_told : (List (Sum ((List Nat) × RulD) (T3 (List Nat) Int Bool)))) => 
  forK (fun (s23 : Unit) (x23_k : Int) => (if ((!(same (encD (ix v20_handed x23_k)) (encD (ix v18_lists x23_k)))) || (!(m__law_holds (ix v21_told x23_k) (ix v18_lists x23_k)))) = true then .ret false else 
    .go ())) (() : Unit) (rangeI 0 ((4 : Int)).toNat) (fun (s24 : Unit) => 
  (decide (((((rangeI 0 ((4 : Int)).toNat).filter (fun (c28_k : Int) => (!(m__law_holds (ix v21_told c28_k) (ix v18_lists c28_k))))).map (fun (c28_k : Int) => c28_k)).length : Int) = (0 : Int)))) (fun r => r)
abbrev s_law : Stmt := topS 73
abbrev N_law : List Str := ["script", "drawn", "rules", "j", "mended", "lists", "handed", "told", "k", "row", "here"]
theorem sc_law : FnScope N_law ["script"] (defScope s_law) := ⟨rfl, rfl, rfl, by decide +kernel, rfl, by decide +kernel, by decide +kernel⟩
theorem ok_law {P : Program} {w : World} {K : PySem.W.Frag} {mg : Str → Option Value} {base : Heap} {f : Addr} {fd : FuncData} (F : Fun K "law" "law" s_law f fd) (T : Bt mg) (D__law_cell : Ok__law_cell P w K mg base) (D__law_draws : Ok__law_draws P w K mg base) (D__law_rules : Ok__law_rules P w K mg base) (D__law_size : Ok__law_size P w K mg base) (D__law_each : Ok__law_each P w K mg base) (D__law_letter : Ok__law_letter P w K mg base) (D__law_spoilt : Ok__law_spoilt P w K mg base) (D__law_mended : Ok__law_mended P w K mg base) (D__law_try : Ok__law_try P w K mg base) (D__law_same : ∀ n, Ok__law_same n P w K mg base) (D__law_holds : Ok__law_holds P w K mg base) : FnOk P w K mg base CX0 11 f fd ["script"] (spD (ι := Scr) K (fun i => True) (fun i => [.is i]) (fun i => .is (m_law i))) := by
  refine defFn (kk := 10) (R := Bool) F sc_law _ _ (fun r => .is r) _ (fun _ => rfl) (fun i hp cdv A outer s H E hr => ?_)
  obtain ⟨a_script, rfl⟩ : ∃ z, z = i := ⟨i, rfl⟩
  show SX _ _ [.is a_script, .no, .no, .no, .no, .no, .no, .no, .no, .no, .no] _ (m_law a_script)
  unfold m_law
  refine sx_set 1 (px_share (x := (m__law_draws (m__law_cell a_script (0 : Int)) ([(3 : Int), (24 : Int), (5 : Int), (26 : Int), (12 : Int), (10 : Int), (40 : Int)] : List Int))) (px_call D__law_draws ((m__law_cell a_script (0 : Int)), ([(3 : Int), (24 : Int), (5 : Int), (26 : Int), (12 : Int), (10 : Int), (40 : Int)] : List Int)) (by show DrawsPre (([(3 : Int), (24 : Int), (5 : Int), (26 : Int), (12 : Int), (10 : Int), (40 : Int)] : List Int)); first | exact ⟨by decide, by decide⟩ | exact draws_pre_rep ⟨by decide, by decide⟩ (by decide) (by simp only [List.length_cons, List.length_nil]; omega)) (hr.mono (by decide)) (ax_cons (px_callS D__law_cell (a_script, (0 : Int)) (by show 0 ≤ ((0 : Int)); first | omega | (have tc_ := tc (by first | assumption | exact Bool.eq_false_iff.mpr (by assumption)); omega) | (have tp_ := tp (by assumption); omega) | (simp only [Bool.and_eq_true, Bool.or_eq_true, Bool.not_eq_true', Bool.and_eq_false_iff, Bool.or_eq_false_iff, Bool.not_eq_false', decide_eq_true_eq, decide_eq_false_iff_not, Classical.not_not] at *; omega) | (simp only [Bool.and_eq_true, Bool.or_eq_true, Bool.not_eq_true', Bool.and_eq_false_iff, Bool.or_eq_false_iff, Bool.not_eq_false', decide_eq_true_eq, decide_eq_false_iff_not, Classical.not_not, lt, List.length_cons, List.length_nil, List.length_append, List.length_map, List.length_reverse, List.length_set, rangeI_length] at *; omega)) (hr.mono (by decide)) (ax_cons (px_var 0 rfl) (ax_cons px_int ax_nil)) (.is (.is .nil))) (ax_cons (px_list ([(3 : Int), (24 : Int), (5 : Int), (26 : Int), (12 : Int), (10 : Int), (40 : Int)] : List Int) (ax_cons px_int (ax_cons px_int (ax_cons px_int (ax_cons px_int (ax_cons px_int (ax_cons px_int (ax_cons px_int ax_nil)))))))) ax_nil)) (.is (.arg (.own _) .nil)))) (fun v1_drawn h1 => ?_) sc_law.nd
  obtain ⟨hL1, hD1⟩ := draws_all h1 (by exact ⟨by decide, by decide⟩)
  simp only [List.length_cons, List.length_nil] at hL1
  have f1_0 := hD1 (0 : Int) 3 rfl (by decide)
  have f1_1 := hD1 (1 : Int) 24 rfl (by decide)
  have f1_2 := hD1 (2 : Int) 5 rfl (by decide)
  have f1_3 := hD1 (3 : Int) 26 rfl (by decide)
  have f1_4 := hD1 (4 : Int) 12 rfl (by decide)
  have f1_5 := hD1 (5 : Int) 10 rfl (by decide)
  have f1_6 := hD1 (6 : Int) 40 rfl (by decide)
  clear hD1
  refine sx_set 2 (px_share (x := (m__law_rules (m__law_cell a_script (1 : Int)) (decide ((ix v1_drawn (4 : Int)) > (3 : Int))))) (px_call D__law_rules ((m__law_cell a_script (1 : Int)), (decide ((ix v1_drawn (4 : Int)) > (3 : Int)))) (by trivial) (hr.mono (by decide)) (ax_cons (px_callS D__law_cell (a_script, (1 : Int)) (by show 0 ≤ ((1 : Int)); first | omega | (have tc_ := tc (by first | assumption | exact Bool.eq_false_iff.mpr (by assumption)); omega) | (have tp_ := tp (by assumption); omega) | (simp only [Bool.and_eq_true, Bool.or_eq_true, Bool.not_eq_true', Bool.and_eq_false_iff, Bool.or_eq_false_iff, Bool.not_eq_false', decide_eq_true_eq, decide_eq_false_iff_not, Classical.not_not] at *; omega) | (simp only [Bool.and_eq_true, Bool.or_eq_true, Bool.not_eq_true', Bool.and_eq_false_iff, Bool.or_eq_false_iff, Bool.not_eq_false', decide_eq_true_eq, decide_eq_false_iff_not, Classical.not_not, lt, List.length_cons, List.length_nil, List.length_append, List.length_map, List.length_reverse, List.length_set, rangeI_length] at *; omega)) (hr.mono (by decide)) (ax_cons (px_var 0 rfl) (ax_cons px_int ax_nil)) (.is (.is .nil))) (ax_cons (px_gt (px_ixL (.is _) (px_var 1 rfl) px_int (by first | (constructor <;> omega) | (have tc_ := tc (by first | assumption | exact Bool.eq_false_iff.mpr (by assumption)); constructor <;> omega) | (have tp_ := tp (by assumption); constructor <;> omega) | (simp only [Bool.and_eq_true, Bool.or_eq_true, Bool.not_eq_true', Bool.and_eq_false_iff, Bool.or_eq_false_iff, Bool.not_eq_false', decide_eq_true_eq, decide_eq_false_iff_not, Classical.not_not] at *; constructor <;> omega) | (simp only [Bool.and_eq_true, Bool.or_eq_true, Bool.not_eq_true', Bool.and_eq_false_iff, Bool.or_eq_false_iff, Bool.not_eq_false', decide_eq_true_eq, decide_eq_false_iff_not, Classical.not_not, lt, List.length_cons, List.length_nil, List.length_append, List.length_map, List.length_reverse, List.length_set, rangeI_length] at *; constructor <;> omega))) px_int) ax_nil)) (.is (.is .nil)))) (fun v2_rules h2 => ?_) sc_law.nd
  have p2 : RulP v2_rules := by rw [h2]; exact post__law_rules ((m__law_cell a_script (1 : Int))) ((decide ((ix v1_drawn (4 : Int)) > (3 : Int))))
  have hR2 : RulP v2_rules := by rw [h2]; exact post__law_rules _ _
  clear h2
  refine sx_ifj (fun (s4 : (List Rul)) => [.is a_script, .is v1_drawn, .is s4, .no, .no, .no, .no, .no, .no, .no, .no]) (tx_gt (px_ixL (.is _) (px_var 1 rfl) px_int (by first | (constructor <;> omega) | (have tc_ := tc (by first | assumption | exact Bool.eq_false_iff.mpr (by assumption)); constructor <;> omega) | (have tp_ := tp (by assumption); constructor <;> omega) | (simp only [Bool.and_eq_true, Bool.or_eq_true, Bool.not_eq_true', Bool.and_eq_false_iff, Bool.or_eq_false_iff, Bool.not_eq_false', decide_eq_true_eq, decide_eq_false_iff_not, Classical.not_not] at *; constructor <;> omega) | (simp only [Bool.and_eq_true, Bool.or_eq_true, Bool.not_eq_true', Bool.and_eq_false_iff, Bool.or_eq_false_iff, Bool.not_eq_false', decide_eq_true_eq, decide_eq_false_iff_not, Classical.not_not, lt, List.length_cons, List.length_nil, List.length_append, List.length_map, List.length_reverse, List.length_set, rangeI_length] at *; constructor <;> omega))) px_int) (fun hc4 => ?_) (fun hc4 => ?_) (fun s4 h4 => ?_)
  · try simp only [Bool.and_eq_true, Bool.or_eq_true, Bool.not_eq_true', Bool.and_eq_false_iff, Bool.or_eq_false_iff, Bool.not_eq_false', decide_eq_true_eq, decide_eq_false_iff_not, Classical.not_not] at hc4
    refine sx_set 2 (px_share (x := (m__law_each a_script (m__law_size (ix v1_drawn (5 : Int)) (ix v1_drawn (6 : Int)) (40 : Int)))) (px_call D__law_each (a_script, (m__law_size (ix v1_drawn (5 : Int)) (ix v1_drawn (6 : Int)) (40 : Int))) (by show 1 ≤ ((m__law_size (ix v1_drawn (5 : Int)) (ix v1_drawn (6 : Int)) (40 : Int))) ∧ ((m__law_size (ix v1_drawn (5 : Int)) (ix v1_drawn (6 : Int)) (40 : Int))) ≤ 48; exact ⟨(size_post rfl (by decide)).1, Int.le_trans (size_post rfl (by decide)).2 (by decide)⟩) (hr.mono (by decide)) (ax_cons (px_var 0 rfl) (ax_cons (px_callS D__law_size ((ix v1_drawn (5 : Int)), (ix v1_drawn (6 : Int)), (40 : Int)) (by show 1 ≤ ((40 : Int)); first | omega | (have tc_ := tc (by first | assumption | exact Bool.eq_false_iff.mpr (by assumption)); omega) | (have tp_ := tp (by assumption); omega) | (simp only [Bool.and_eq_true, Bool.or_eq_true, Bool.not_eq_true', Bool.and_eq_false_iff, Bool.or_eq_false_iff, Bool.not_eq_false', decide_eq_true_eq, decide_eq_false_iff_not, Classical.not_not] at *; omega) | (simp only [Bool.and_eq_true, Bool.or_eq_true, Bool.not_eq_true', Bool.and_eq_false_iff, Bool.or_eq_false_iff, Bool.not_eq_false', decide_eq_true_eq, decide_eq_false_iff_not, Classical.not_not, lt, List.length_cons, List.length_nil, List.length_append, List.length_map, List.length_reverse, List.length_set, rangeI_length] at *; omega)) (hr.mono (by decide)) (ax_cons (px_ixL (.is _) (px_var 1 rfl) px_int (by first | (constructor <;> omega) | (have tc_ := tc (by first | assumption | exact Bool.eq_false_iff.mpr (by assumption)); constructor <;> omega) | (have tp_ := tp (by assumption); constructor <;> omega) | (simp only [Bool.and_eq_true, Bool.or_eq_true, Bool.not_eq_true', Bool.and_eq_false_iff, Bool.or_eq_false_iff, Bool.not_eq_false', decide_eq_true_eq, decide_eq_false_iff_not, Classical.not_not] at *; constructor <;> omega) | (simp only [Bool.and_eq_true, Bool.or_eq_true, Bool.not_eq_true', Bool.and_eq_false_iff, Bool.or_eq_false_iff, Bool.not_eq_false', decide_eq_true_eq, decide_eq_false_iff_not, Classical.not_not, lt, List.length_cons, List.length_nil, List.length_append, List.length_map, List.length_reverse, List.length_set, rangeI_length] at *; constructor <;> omega))) (ax_cons (px_ixL (.is _) (px_var 1 rfl) px_int (by first | (constructor <;> omega) | (have tc_ := tc (by first | assumption | exact Bool.eq_false_iff.mpr (by assumption)); constructor <;> omega) | (have tp_ := tp (by assumption); constructor <;> omega) | (simp only [Bool.and_eq_true, Bool.or_eq_true, Bool.not_eq_true', Bool.and_eq_false_iff, Bool.or_eq_false_iff, Bool.not_eq_false', decide_eq_true_eq, decide_eq_false_iff_not, Classical.not_not] at *; constructor <;> omega) | (simp only [Bool.and_eq_true, Bool.or_eq_true, Bool.not_eq_true', Bool.and_eq_false_iff, Bool.or_eq_false_iff, Bool.not_eq_false', decide_eq_true_eq, decide_eq_false_iff_not, Classical.not_not, lt, List.length_cons, List.length_nil, List.length_append, List.length_map, List.length_reverse, List.length_set, rangeI_length] at *; constructor <;> omega))) (ax_cons px_int ax_nil))) (.is (.is (.is .nil)))) ax_nil)) (.is (.is .nil)))) (fun v5_rules h5 => ?_) sc_law.nd
    have p5 : RulP v5_rules := by rw [h5]; exact post__law_each (a_script) ((m__law_size (ix v1_drawn (5 : Int)) (ix v1_drawn (6 : Int)) (40 : Int))) (by show 1 ≤ ((m__law_size (ix v1_drawn (5 : Int)) (ix v1_drawn (6 : Int)) (40 : Int))) ∧ ((m__law_size (ix v1_drawn (5 : Int)) (ix v1_drawn (6 : Int)) (40 : Int))) ≤ 48; exact ⟨(size_post rfl (by decide)).1, Int.le_trans (size_post rfl (by decide)).2 (by decide)⟩)
    exact sx_nil (sx_endN (.same (.same (.same (.same (.same (.same (.same (.same (.same (.same (.same .nil))))))))))))
  · try simp only [Bool.and_eq_true, Bool.or_eq_true, Bool.not_eq_true', Bool.and_eq_false_iff, Bool.or_eq_false_iff, Bool.not_eq_false', decide_eq_true_eq, decide_eq_false_iff_not, Classical.not_not] at hc4
    exact sx_nil (sx_endN (.same (.same (.same (.same (.same (.same (.same (.same (.same (.same (.same .nil))))))))))))
  have hR4 : RulP s4 := by { rw [h4]; exact if_ind (P := RulP) (fun c => post__law_each _ _ ⟨(size_post rfl (by decide)).1, Int.le_trans (size_post rfl (by decide)).2 (by decide)⟩) (fun c => hR2) }
  clear h4
  refine sx_ifj (fun (s7 : (List Rul)) => [.is a_script, .is v1_drawn, .is s7, .no, .no, .no, .no, .no, .no, .no, .no]) (tx_eq (px_ixL (.is _) (px_var 1 rfl) px_int (by first | (constructor <;> omega) | (have tc_ := tc (by first | assumption | exact Bool.eq_false_iff.mpr (by assumption)); constructor <;> omega) | (have tp_ := tp (by assumption); constructor <;> omega) | (simp only [Bool.and_eq_true, Bool.or_eq_true, Bool.not_eq_true', Bool.and_eq_false_iff, Bool.or_eq_false_iff, Bool.not_eq_false', decide_eq_true_eq, decide_eq_false_iff_not, Classical.not_not] at *; constructor <;> omega) | (simp only [Bool.and_eq_true, Bool.or_eq_true, Bool.not_eq_true', Bool.and_eq_false_iff, Bool.or_eq_false_iff, Bool.not_eq_false', decide_eq_true_eq, decide_eq_false_iff_not, Classical.not_not, lt, List.length_cons, List.length_nil, List.length_append, List.length_map, List.length_reverse, List.length_set, rangeI_length] at *; constructor <;> omega))) px_int) (fun hc7 => ?_) (fun hc7 => ?_) (fun s7 h7 => ?_)
  · try simp only [Bool.and_eq_true, Bool.or_eq_true, Bool.not_eq_true', Bool.and_eq_false_iff, Bool.or_eq_false_iff, Bool.not_eq_false', decide_eq_true_eq, decide_eq_false_iff_not, Classical.not_not] at hc7
    refine sx_set 2 (px_share (px_list ([] : List Rul) ax_nil)) (fun v8_rules h8 => ?_) sc_law.nd
    exact sx_nil (sx_endN (.same (.same (.same (.same (.same (.same (.same (.same (.same (.same (.same .nil))))))))))))
  · try simp only [Bool.and_eq_true, Bool.or_eq_true, Bool.not_eq_true', Bool.and_eq_false_iff, Bool.or_eq_false_iff, Bool.not_eq_false', decide_eq_true_eq, decide_eq_false_iff_not, Classical.not_not] at hc7
    exact sx_nil (sx_endN (.same (.same (.same (.same (.same (.same (.same (.same (.same (.same (.same .nil))))))))))))
  have hR7 : RulP s7 := by { rw [h7]; exact if_ind (P := RulP) (fun c => ⟨Nat.zero_le _, fun p hp => (nomatch hp)⟩) (fun c => hR4) }
  clear h7
  refine sx_ifj (fun (s11 : (List Rul)) => [.is a_script, .is v1_drawn, .is s11, .no, .no, .no, .no, .no, .no, .no, .no]) (tx_w (wx_or (tx_eq (px_ixL (.is _) (px_var 1 rfl) px_int (by first | (constructor <;> omega) | (have tc_ := tc (by first | assumption | exact Bool.eq_false_iff.mpr (by assumption)); constructor <;> omega) | (have tp_ := tp (by assumption); constructor <;> omega) | (simp only [Bool.and_eq_true, Bool.or_eq_true, Bool.not_eq_true', Bool.and_eq_false_iff, Bool.or_eq_false_iff, Bool.not_eq_false', decide_eq_true_eq, decide_eq_false_iff_not, Classical.not_not] at *; constructor <;> omega) | (simp only [Bool.and_eq_true, Bool.or_eq_true, Bool.not_eq_true', Bool.and_eq_false_iff, Bool.or_eq_false_iff, Bool.not_eq_false', decide_eq_true_eq, decide_eq_false_iff_not, Classical.not_not, lt, List.length_cons, List.length_nil, List.length_append, List.length_map, List.length_reverse, List.length_set, rangeI_length] at *; constructor <;> omega))) px_int) (fun hw9 => (wx_or1 (tx_eq (px_ixL (.is _) (px_var 1 rfl) px_int (by first | (constructor <;> omega) | (have tc_ := tc (by first | assumption | exact Bool.eq_false_iff.mpr (by assumption)); constructor <;> omega) | (have tp_ := tp (by assumption); constructor <;> omega) | (simp only [Bool.and_eq_true, Bool.or_eq_true, Bool.not_eq_true', Bool.and_eq_false_iff, Bool.or_eq_false_iff, Bool.not_eq_false', decide_eq_true_eq, decide_eq_false_iff_not, Classical.not_not] at *; constructor <;> omega) | (simp only [Bool.and_eq_true, Bool.or_eq_true, Bool.not_eq_true', Bool.and_eq_false_iff, Bool.or_eq_false_iff, Bool.not_eq_false', decide_eq_true_eq, decide_eq_false_iff_not, Classical.not_not, lt, List.length_cons, List.length_nil, List.length_append, List.length_map, List.length_reverse, List.length_set, rangeI_length] at *; constructor <;> omega))) px_int))))) (fun hc11 => ?_) (fun hc11 => ?_) (fun s11 h11 => ?_)
  · try simp only [Bool.and_eq_true, Bool.or_eq_true, Bool.not_eq_true', Bool.and_eq_false_iff, Bool.or_eq_false_iff, Bool.not_eq_false', decide_eq_true_eq, decide_eq_false_iff_not, Classical.not_not] at hc11
    refine sx_setLc0 2 8 (fun (c13_k : Int) => (Rul.ltr (m__law_letter ((ix v1_drawn (3 : Int)) + (c13_k * (ix v1_drawn (4 : Int))))))) (IX.b (it_range1 T.range_ (px_add px_int (px_ixL (.is _) (px_var 1 rfl) px_int (by first | (constructor <;> omega) | (have tc_ := tc (by first | assumption | exact Bool.eq_false_iff.mpr (by assumption)); constructor <;> omega) | (have tp_ := tp (by assumption); constructor <;> omega) | (simp only [Bool.and_eq_true, Bool.or_eq_true, Bool.not_eq_true', Bool.and_eq_false_iff, Bool.or_eq_false_iff, Bool.not_eq_false', decide_eq_true_eq, decide_eq_false_iff_not, Classical.not_not] at *; constructor <;> omega) | (simp only [Bool.and_eq_true, Bool.or_eq_true, Bool.not_eq_true', Bool.and_eq_false_iff, Bool.or_eq_false_iff, Bool.not_eq_false', decide_eq_true_eq, decide_eq_false_iff_not, Classical.not_not, lt, List.length_cons, List.length_nil, List.length_append, List.length_map, List.length_reverse, List.length_set, rangeI_length] at *; constructor <;> omega)))) (by first | (constructor <;> omega) | (have tc_ := tc (by first | assumption | exact Bool.eq_false_iff.mpr (by assumption)); constructor <;> omega) | (have tp_ := tp (by assumption); constructor <;> omega) | (simp only [Bool.and_eq_true, Bool.or_eq_true, Bool.not_eq_true', Bool.and_eq_false_iff, Bool.or_eq_false_iff, Bool.not_eq_false', decide_eq_true_eq, decide_eq_false_iff_not, Classical.not_not] at *; constructor <;> omega) | (simp only [Bool.and_eq_true, Bool.or_eq_true, Bool.not_eq_true', Bool.and_eq_false_iff, Bool.or_eq_false_iff, Bool.not_eq_false', decide_eq_true_eq, decide_eq_false_iff_not, Classical.not_not, lt, List.length_cons, List.length_nil, List.length_append, List.length_map, List.length_reverse, List.length_set, rangeI_length] at *; constructor <;> omega)))) (fun _ => (by rw [rangeI_length]; exact Nat.le_trans (show _ ≤ 100000 by omega) (by decide))) (fun v12_rules h12 => ?_) (fun _ _ _ _ _ => pg_name (i := 8) sc_law.nd rfl (by first | exact Or.inl rfl | exact Or.inr rfl)) (blkOk_by (own := [("k", 8)]) (N := N_law) (sc := defScope s_law) (by decide +kernel)) sc_law.nd rfl (fun i13 c13_k hx13 _ _ _ _ _ => by
      have hr13 := rangeI_get hx13; exact (rul_of_pair (px_pair (ax_cons (px_str (x := ([108, 101, 116, 116, 101, 114] : List Nat)) (by decide +kernel)) (ax_cons (px_callT D__law_letter ((ix v1_drawn (3 : Int)) + (c13_k * (ix v1_drawn (4 : Int)))) (by trivial) (hr.mono (by decide)) (ax_cons (px_add (px_ixL (.is _) (px_var 1 rfl) px_int (by first | (constructor <;> omega) | (have tc_ := tc (by first | assumption | exact Bool.eq_false_iff.mpr (by assumption)); constructor <;> omega) | (have tp_ := tp (by assumption); constructor <;> omega) | (simp only [Bool.and_eq_true, Bool.or_eq_true, Bool.not_eq_true', Bool.and_eq_false_iff, Bool.or_eq_false_iff, Bool.not_eq_false', decide_eq_true_eq, decide_eq_false_iff_not, Classical.not_not] at *; constructor <;> omega) | (simp only [Bool.and_eq_true, Bool.or_eq_true, Bool.not_eq_true', Bool.and_eq_false_iff, Bool.or_eq_false_iff, Bool.not_eq_false', decide_eq_true_eq, decide_eq_false_iff_not, Classical.not_not, lt, List.length_cons, List.length_nil, List.length_append, List.length_map, List.length_reverse, List.length_set, rangeI_length] at *; constructor <;> omega))) (px_mul (px_var 8 rfl) (px_ixL (.is _) (px_var 1 rfl) px_int (by first | (constructor <;> omega) | (have tc_ := tc (by first | assumption | exact Bool.eq_false_iff.mpr (by assumption)); constructor <;> omega) | (have tp_ := tp (by assumption); constructor <;> omega) | (simp only [Bool.and_eq_true, Bool.or_eq_true, Bool.not_eq_true', Bool.and_eq_false_iff, Bool.or_eq_false_iff, Bool.not_eq_false', decide_eq_true_eq, decide_eq_false_iff_not, Classical.not_not] at *; constructor <;> omega) | (simp only [Bool.and_eq_true, Bool.or_eq_true, Bool.not_eq_true', Bool.and_eq_false_iff, Bool.or_eq_false_iff, Bool.not_eq_false', decide_eq_true_eq, decide_eq_false_iff_not, Classical.not_not, lt, List.length_cons, List.length_nil, List.length_append, List.length_map, List.length_reverse, List.length_set, rangeI_length] at *; constructor <;> omega))) (by first | exact .inl ⟨by omega, by omega⟩ | exact .inr ⟨by omega, by omega⟩))) ax_nil) (.is .nil)) ax_nil))))) (sw_true rfl rfl rfl (by decide +kernel))
    refine sx_share 2 rfl ?_
    exact sx_nil (sx_endN (.same (.same (.same (.same (.same (.same (.same (.same (.same (.same (.same .nil))))))))))))
  · try simp only [Bool.and_eq_true, Bool.or_eq_true, Bool.not_eq_true', Bool.and_eq_false_iff, Bool.or_eq_false_iff, Bool.not_eq_false', decide_eq_true_eq, decide_eq_false_iff_not, Classical.not_not] at hc11
    exact sx_nil (sx_endN (.same (.same (.same (.same (.same (.same (.same (.same (.same (.same (.same .nil))))))))))))
  have hR11 : RulP s11 := by { rw [h11]; exact if_ind (P := RulP) (fun c => letters_rulP (n := (254 : Int) + ix v1_drawn 2) (by omega)) (fun c => hR7) }
  clear h11
  refine sx_forF 3 (fun (s14 : (List Rul)) => [.is a_script, .is v1_drawn, .is s14, .no, .no, .no, .no, .no, .no, .no, .no]) _ (s11 : (List Rul)) (fun i s => RulP s) (it_range1 T.range_ (px_ixL (.is _) (px_var 1 rfl) px_int (by first | (constructor <;> omega) | (have tc_ := tc (by first | assumption | exact Bool.eq_false_iff.mpr (by assumption)); constructor <;> omega) | (have tp_ := tp (by assumption); constructor <;> omega) | (simp only [Bool.and_eq_true, Bool.or_eq_true, Bool.not_eq_true', Bool.and_eq_false_iff, Bool.or_eq_false_iff, Bool.not_eq_false', decide_eq_true_eq, decide_eq_false_iff_not, Classical.not_not] at *; constructor <;> omega) | (simp only [Bool.and_eq_true, Bool.or_eq_true, Bool.not_eq_true', Bool.and_eq_false_iff, Bool.or_eq_false_iff, Bool.not_eq_false', decide_eq_true_eq, decide_eq_false_iff_not, Classical.not_not, lt, List.length_cons, List.length_nil, List.length_append, List.length_map, List.length_reverse, List.length_set, rangeI_length] at *; constructor <;> omega))) (by first | (constructor <;> omega) | (have tc_ := tc (by first | assumption | exact Bool.eq_false_iff.mpr (by assumption)); constructor <;> omega) | (have tp_ := tp (by assumption); constructor <;> omega) | (simp only [Bool.and_eq_true, Bool.or_eq_true, Bool.not_eq_true', Bool.and_eq_false_iff, Bool.or_eq_false_iff, Bool.not_eq_false', decide_eq_true_eq, decide_eq_false_iff_not, Classical.not_not] at *; constructor <;> omega) | (simp only [Bool.and_eq_true, Bool.or_eq_true, Bool.not_eq_true', Bool.and_eq_false_iff, Bool.or_eq_false_iff, Bool.not_eq_false', decide_eq_true_eq, decide_eq_false_iff_not, Classical.not_not, lt, List.length_cons, List.length_nil, List.length_append, List.length_map, List.length_reverse, List.length_set, rangeI_length] at *; constructor <;> omega))) (pg_name (i := 3) sc_law.nd rfl (by first | exact Or.inl rfl | exact Or.inr rfl)) (.same (.same (.same (.same (.same (.same (.same (.same (.same (.same (.same .nil))))))))))) (hR11) (fun i14 s14 x14_j hx14 hI14 => ?_) (fun i14 s14 x14_j hx14 hI14 => ?_) (fun s15 h15 hI15 => ?_)
  · have hr14 := rangeI_get hx14
    have hI14 : RulP s14 := hI14
    refine sx_set 2 (px_share (x := (m__law_spoilt s14 (m__law_cell a_script ((2 : Int) + x14_j)))) (px_call D__law_spoilt (s14, (m__law_cell a_script ((2 : Int) + x14_j))) (by show RulP (s14); exact hI14) (hr.mono (by decide)) (ax_cons (px_var 2 rfl) (ax_cons (px_callS D__law_cell (a_script, ((2 : Int) + x14_j)) (by show 0 ≤ (((2 : Int) + x14_j)); first | omega | (have tc_ := tc (by first | assumption | exact Bool.eq_false_iff.mpr (by assumption)); omega) | (have tp_ := tp (by assumption); omega) | (simp only [Bool.and_eq_true, Bool.or_eq_true, Bool.not_eq_true', Bool.and_eq_false_iff, Bool.or_eq_false_iff, Bool.not_eq_false', decide_eq_true_eq, decide_eq_false_iff_not, Classical.not_not] at *; omega) | (simp only [Bool.and_eq_true, Bool.or_eq_true, Bool.not_eq_true', Bool.and_eq_false_iff, Bool.or_eq_false_iff, Bool.not_eq_false', decide_eq_true_eq, decide_eq_false_iff_not, Classical.not_not, lt, List.length_cons, List.length_nil, List.length_append, List.length_map, List.length_reverse, List.length_set, rangeI_length] at *; omega)) (hr.mono (by decide)) (ax_cons (px_var 0 rfl) (ax_cons (px_add px_int (px_var 3 rfl)) ax_nil)) (.is (.is .nil))) ax_nil)) (.is (.is .nil)))) (fun v16_rules h16 => ?_) sc_law.nd
    have p16 : RulP v16_rules := by rw [h16]; exact post__law_spoilt (s14) ((m__law_cell a_script ((2 : Int) + x14_j))) (by show RulP (s14); exact hI14)
    exact sx_nil (sx_endN (.same (.same (.same (.drop (.same (.same (.same (.same (.same (.same (.same .nil))))))))))))
  · have hr14 := rangeI_get hx14
    have hI14 : RulP s14 := hI14
    (dsimp only [lt]; exact post__law_spoilt _ _ hI14)
  have hJ14 : RulP s15 := hI15
  refine sx_set 4 (px_share (x := (m__law_mended s15)) (px_call D__law_mended s15 (by show RulP (s15); exact hJ14) (hr.mono (by decide)) (ax_cons (px_var 2 rfl) ax_nil) (.is .nil))) (fun v17_mended h17 => ?_) sc_law.nd
  have p17 : RulP v17_mended ∧ 1 ≤ v17_mended.length ∧ v17_mended.length ≤ 256 := by rw [h17]; exact post__law_mended (s15) (by show RulP (s15); exact hJ14)
  have hM := post__law_mended _ hJ14
  rw [← h17] at hM
  have hM1 := hM.1
  have hM2 := hM.2.1
  have hM3 := hM.2.2
  refine sx_set 5 (px_share (px_list ([s15, v17_mended, (v17_mended ++ ([(Rul.ltr ([113] : List Nat))] : List Rul)), s15] : List (List Rul)) (ax_cons (px_var 2 rfl) (ax_cons (px_var 4 rfl) (ax_cons (px_share (px_cat (.is _) (.own _) (px_var 4 rfl) (px_list ([(Rul.ltr ([113] : List Nat))] : List Rul) (ax_cons (rul_of_pair (px_pair (ax_cons (px_str (x := ([108, 101, 116, 116, 101, 114] : List Nat)) (by decide +kernel)) (ax_cons (px_str (x := ([113] : List Nat)) (by decide +kernel)) ax_nil)))) ax_nil)) (by first | (exact Nat.le_trans (show _ ≤ 100000 by (first | omega | (simp only [lt, List.length_cons, List.length_nil, List.length_append, List.length_map, List.length_reverse, List.length_set, rangeI_length]; omega))) (by decide)) | (simp only [repL_length, List.length_append, List.length_cons, List.length_nil]; rw [show sizeLine = 16777216 from sizeLine_eq]; omega)))) (ax_cons (px_var 2 rfl) ax_nil)))))) (fun v18_lists h18 => ?_) sc_law.nd
  have hLl : v18_lists.length = 4 := by rw [h18]; rfl
  have hLr : ∀ l ∈ v18_lists, RulP l := by rw [h18]; exact four_rulP hJ14 hM
  clear h18
  refine sx_setLcO 6 10 (fun (c19_here : (List Rul)) => c19_here) (IX.b (it_list (px_var 5 rfl))) id (fun fp20 v20_handed h20 => ?_) (fun _ _ _ _ _ => pg_name (i := 10) sc_law.nd rfl (by first | exact Or.inl rfl | exact Or.inr rfl)) (blkOk_by (own := [("here", 10)]) (N := N_law) (sc := defScope s_law) (by decide +kernel)) sc_law.nd rfl (fun i19 c19_here hx19 _ _ _ _ _ => by
      exact (px_listof (.is _) T.list_ (px_var 10 rfl))) (sw_true rfl rfl rfl (by decide +kernel))
  have hHe := map_id_eq h20
  have hHl : v20_handed.length = 4 := by rw [hHe]; exact hLl
  have hHr : ∀ l ∈ v20_handed, RulP l := by rw [hHe]; exact hLr
  have hHz : ∀ l ∈ v20_handed, 0 ≤ l.length ∧ l.length ≤ 1000 := fun l hl => ⟨Nat.zero_le _, (hHr l hl).1⟩
  refine sx_set 7 (px_share (px_lcLL 6 10 (fun (c22_here : (List Rul)) => (m__law_try c22_here)) rfl (by first | omega | (have tc_ := tc (by first | assumption | exact Bool.eq_false_iff.mpr (by assumption)); omega) | (have tp_ := tp (by assumption); omega) | (simp only [Bool.and_eq_true, Bool.or_eq_true, Bool.not_eq_true', Bool.and_eq_false_iff, Bool.or_eq_false_iff, Bool.not_eq_false', decide_eq_true_eq, decide_eq_false_iff_not, Classical.not_not] at *; omega) | (simp only [Bool.and_eq_true, Bool.or_eq_true, Bool.not_eq_true', Bool.and_eq_false_iff, Bool.or_eq_false_iff, Bool.not_eq_false', decide_eq_true_eq, decide_eq_false_iff_not, Classical.not_not, lt, List.length_cons, List.length_nil, List.length_append, List.length_map, List.length_reverse, List.length_set, rangeI_length] at *; omega)) (fun _ _ _ _ _ => pg_name (i := 10) sc_law.nd rfl (by first | exact Or.inl rfl | exact Or.inr rfl)) (blkOk_by (own := [("here", 10)]) (N := N_law) (sc := defScope s_law) (by decide +kernel)) sc_law.nd rfl (fun i22 c22_here hx22 _ _ _ _ _ => by
      exact (px_call D__law_try c22_here (by show RulP (c22_here); exact hHr _ (List.mem_of_getElem? hx22)) (hr.mono (by decide)) (ax_cons (px_varO 10 (.bor _) rfl) ax_nil) (.arg (.bor _) .nil))))) (fun v21_told h21 => ?_) sc_law.nd
  have hTl : v21_told.length = 4 := by rw [h21, List.length_map]; exact hHl
  have hTr := told_at h21 hHe hHl hLr
  refine sx_for 8 (fun (s23 : Unit) => [.is a_script, .is v1_drawn, .is s15, .no, .is v17_mended, .is v18_lists, .gen fp20 (LLPhi K v20_handed fp20), .is v21_told, .no, .no, .no]) (fun r => .is r) _ (() : Unit) (fun _ _ => True) (it_range1 T.range_ px_int (by first | (constructor <;> omega) | (have tc_ := tc (by first | assumption | exact Bool.eq_false_iff.mpr (by assumption)); constructor <;> omega) | (have tp_ := tp (by assumption); constructor <;> omega) | (simp only [Bool.and_eq_true, Bool.or_eq_true, Bool.not_eq_true', Bool.and_eq_false_iff, Bool.or_eq_false_iff, Bool.not_eq_false', decide_eq_true_eq, decide_eq_false_iff_not, Classical.not_not] at *; constructor <;> omega) | (simp only [Bool.and_eq_true, Bool.or_eq_true, Bool.not_eq_true', Bool.and_eq_false_iff, Bool.or_eq_false_iff, Bool.not_eq_false', decide_eq_true_eq, decide_eq_false_iff_not, Classical.not_not, lt, List.length_cons, List.length_nil, List.length_append, List.length_map, List.length_reverse, List.length_set, rangeI_length] at *; constructor <;> omega))) (pg_name (i := 8) sc_law.nd rfl (by first | exact Or.inl rfl | exact Or.inr rfl)) (.same (.same (.same (.same (.same (.same (.same (.same (.same (.same (.same .nil))))))))))) (trivial) (fun i23 s23 x23_k hx23 hI23 => ?_) (fun i23 s23 x23_k s23_ hx23 hI23 hs23 => ?_) (rets_ret) (fun s24 h24 => ?_)
  · have hr23 := rangeI_get hx23
    refine sx_if (tx_w (wx_or (tx_not (tx_val (px_callC (D__law_same 7) ((encD (ix v20_handed x23_k)), (encD (ix v18_lists x23_k))) (by show flatD 9 ((encD (ix v20_handed x23_k))) = true ∧ flatD 7 ((encD (ix v18_lists x23_k))) = true; exact ⟨@FL.ok (List Rul) encList dencList flList _ 9 (by decide) ⟨Nat.le_trans (hHr _ (List.mem_of_getElem? (ix_nn (by omega) (by omega)))).1 (by decide), fun _ _ => trivial⟩, @FL.ok (List Rul) encList dencList flList _ 7 (by decide) ⟨Nat.le_trans (hLr _ (List.mem_of_getElem? (ix_nn (by omega) (by omega)))).1 (by decide), fun _ _ => trivial⟩⟩) (hr.mono (by decide)) (ac_cons (pc_D (pc_ixLL 6 rfl (px_var 8 rfl) (by constructor <;> first | omega | (have tc_ := tc (by first | assumption | exact Bool.eq_false_iff.mpr (by assumption)); omega) | (have tp_ := tp (by assumption); omega) | (simp only [Bool.and_eq_true, Bool.or_eq_true, Bool.not_eq_true', Bool.and_eq_false_iff, Bool.or_eq_false_iff, Bool.not_eq_false', decide_eq_true_eq, decide_eq_false_iff_not, Classical.not_not] at *; omega) | (simp only [Bool.and_eq_true, Bool.or_eq_true, Bool.not_eq_true', Bool.and_eq_false_iff, Bool.or_eq_false_iff, Bool.not_eq_false', decide_eq_true_eq, decide_eq_false_iff_not, Classical.not_not, lt, List.length_cons, List.length_nil, List.length_append, List.length_map, List.length_reverse, List.length_set, rangeI_length] at *; omega)))) (ac_cons (pc_of (px_toD (px_ixL (.is _) (px_var 5 rfl) (px_var 8 rfl) (by first | (constructor <;> omega) | (have tc_ := tc (by first | assumption | exact Bool.eq_false_iff.mpr (by assumption)); constructor <;> omega) | (have tp_ := tp (by assumption); constructor <;> omega) | (simp only [Bool.and_eq_true, Bool.or_eq_true, Bool.not_eq_true', Bool.and_eq_false_iff, Bool.or_eq_false_iff, Bool.not_eq_false', decide_eq_true_eq, decide_eq_false_iff_not, Classical.not_not] at *; constructor <;> omega) | (simp only [Bool.and_eq_true, Bool.or_eq_true, Bool.not_eq_true', Bool.and_eq_false_iff, Bool.or_eq_false_iff, Bool.not_eq_false', decide_eq_true_eq, decide_eq_false_iff_not, Classical.not_not, lt, List.length_cons, List.length_nil, List.length_append, List.length_map, List.length_reverse, List.length_set, rangeI_length] at *; constructor <;> omega))))) ac_nil))))) (fun hw25 => (wx_or1 (tx_not (tx_val (px_callS D__law_holds ((ix v21_told x23_k), (ix v18_lists x23_k)) (by show RulP ((ix v18_lists x23_k)) ∧ ((ix v21_told x23_k)) = m__law_try ((ix v18_lists x23_k)); exact hTr _ (by omega) (by omega)) (hr.mono (by decide)) (ax_cons (px_ixL (.is _) (px_var 7 rfl) (px_var 8 rfl) (by first | (constructor <;> omega) | (have tc_ := tc (by first | assumption | exact Bool.eq_false_iff.mpr (by assumption)); constructor <;> omega) | (have tp_ := tp (by assumption); constructor <;> omega) | (simp only [Bool.and_eq_true, Bool.or_eq_true, Bool.not_eq_true', Bool.and_eq_false_iff, Bool.or_eq_false_iff, Bool.not_eq_false', decide_eq_true_eq, decide_eq_false_iff_not, Classical.not_not] at *; constructor <;> omega) | (simp only [Bool.and_eq_true, Bool.or_eq_true, Bool.not_eq_true', Bool.and_eq_false_iff, Bool.or_eq_false_iff, Bool.not_eq_false', decide_eq_true_eq, decide_eq_false_iff_not, Classical.not_not, lt, List.length_cons, List.length_nil, List.length_append, List.length_map, List.length_reverse, List.length_set, rangeI_length] at *; constructor <;> omega))) (ax_cons (px_ixL (.is _) (px_var 5 rfl) (px_var 8 rfl) (by first | (constructor <;> omega) | (have tc_ := tc (by first | assumption | exact Bool.eq_false_iff.mpr (by assumption)); constructor <;> omega) | (have tp_ := tp (by assumption); constructor <;> omega) | (simp only [Bool.and_eq_true, Bool.or_eq_true, Bool.not_eq_true', Bool.and_eq_false_iff, Bool.or_eq_false_iff, Bool.not_eq_false', decide_eq_true_eq, decide_eq_false_iff_not, Classical.not_not] at *; constructor <;> omega) | (simp only [Bool.and_eq_true, Bool.or_eq_true, Bool.not_eq_true', Bool.and_eq_false_iff, Bool.or_eq_false_iff, Bool.not_eq_false', decide_eq_true_eq, decide_eq_false_iff_not, Classical.not_not, lt, List.length_cons, List.length_nil, List.length_append, List.length_map, List.length_reverse, List.length_set, rangeI_length] at *; constructor <;> omega))) ax_nil)) (.is (.is .nil))))))))) (fun hc26 => ?_) (fun hc26 => ?_)
    · try simp only [Bool.and_eq_true, Bool.or_eq_true, Bool.not_eq_true', Bool.and_eq_false_iff, Bool.or_eq_false_iff, Bool.not_eq_false', decide_eq_true_eq, decide_eq_false_iff_not, Classical.not_not] at hc26
      exact sx_retI (mr := Out.ret) (rets_out) rfl px_bool
    · try simp only [Bool.and_eq_true, Bool.or_eq_true, Bool.not_eq_true', Bool.and_eq_false_iff, Bool.or_eq_false_iff, Bool.not_eq_false', decide_eq_true_eq, decide_eq_false_iff_not, Classical.not_not] at hc26
      refine sx_nil ?_
      exact sx_nil (sx_endO (.same (.same (.same (.same (.same (.same (.same (.same (.drop (.same (.same .nil))))))))))))
  · have hr23 := rangeI_get hx23
    exact trivial
  refine sx_weakLL (N := 1000) 6 rfl (by assumption) ?_
  refine sx_forC 8 (fun (q27 : Nat) => [.is a_script, .is v1_drawn, .is s15, .no, .is v17_mended, .is v18_lists, .gen fp20 (OutLL fp20 v20_handed.length (1000 + q27)), .is v21_told, .no, .no, .no]) (it_range1 T.range_ px_int (by first | (constructor <;> omega) | (have tc_ := tc (by first | assumption | exact Bool.eq_false_iff.mpr (by assumption)); constructor <;> omega) | (have tp_ := tp (by assumption); constructor <;> omega) | (simp only [Bool.and_eq_true, Bool.or_eq_true, Bool.not_eq_true', Bool.and_eq_false_iff, Bool.or_eq_false_iff, Bool.not_eq_false', decide_eq_true_eq, decide_eq_false_iff_not, Classical.not_not] at *; constructor <;> omega) | (simp only [Bool.and_eq_true, Bool.or_eq_true, Bool.not_eq_true', Bool.and_eq_false_iff, Bool.or_eq_false_iff, Bool.not_eq_false', decide_eq_true_eq, decide_eq_false_iff_not, Classical.not_not, lt, List.length_cons, List.length_nil, List.length_append, List.length_map, List.length_reverse, List.length_set, rangeI_length] at *; constructor <;> omega))) (pg_name (i := 8) sc_law.nd rfl (by first | exact Or.inl rfl | exact Or.inr rfl)) (.same (.same (.same (.same (.same (.same (.same (.same (.same (.same (.same .nil))))))))))) (fun i27 x27_k hx27 => ?_) ?_
  · have hr27 := rangeI_get hx27
    have hrl27 := (List.getElem?_eq_some_iff.mp hx27).1
    rw [rangeI_length] at hrl27
    refine sx_rowTurn 6 9 (by decide) rfl (by show 1000 + i27 ≤ 100000; omega) (px_var 8 rfl) (by constructor <;> first | omega | (have tc_ := tc (by first | assumption | exact Bool.eq_false_iff.mpr (by assumption)); omega) | (have tp_ := tp (by assumption); omega) | (simp only [Bool.and_eq_true, Bool.or_eq_true, Bool.not_eq_true', Bool.and_eq_false_iff, Bool.or_eq_false_iff, Bool.not_eq_false', decide_eq_true_eq, decide_eq_false_iff_not, Classical.not_not] at *; omega) | (simp only [Bool.and_eq_true, Bool.or_eq_true, Bool.not_eq_true', Bool.and_eq_false_iff, Bool.or_eq_false_iff, Bool.not_eq_false', decide_eq_true_eq, decide_eq_false_iff_not, Classical.not_not, lt, List.length_cons, List.length_nil, List.length_append, List.length_map, List.length_reverse, List.length_set, rangeI_length] at *; omega)) (rul_of_pair (px_pair (ax_cons (px_str (x := ([108, 101, 116, 116, 101, 114] : List Nat)) (by decide +kernel)) (ax_cons (px_str (x := ([113] : List Nat)) (by decide +kernel)) ax_nil)))) px_int (rul_of_t3 (px_t3 (ax_cons (px_str (x := ([112, 97, 105, 114] : List Nat)) (by decide +kernel)) (ax_cons px_int (ax_cons px_int ax_nil))))) ?_ rfl (fun _ => trivial) sc_law.nd rfl (by first | exact Or.inl rfl | exact Or.inr (Or.inl rfl) | exact Or.inr (Or.inr rfl)) (by decide) (by decide) rfl (Nat.lt_of_sub_eq_succ rfl) (by first | exact Or.inl rfl | exact Or.inr rfl) (by first | exact Or.inl rfl | exact Or.inr (Or.inl rfl) | exact Or.inr (Or.inr rfl)) (by decide) (by decide) rfl (by first | exact .inl rfl | exact .inr rfl) (fun _ _ => rfl) rfl rfl rfl rfl rfl rfl (pg_sub (pe_var rfl (by first | exact Or.inl rfl | exact Or.inr (Or.inl rfl) | exact Or.inr (Or.inr rfl)) (by decide) (by decide)) peW set_list) rfl rfl rfl
    exact sx_nil (sx_endN (.same (.same (.same (.same (.same (.same (.same (.same (.drop (.same (.same .nil))))))))))))
  refine sx_weak (.same (.same (.same (.same (.same (.same (.drop (.same (.same (.same (.same .nil))))))))))) ?_
  exact sx_retI (mr := (fun r => r)) (rets_ret) rfl (px_eq (px_len (.own _) T.len_ (px_lc1  8 (fun (c28_k : Int) => c28_k) (fun (c28_k : Int) => (!(m__law_holds (ix v21_told c28_k) (ix v18_lists c28_k)))) (IX.b (it_range1 T.range_ px_int (by first | (constructor <;> omega) | (have tc_ := tc (by first | assumption | exact Bool.eq_false_iff.mpr (by assumption)); constructor <;> omega) | (have tp_ := tp (by assumption); constructor <;> omega) | (simp only [Bool.and_eq_true, Bool.or_eq_true, Bool.not_eq_true', Bool.and_eq_false_iff, Bool.or_eq_false_iff, Bool.not_eq_false', decide_eq_true_eq, decide_eq_false_iff_not, Classical.not_not] at *; constructor <;> omega) | (simp only [Bool.and_eq_true, Bool.or_eq_true, Bool.not_eq_true', Bool.and_eq_false_iff, Bool.or_eq_false_iff, Bool.not_eq_false', decide_eq_true_eq, decide_eq_false_iff_not, Classical.not_not, lt, List.length_cons, List.length_nil, List.length_append, List.length_map, List.length_reverse, List.length_set, rangeI_length] at *; constructor <;> omega)))) (fun _ => (by rw [rangeI_length]; exact Nat.le_trans (show _ ≤ 100000 by omega) (by decide))) (fun _ _ _ _ _ => pg_name (i := 8) sc_law.nd rfl (by first | exact Or.inl rfl | exact Or.inr rfl)) (blkOk_by (own := [("k", 8)]) (N := N_law) (sc := defScope s_law) (by decide +kernel)) sc_law.nd rfl (fun i28 c28_k hx28 _ _ _ _ _ => by
      have hr28 := rangeI_get hx28; exact (tx_not (tx_val (px_callS D__law_holds ((ix v21_told c28_k), (ix v18_lists c28_k)) (by show RulP ((ix v18_lists c28_k)) ∧ ((ix v21_told c28_k)) = m__law_try ((ix v18_lists c28_k)); exact hTr _ (by omega) (by omega)) (hr.mono (by decide)) (ax_cons (px_ixL (.is _) (px_var 7 rfl) (px_var 8 rfl) (by first | (constructor <;> omega) | (have tc_ := tc (by first | assumption | exact Bool.eq_false_iff.mpr (by assumption)); constructor <;> omega) | (have tp_ := tp (by assumption); constructor <;> omega) | (simp only [Bool.and_eq_true, Bool.or_eq_true, Bool.not_eq_true', Bool.and_eq_false_iff, Bool.or_eq_false_iff, Bool.not_eq_false', decide_eq_true_eq, decide_eq_false_iff_not, Classical.not_not] at *; constructor <;> omega) | (simp only [Bool.and_eq_true, Bool.or_eq_true, Bool.not_eq_true', Bool.and_eq_false_iff, Bool.or_eq_false_iff, Bool.not_eq_false', decide_eq_true_eq, decide_eq_false_iff_not, Classical.not_not, lt, List.length_cons, List.length_nil, List.length_append, List.length_map, List.length_reverse, List.length_set, rangeI_length] at *; constructor <;> omega))) (ax_cons (px_ixL (.is _) (px_var 5 rfl) (px_var 8 rfl) (by first | (constructor <;> omega) | (have tc_ := tc (by first | assumption | exact Bool.eq_false_iff.mpr (by assumption)); constructor <;> omega) | (have tp_ := tp (by assumption); constructor <;> omega) | (simp only [Bool.and_eq_true, Bool.or_eq_true, Bool.not_eq_true', Bool.and_eq_false_iff, Bool.or_eq_false_iff, Bool.not_eq_false', decide_eq_true_eq, decide_eq_false_iff_not, Classical.not_not] at *; constructor <;> omega) | (simp only [Bool.and_eq_true, Bool.or_eq_true, Bool.not_eq_true', Bool.and_eq_false_iff, Bool.or_eq_false_iff, Bool.not_eq_false', decide_eq_true_eq, decide_eq_false_iff_not, Classical.not_not, lt, List.length_cons, List.length_nil, List.length_append, List.length_map, List.length_reverse, List.length_set, rangeI_length] at *; constructor <;> omega))) ax_nil)) (.is (.is .nil)))))) (fun i28 c28_k hx28 hf28 _ _ _ _ _ => by
      have hr28 := rangeI_get hx28; exact (px_var 8 rfl)))) px_int)
theorem forO_unit {α R : Type} {step : Unit → α → Out Unit R} : ∀ {xs : List α}, (∀ (i : Nat) (y : α), xs[i]? = some y → step () y = .go ()) → forO step () xs = .go ()
  | [], _ => rfl
  | y :: xs, h => by
    rw [forO_cons, h 0 y rfl]
    exact forO_unit fun i z hz => h (i + 1) z (by simpa using hz)
def MkB (s : List Bool) (q : Int) : Prop := 0 ≤ q ∧ s[q.toNat]? = some true
theorem mk_lt {s : List Bool} {q : Int} (h : MkB s q) : q < s.length := by
  have := (List.getElem?_eq_some_iff.mp h.2).1
  have := h.1
  omega
theorem mk_ix {s : List Bool} {q : Int} (h0 : 0 ≤ q) (h1 : q < s.length) : ix s q = true ↔ MkB s q := by
  have e := ix_nn h0 h1
  constructor
  · intro h; rw [h] at e; exact ⟨h0, e⟩
  · rintro ⟨_, h⟩; rw [h] at e; injection e with e; exact e.symm
theorem mkP_iff {s : List Bool} {p q : Int} (h0 : 0 ≤ p) (h1 : p < s.length) : MkB (mkP s p) q ↔ MkB s q ∨ q = p := by
  unfold MkB mkP
  rw [List.getElem?_set]
  by_cases c : p.toNat = q.toNat
  · rw [if_pos c, if_pos (by omega)]
    constructor
    · rintro ⟨a, _⟩; exact .inr (by omega)
    · rintro (⟨a, _⟩ | a)
      · exact ⟨a, rfl⟩
      · exact ⟨by omega, rfl⟩
  · rw [if_neg c]
    constructor
    · exact fun a => .inl a
    · rintro (a | a)
      · exact a
      · exact absurd (by rw [a]) c
theorem foldP_iff : ∀ (ps : List Int) (s : List Bool) {q : Int}, (∀ p ∈ ps, 0 ≤ p ∧ p < s.length) → (MkB (ps.foldl mkP s) q ↔ MkB s q ∨ q ∈ ps)
  | [], s, q, _ => ⟨.inl, fun z => z.elim id fun z => nomatch z⟩
  | p :: ps, s, q, h => by
    have hp := h p List.mem_cons_self
    rw [List.foldl_cons, foldP_iff ps (mkP s p) (fun x hx => by have := h x (List.mem_cons_of_mem _ hx); unfold mkP; rw [List.length_set]; exact this), mkP_iff hp.1 hp.2, List.mem_cons]
    exact or_assoc
theorem mkR_iff {rs : List Rul} {bef s : List Bool} {k q : Int} (hg : PartsIn rs) (hs : s.length = rs.length) (hb : bef.length = rs.length) (k0 : 0 ≤ k) (k1 : k < rs.length) : MkB (mkR rs bef s k) q ↔ MkB s q ∨ (MkB bef k ∧ q ∈ partsR (ix rs k)) := by
  have hk := List.mem_of_getElem? (ix_nn (xs := rs) k0 k1)
  unfold mkR
  cases c : ix bef k with
  | true =>
    have m := (mk_ix (s := bef) k0 (by omega)).mp c
    rw [if_pos rfl, lparts_is, foldP_iff _ _ (fun p hp => by have := hg _ hk p hp; omega)]
    exact ⟨fun z => z.imp id fun z => ⟨m, z⟩, fun z => z.imp id fun z => z.2⟩
  | false =>
    have n : ¬ MkB bef k := fun z => by rw [(mk_ix (s := bef) k0 (by omega)).mpr z] at c; cases c
    rw [if_neg Bool.false_ne_true]
    exact ⟨.inl, fun z => z.elim id fun z => absurd z.1 n⟩
theorem foldR_iff {rs : List Rul} {bef : List Bool} (hg : PartsIn rs) (hb : bef.length = rs.length) : ∀ (ks : List Int) (s : List Bool) {q : Int}, (∀ k ∈ ks, 0 ≤ k ∧ k < rs.length) → s.length = rs.length → (MkB (ks.foldl (mkR rs bef) s) q ↔ MkB s q ∨ ∃ k ∈ ks, MkB bef k ∧ q ∈ partsR (ix rs k))
  | [], s, q, _, _ => ⟨.inl, fun z => z.elim id fun ⟨_, z, _⟩ => nomatch z⟩
  | k :: ks, s, q, h, hs => by
    have hk := h k List.mem_cons_self
    rw [List.foldl_cons, foldR_iff hg hb ks _ (fun x hx => h x (List.mem_cons_of_mem _ hx)) (mk_row hs), mkR_iff hg hs hb hk.1 hk.2]
    constructor
    · rintro ((a | a) | ⟨x, a, b⟩)
      · exact .inl a
      · exact .inr ⟨k, List.mem_cons_self, a⟩
      · exact .inr ⟨x, List.mem_cons_of_mem _ a, b⟩
    · rintro (a | ⟨x, a, b⟩)
      · exact .inl (.inl a)
      · rcases List.mem_cons.mp a with z | z
        · rw [z] at b; exact .inl (.inr b)
        · exact .inr ⟨x, z, b⟩
theorem mkT_iff {rs : List Rul} {s : List Bool} {q : Int} (hg : PartsIn rs) (hs : s.length = rs.length) : MkB (mkT rs s) q ↔ MkB s q ∨ ∃ k, MkB s k ∧ q ∈ partsR (ix rs k) := by
  unfold mkT
  rw [foldR_iff hg hs _ _ (fun k hk => by have := mem_rangeI.mp hk; omega) hs]
  refine or_congr Iff.rfl ⟨fun ⟨k, _, h⟩ => ⟨k, h⟩, fun ⟨k, h⟩ => ⟨k, mem_rangeI.mpr ?_, h⟩⟩
  have := mk_lt h.1
  have := h.1.1
  omega
def cnt (s : List Bool) : Nat := (s.filter (fun c => c)).length
theorem cnt_grow : ∀ {s t : List Bool}, s.length = t.length → (∀ i : Nat, s[i]? = some true → t[i]? = some true) → cnt s ≤ cnt t ∧ (t ≠ s → cnt s < cnt t)
  | [], [], _, _ => ⟨Nat.le_refl _, fun h => absurd rfl h⟩
  | [], _ :: _, l, _ => by cases l
  | _ :: _, [], l, _ => by cases l
  | a :: s, b :: t, l, h => by
    have ih := cnt_grow (s := s) (t := t) (by simpa using l) (fun i hi => by have := h (i + 1) (by simpa using hi); simpa using this)
    cases a with
    | true =>
      have hb := h 0 rfl
      have hb : some b = some true := hb
      injection hb with hb
      subst hb
      have e : ∀ x : List Bool, cnt (true :: x) = cnt x + 1 := fun x => rfl
      rw [e, e]
      exact ⟨Nat.succ_le_succ ih.1, fun n => Nat.succ_lt_succ (ih.2 fun z => n (by rw [z]))⟩
    | false =>
      have e : ∀ x : List Bool, cnt (false :: x) = cnt x := fun x => rfl
      have f : ∀ x : List Bool, cnt (true :: x) = cnt x + 1 := fun x => rfl
      cases b with
      | true =>
        rw [e, f]
        exact ⟨Nat.le_succ_of_le ih.1, fun _ => Nat.lt_succ_of_le ih.1⟩
      | false =>
        rw [e, e]
        exact ⟨ih.1, fun n => ih.2 fun z => n (by rw [z])⟩
structure MkI (rs : List Rul) (i : Nat) (s : List Bool) : Prop where
  len : s.length = rs.length
  rch : ∀ q, MkB s q → Rch rs q
  last : MkB s ((rs.length : Int) - 1)
  many : i + 1 ≤ cnt s
structure MkJ (rs : List Rul) (s : List Bool) : Prop where
  len : s.length = rs.length
  rch : ∀ q, MkB s q → Rch rs q
  last : MkB s ((rs.length : Int) - 1)
  shut : ∀ k, MkB s k → ∀ q ∈ partsR (ix rs k), MkB s q
theorem mk0_iff {n : Nat} {q : Int} : MkB ((rangeI 0 n).map (fun (c : Int) => decide (c = ((n : Int) - (1 : Int))))) q ↔ 0 ≤ q ∧ q < n ∧ q = (n : Int) - 1 := by
  constructor
  · intro h
    have l := mk_lt h
    rw [List.length_map, rangeI_length] at l
    have h2 := h.2
    rw [List.getElem?_map, rangeI_at 0 (show q.toNat < n by have := h.1; omega)] at h2
    have h2 : some (decide ((0 : Int) + (q.toNat : Int) = (n : Int) - 1)) = some true := h2
    injection h2 with h2
    have h3 := of_decide_eq_true h2
    have := h.1
    exact ⟨h.1, l, by omega⟩
  · rintro ⟨h0, h1, h2⟩
    refine ⟨h0, ?_⟩
    rw [List.getElem?_map, rangeI_at 0 (show q.toNat < n by omega)]
    show some (decide ((0 : Int) + (q.toNat : Int) = (n : Int) - 1)) = some true
    rw [decide_eq_true (by omega)]
theorem mk_start {rs : List Rul} (h : GoodRu rs) : MkI rs 0 ((rangeI 0 rs.length).map (fun (c : Int) => decide (c = ((rs.length : Int) - (1 : Int))))) := by
  have h1 := h.1
  have l : MkB ((rangeI 0 rs.length).map (fun (c : Int) => decide (c = ((rs.length : Int) - (1 : Int))))) ((rs.length : Int) - 1) := mk0_iff.mpr ⟨by omega, by omega, rfl⟩
  refine ⟨by rw [List.length_map, rangeI_length], fun q hq => ?_, l, ?_⟩
  · rw [(mk0_iff.mp hq).2.2]; exact .last
  · exact List.length_pos_of_mem (List.mem_filter.mpr ⟨List.mem_of_getElem? l.2, rfl⟩)
theorem mk_next {rs : List Rul} (h : GoodRu rs) {i : Nat} {s : List Bool} (I : MkI rs i s) (n : mkT rs s ≠ s) : MkI rs (i + 1) (mkT rs s) := by
  have e := fun q => mkT_iff (q := q) h.2.2 I.len
  refine ⟨mkT_len I.len, fun q hq => ?_, (e _).mpr (.inl I.last), ?_⟩
  · rcases (e q).mp hq with z | ⟨k, z1, z2⟩
    · exact I.rch q z
    · exact .step (I.rch k z1) z2
  · have g := (cnt_grow (s := s) (t := mkT rs s) (by rw [mkT_len I.len, I.len]) (fun j hj => ((e (j : Int)).mpr (.inl ⟨by omega, by rw [Int.toNat_natCast]; exact hj⟩)).2)).2 n
    have := I.many
    omega
theorem mk_shut {rs : List Rul} (h : GoodRu rs) {i : Nat} {s : List Bool} (I : MkI rs i s) (n : mkT rs s = s) : MkJ rs (mkT rs s) := by
  have e := fun q => mkT_iff (q := q) h.2.2 I.len
  rw [n] at e ⊢
  exact ⟨I.len, I.rch, I.last, fun k hk q hq => (e q).mpr (.inr ⟨k, hk, hq⟩)⟩
theorem marks_end {rs : List Rul} (h : GoodRu rs) : MkJ rs (forB (mkQ rs) ((rangeI 0 rs.length).map (fun (c : Int) => decide (c = ((rs.length : Int) - (1 : Int))))) (rangeI 0 rs.length)) := by
  refine forB_inv (MkI rs) (MkJ rs) (mk_start h) (fun i s x s' _ I e => ?_) (fun i s x s' _ I e => ?_) (fun s I => ?_)
  · unfold mkQ at e
    split at e
    · cases e
    · rename_i c
      injection e with e
      rw [← e]
      exact mk_next h I (fun z => c (decide_eq_true z))
  · unfold mkQ at e
    split at e
    · rename_i c
      injection e with e
      rw [← e]
      exact mk_shut h I (of_decide_eq_true c)
    · cases e
  · rw [rangeI_length] at I
    have := I.many
    have := I.len
    have : cnt s ≤ s.length := List.length_filter_le _ _
    omega
theorem map_ix_self {s : List Bool} : (rangeI 0 s.length).map (ix s) = s := by
  refine List.ext_getElem? fun i => ?_
  rw [List.getElem?_map]
  by_cases c : i < s.length
  · rw [rangeI_at 0 c]
    have := ix_nn (xs := s) (i := (i : Int)) (by omega) (by omega)
    rw [Int.toNat_natCast] at this
    rw [this]
    show some (ix s (0 + (i : Int))) = _
    rw [Int.zero_add]
  · rw [List.getElem?_eq_none (by rw [rangeI_length]; omega), List.getElem?_eq_none (by omega)]
    rfl
theorem cnt_names (s : List Bool) : cnt s = ((rangeI 0 s.length).filter (fun q => ix s q)).length := by
  have e : cnt s = cnt ((rangeI 0 s.length).map (ix s)) := by rw [map_ix_self]
  rw [e]
  unfold cnt
  rw [List.filter_map, List.length_map]
  rfl
theorem rangeI_nd (n : Nat) : (rangeI 0 n).Nodup := by
  unfold List.Nodup
  rw [List.pairwise_iff_getElem]
  intro i j hi hj hij e
  rw [rangeI_length] at hi hj
  have a := rangeI_at 0 hi
  have b := rangeI_at 0 hj
  have a2 := (List.getElem?_eq_some_iff.mp a).2
  have b2 := (List.getElem?_eq_some_iff.mp b).2
  rw [a2, b2] at e
  omega
theorem used_is {rs : List Rul} (h : GoodRu rs) : ∃ s : (List Int) × (DctI Bool), UsI rs s ∧ s.1.isEmpty = true ∧ m_Rules_used ⟨rs⟩ = sortI (keysI s.2) := by
  have k := whF_ind (c := fun (s : (List Int) × (DctI Bool)) => (!s.1.isEmpty)) (step := fun (s : (List Int) × (DctI Bool)) => ((List.foldl newS (s.2, s.1.dropLast) (m__parts (ix (Tup.mk rs).l (ix s.1 (-1))))).2, (List.foldl newS (s.2, s.1.dropLast) (m__parts (ix (Tup.mk rs).l (ix s.1 (-1))))).1)) (UsI rs) (UsM rs) (fun s hI hc => us_step h hI (by simpa using hc)) (2 * rs.length) _ (us_start h) (us_enough h)
  exact ⟨_, k.1, by simpa using k.2, rfl⟩
theorem size_reached {rs : List Rul} (h : GoodRu rs) : m_Rules_size ⟨rs⟩ = m__law_reached rs := by
  obtain ⟨s, hI, he, hu⟩ := used_is h
  have hJ := marks_end h
  have e1 : m_Rules_size ⟨rs⟩ = ((keysI s.2).length : Int) := by
    show ((m_Rules_used ⟨rs⟩).length : Int) = _
    rw [hu, (sortI_perm _).length_eq]
  have e2 : m__law_reached rs = (cnt (forB (mkQ rs) ((rangeI 0 rs.length).map (fun (c : Int) => decide (c = ((rs.length : Int) - (1 : Int))))) (rangeI 0 rs.length)) : Int) := by
    unfold cnt
    rw [← List.length_map (f := fun (c : Bool) => c)]
    rfl
  rw [e1, e2]
  generalize forB (mkQ rs) ((rangeI 0 rs.length).map (fun (c : Int) => decide (c = ((rs.length : Int) - (1 : Int))))) (rangeI 0 rs.length) = t at hJ
  have ew : s.1 = [] := by simpa using he
  have sh : ∀ q ∈ keysI s.2, ∀ p ∈ partsR (ix rs q), p ∈ keysI s.2 := fun q hq => (hI.shut q hq).elim (fun z => by rw [ew] at z; cases z) id
  have r1 : ∀ q, Rch rs q → q ∈ keysI s.2 := fun q r => by
    induction r with
    | last => exact hI.last
    | step a b ih => exact sh _ ih _ b
  have r2 : ∀ q, Rch rs q → MkB t q := fun q r => by
    induction r with
    | last => exact hJ.last
    | step a b ih => exact hJ.shut _ ih _ b
  rw [cnt_names]
  have mem : ∀ q, q ∈ (rangeI 0 t.length).filter (fun q => ix t q) ↔ MkB t q := fun q => by
    rw [List.mem_filter, mem_rangeI]
    constructor
    · rintro ⟨a, b⟩; exact (mk_ix (s := t) (by omega) (by omega)).mp b
    · intro a
      have b := mk_lt a
      exact ⟨by have := a.1; omega, (mk_ix (s := t) a.1 b).mpr a⟩
  have nd : ((rangeI 0 t.length).filter (fun q => ix t q)).Nodup := List.Pairwise.filter _ (rangeI_nd _)
  have a := nodup_le (A := keysI s.2) (B := (rangeI 0 t.length).filter (fun q => ix t q)) hI.nd fun q hq => (mem q).mpr (r2 q (hI.rch q hq))
  have b := nodup_le (A := (rangeI 0 t.length).filter (fun q => ix t q)) (B := keysI s.2) nd fun q hq => r1 q (hJ.rch q ((mem q).mp hq))
  omega
theorem holds_true (rs : List Rul) : m__law_holds (m__law_try rs) rs = true := by
  unfold m__law_holds
  dsimp only [lt]
  rcases try_cases rs with ⟨a, b, c⟩ | ⟨a, b, c, d, g⟩
  · rw [a, if_pos (by decide), c]
    exact same_refl _
  · rw [a, if_neg (by decide), c, if_neg (by decide), d, size_reached g, same_refl, same_refl]
    rfl
theorem law_tail (L : List (List Rul)) (hl : L.length = 4) : forK (fun (s23 : Unit) (x23_k : Int) => (if ((!(same (encD (ix (L.map (fun (c19_here : (List Rul)) => c19_here)) x23_k)) (encD (ix L x23_k)))) || (!(m__law_holds (ix ((L.map (fun (c19_here : (List Rul)) => c19_here)).map (fun (c22_here : (List Rul)) => (m__law_try c22_here))) x23_k) (ix L x23_k)))) = true then (.ret false : Out Unit Bool) else .go ())) (() : Unit) (rangeI 0 ((4 : Int)).toNat) (fun (s24 : Unit) => (decide (((((rangeI 0 ((4 : Int)).toNat).filter (fun (c28_k : Int) => (!(m__law_holds (ix ((L.map (fun (c19_here : (List Rul)) => c19_here)).map (fun (c22_here : (List Rul)) => (m__law_try c22_here))) c28_k) (ix L c28_k))))).map (fun (c28_k : Int) => c28_k)).length : Int) = (0 : Int)))) (fun r => r) = true := by
  have em : L.map (fun (c19_here : (List Rul)) => c19_here) = L := List.map_id' L
  rw [em]
  have key : ∀ k ∈ rangeI 0 ((4 : Int)).toNat, m__law_holds (ix (L.map (fun (c22_here : (List Rul)) => (m__law_try c22_here))) k) (ix L k) = true := fun k hk => by
    have hm := mem_rangeI.mp hk
    have h4 : ((4 : Int)).toNat = 4 := rfl
    have a := ix_nn (xs := L) (i := k) (by omega) (by omega)
    have b := ix_nn (xs := L.map (fun (c22_here : (List Rul)) => (m__law_try c22_here))) (i := k) (by omega) (by rw [List.length_map]; omega)
    rw [List.getElem?_map, a] at b
    injection b with b
    have b : m__law_try (ix L k) = _ := b
    rw [← b]
    exact holds_true _
  rw [forK_go (s := ()) (s' := ()) (forO_unit fun i k hk => ?_)]
  · have e : (rangeI 0 ((4 : Int)).toNat).filter (fun (c28_k : Int) => (!(m__law_holds (ix (L.map (fun (c22_here : (List Rul)) => (m__law_try c22_here))) c28_k) (ix L c28_k)))) = [] := List.filter_eq_nil_iff.mpr fun k hk => by rw [key k hk]; decide
    rw [e]
    rfl
  · rw [key k (List.mem_of_getElem? hk)]
    have sr : same (@encD (List Rul) encList dencList (ix L k)) (encD (ix L k)) = true := same_refl _
    rw [sr]
    rfl
theorem law_true (s : Scr) : m_law s = true := by
  unfold m_law
  dsimp only [lt]
  exact law_tail _ rfl
def spLaw (K : PySem.W.Frag) : Sp := fun vs H Q _ => ∃ (a : Addr) (ns : List Int), vs = [.ref a] ∧ SqL K H a (ns.map V.int) ∧ ns.length ≤ 63 ∧ ∀ H', Q (.bl true) H'
abbrev s_BadPress___init__ : Stmt := inClass (topS 9) 0
theorem all_mk {l : PySem.W.OpenLaw} {w : World} {K : PySem.W.Frag} {h : Heap} {mg : Str → Option Value} {fa : Addr} (X : K.In h) (G : h.Ns mainGlobals mg) (hfa : mg "law" = some (.ref fa))
    {C_Rules : Addr} (a_Rules : PySem.W.nsIn K mainGlobals "Rules" = some (some (.ref C_Rules)))
    (opg_Rules : PySem.W.plainGet K C_Rules Str.empty = true)
    (ohd_Rules : PySem.W.hasDictIn K C_Rules = true)
    (opo_Rules : PySem.W.plainOver K C_Rules = true)
    (osa_Rules : PySem.W.findIn K (.ref C_Rules) "__setattr__" = some (some (.builtin "object.__setattr__")))
    (omk_Rules : PySem.W.makesIn K C_Rules = true)
    (okc_Rules : PySem.W.keepIn K (.ref C_Rules) = true)
    (oha_Rules : PySem.W.findIn K (.ref C_Rules) "__class__" = some (some (.builtin "object.__class__")))
    (ohm_Rules : PySem.W.mroIn K C_Rules (.type "object") = some true)
    (onf0_Rules : PySem.W.findIn K (.ref C_Rules) "rules" = some none)
    {f__law_cell : Addr} {od__law_cell an__law_cell : Option Addr} {sl__law_cell : Array (Option Value)} {oc__law_cell kV__law_cell dc__law_cell pm__law_cell cd__law_cell ct__law_cell : Value}
    (a__law_cell : PySem.W.nsIn K mainGlobals "_law_cell" = some (some (.ref f__law_cell)))
    (l__law_cell : K.lookup f__law_cell = some ⟨oc__law_cell, od__law_cell, .func (PySem.W.fnOf "_law_cell" "_law_cell" (defArgs s__law_cell) (defBody s__law_cell) (defScope s__law_cell) .none kV__law_cell dc__law_cell pm__law_cell an__law_cell cd__law_cell ct__law_cell), sl__law_cell⟩) (c__law_cell : PySem.W.codeIn K cd__law_cell "_law_cell" = true) (k__law_cell : PySem.W.keepIn K (.ref f__law_cell) = true)
    {f__law_draws : Addr} {od__law_draws an__law_draws : Option Addr} {sl__law_draws : Array (Option Value)} {oc__law_draws kV__law_draws dc__law_draws pm__law_draws cd__law_draws ct__law_draws : Value}
    (a__law_draws : PySem.W.nsIn K mainGlobals "_law_draws" = some (some (.ref f__law_draws)))
    (l__law_draws : K.lookup f__law_draws = some ⟨oc__law_draws, od__law_draws, .func (PySem.W.fnOf "_law_draws" "_law_draws" (defArgs s__law_draws) (defBody s__law_draws) (defScope s__law_draws) .none kV__law_draws dc__law_draws pm__law_draws an__law_draws cd__law_draws ct__law_draws), sl__law_draws⟩) (c__law_draws : PySem.W.codeIn K cd__law_draws "_law_draws" = true) (k__law_draws : PySem.W.keepIn K (.ref f__law_draws) = true)
    {f__law_letter : Addr} {od__law_letter an__law_letter : Option Addr} {sl__law_letter : Array (Option Value)} {oc__law_letter kV__law_letter dc__law_letter pm__law_letter cd__law_letter ct__law_letter : Value}
    (a__law_letter : PySem.W.nsIn K mainGlobals "_law_letter" = some (some (.ref f__law_letter)))
    (l__law_letter : K.lookup f__law_letter = some ⟨oc__law_letter, od__law_letter, .func (PySem.W.fnOf "_law_letter" "_law_letter" (defArgs s__law_letter) (defBody s__law_letter) (defScope s__law_letter) .none kV__law_letter dc__law_letter pm__law_letter an__law_letter cd__law_letter ct__law_letter), sl__law_letter⟩) (c__law_letter : PySem.W.codeIn K cd__law_letter "_law_letter" = true) (k__law_letter : PySem.W.keepIn K (.ref f__law_letter) = true)
    {f__law_size : Addr} {od__law_size an__law_size : Option Addr} {sl__law_size : Array (Option Value)} {oc__law_size kV__law_size dc__law_size pm__law_size cd__law_size ct__law_size : Value}
    (a__law_size : PySem.W.nsIn K mainGlobals "_law_size" = some (some (.ref f__law_size)))
    (l__law_size : K.lookup f__law_size = some ⟨oc__law_size, od__law_size, .func (PySem.W.fnOf "_law_size" "_law_size" (defArgs s__law_size) (defBody s__law_size) (defScope s__law_size) .none kV__law_size dc__law_size pm__law_size an__law_size cd__law_size ct__law_size), sl__law_size⟩) (c__law_size : PySem.W.codeIn K cd__law_size "_law_size" = true) (k__law_size : PySem.W.keepIn K (.ref f__law_size) = true)
    {f_is_letter : Addr} {od_is_letter an_is_letter : Option Addr} {sl_is_letter : Array (Option Value)} {oc_is_letter kV_is_letter dc_is_letter pm_is_letter cd_is_letter ct_is_letter : Value}
    (a_is_letter : PySem.W.nsIn K mainGlobals "is_letter" = some (some (.ref f_is_letter)))
    (l_is_letter : K.lookup f_is_letter = some ⟨oc_is_letter, od_is_letter, .func (PySem.W.fnOf "is_letter" "is_letter" (defArgs s_is_letter) (defBody s_is_letter) (defScope s_is_letter) .none kV_is_letter dc_is_letter pm_is_letter an_is_letter cd_is_letter ct_is_letter), sl_is_letter⟩) (c_is_letter : PySem.W.codeIn K cd_is_letter "is_letter" = true) (k_is_letter : PySem.W.keepIn K (.ref f_is_letter) = true)
    {f__parts : Addr} {od__parts an__parts : Option Addr} {sl__parts : Array (Option Value)} {oc__parts kV__parts dc__parts pm__parts cd__parts ct__parts : Value}
    (a__parts : PySem.W.nsIn K mainGlobals "_parts" = some (some (.ref f__parts)))
    (l__parts : K.lookup f__parts = some ⟨oc__parts, od__parts, .func (PySem.W.fnOf "_parts" "_parts" (defArgs s__parts) (defBody s__parts) (defScope s__parts) .none kV__parts dc__parts pm__parts an__parts cd__parts ct__parts), sl__parts⟩) (c__parts : PySem.W.codeIn K cd__parts "_parts" = true) (k__parts : PySem.W.keepIn K (.ref f__parts) = true)
    {f__law_sign : Addr} {od__law_sign an__law_sign : Option Addr} {sl__law_sign : Array (Option Value)} {oc__law_sign kV__law_sign dc__law_sign pm__law_sign cd__law_sign ct__law_sign : Value}
    (a__law_sign : PySem.W.nsIn K mainGlobals "_law_sign" = some (some (.ref f__law_sign)))
    (l__law_sign : K.lookup f__law_sign = some ⟨oc__law_sign, od__law_sign, .func (PySem.W.fnOf "_law_sign" "_law_sign" (defArgs s__law_sign) (defBody s__law_sign) (defScope s__law_sign) .none kV__law_sign dc__law_sign pm__law_sign an__law_sign cd__law_sign ct__law_sign), sl__law_sign⟩) (c__law_sign : PySem.W.codeIn K cd__law_sign "_law_sign" = true) (k__law_sign : PySem.W.keepIn K (.ref f__law_sign) = true)
    {f__law_parts : Addr} {od__law_parts an__law_parts : Option Addr} {sl__law_parts : Array (Option Value)} {oc__law_parts kV__law_parts dc__law_parts pm__law_parts cd__law_parts ct__law_parts : Value}
    (a__law_parts : PySem.W.nsIn K mainGlobals "_law_parts" = some (some (.ref f__law_parts)))
    (l__law_parts : K.lookup f__law_parts = some ⟨oc__law_parts, od__law_parts, .func (PySem.W.fnOf "_law_parts" "_law_parts" (defArgs s__law_parts) (defBody s__law_parts) (defScope s__law_parts) .none kV__law_parts dc__law_parts pm__law_parts an__law_parts cd__law_parts ct__law_parts), sl__law_parts⟩) (c__law_parts : PySem.W.codeIn K cd__law_parts "_law_parts" = true) (k__law_parts : PySem.W.keepIn K (.ref f__law_parts) = true)
    {f__law_is_int : Addr} {od__law_is_int an__law_is_int : Option Addr} {sl__law_is_int : Array (Option Value)} {oc__law_is_int kV__law_is_int dc__law_is_int pm__law_is_int cd__law_is_int ct__law_is_int : Value}
    (a__law_is_int : PySem.W.nsIn K mainGlobals "_law_is_int" = some (some (.ref f__law_is_int)))
    (l__law_is_int : K.lookup f__law_is_int = some ⟨oc__law_is_int, od__law_is_int, .func (PySem.W.fnOf "_law_is_int" "_law_is_int" (defArgs s__law_is_int) (defBody s__law_is_int) (defScope s__law_is_int) .none kV__law_is_int dc__law_is_int pm__law_is_int an__law_is_int cd__law_is_int ct__law_is_int), sl__law_is_int⟩) (c__law_is_int : PySem.W.codeIn K cd__law_is_int "_law_is_int" = true) (k__law_is_int : PySem.W.keepIn K (.ref f__law_is_int) = true)
    {f__is_rule : Addr} {od__is_rule an__is_rule : Option Addr} {sl__is_rule : Array (Option Value)} {oc__is_rule kV__is_rule dc__is_rule pm__is_rule cd__is_rule ct__is_rule : Value}
    (a__is_rule : PySem.W.nsIn K mainGlobals "_is_rule" = some (some (.ref f__is_rule)))
    (l__is_rule : K.lookup f__is_rule = some ⟨oc__is_rule, od__is_rule, .func (PySem.W.fnOf "_is_rule" "_is_rule" (defArgs s__is_rule) (defBody s__is_rule) (defScope s__is_rule) .none kV__is_rule dc__is_rule pm__is_rule an__is_rule cd__is_rule ct__is_rule), sl__is_rule⟩) (c__is_rule : PySem.W.codeIn K cd__is_rule "_is_rule" = true) (k__is_rule : PySem.W.keepIn K (.ref f__is_rule) = true)
    {f_Rules_used : Addr} {od_Rules_used an_Rules_used : Option Addr} {sl_Rules_used : Array (Option Value)} {oc_Rules_used kV_Rules_used dc_Rules_used pm_Rules_used cd_Rules_used ct_Rules_used : Value}
    (a_Rules_used : PySem.W.findIn K (.ref C_Rules) "used" = some (some (.ref f_Rules_used))) (i_Rules_used : PySem.W.isFn K (.ref f_Rules_used) = true)
    (l_Rules_used : K.lookup f_Rules_used = some ⟨oc_Rules_used, od_Rules_used, .func (PySem.W.fnOf "used" "Rules.used" (defArgs s_Rules_used) (defBody s_Rules_used) (defScope s_Rules_used) .none kV_Rules_used dc_Rules_used pm_Rules_used an_Rules_used cd_Rules_used ct_Rules_used), sl_Rules_used⟩) (c_Rules_used : PySem.W.codeIn K cd_Rules_used "Rules.used" = true) (k_Rules_used : PySem.W.keepIn K (.ref f_Rules_used) = true)
    {f__law_lengths : Addr} {od__law_lengths an__law_lengths : Option Addr} {sl__law_lengths : Array (Option Value)} {oc__law_lengths kV__law_lengths dc__law_lengths pm__law_lengths cd__law_lengths ct__law_lengths : Value}
    (a__law_lengths : PySem.W.nsIn K mainGlobals "_law_lengths" = some (some (.ref f__law_lengths)))
    (l__law_lengths : K.lookup f__law_lengths = some ⟨oc__law_lengths, od__law_lengths, .func (PySem.W.fnOf "_law_lengths" "_law_lengths" (defArgs s__law_lengths) (defBody s__law_lengths) (defScope s__law_lengths) .none kV__law_lengths dc__law_lengths pm__law_lengths an__law_lengths cd__law_lengths ct__law_lengths), sl__law_lengths⟩) (c__law_lengths : PySem.W.codeIn K cd__law_lengths "_law_lengths" = true) (k__law_lengths : PySem.W.keepIn K (.ref f__law_lengths) = true)
    {f__law_each : Addr} {od__law_each an__law_each : Option Addr} {sl__law_each : Array (Option Value)} {oc__law_each kV__law_each dc__law_each pm__law_each cd__law_each ct__law_each : Value}
    (a__law_each : PySem.W.nsIn K mainGlobals "_law_each" = some (some (.ref f__law_each)))
    (l__law_each : K.lookup f__law_each = some ⟨oc__law_each, od__law_each, .func (PySem.W.fnOf "_law_each" "_law_each" (defArgs s__law_each) (defBody s__law_each) (defScope s__law_each) .none kV__law_each dc__law_each pm__law_each an__law_each cd__law_each ct__law_each), sl__law_each⟩) (c__law_each : PySem.W.codeIn K cd__law_each "_law_each" = true) (k__law_each : PySem.W.keepIn K (.ref f__law_each) = true)
    {f__law_spoilt : Addr} {od__law_spoilt an__law_spoilt : Option Addr} {sl__law_spoilt : Array (Option Value)} {oc__law_spoilt kV__law_spoilt dc__law_spoilt pm__law_spoilt cd__law_spoilt ct__law_spoilt : Value}
    (a__law_spoilt : PySem.W.nsIn K mainGlobals "_law_spoilt" = some (some (.ref f__law_spoilt)))
    (l__law_spoilt : K.lookup f__law_spoilt = some ⟨oc__law_spoilt, od__law_spoilt, .func (PySem.W.fnOf "_law_spoilt" "_law_spoilt" (defArgs s__law_spoilt) (defBody s__law_spoilt) (defScope s__law_spoilt) .none kV__law_spoilt dc__law_spoilt pm__law_spoilt an__law_spoilt cd__law_spoilt ct__law_spoilt), sl__law_spoilt⟩) (c__law_spoilt : PySem.W.codeIn K cd__law_spoilt "_law_spoilt" = true) (k__law_spoilt : PySem.W.keepIn K (.ref f__law_spoilt) = true)
    {f__law_wrong : Addr} {od__law_wrong an__law_wrong : Option Addr} {sl__law_wrong : Array (Option Value)} {oc__law_wrong kV__law_wrong dc__law_wrong pm__law_wrong cd__law_wrong ct__law_wrong : Value}
    (a__law_wrong : PySem.W.nsIn K mainGlobals "_law_wrong" = some (some (.ref f__law_wrong)))
    (l__law_wrong : K.lookup f__law_wrong = some ⟨oc__law_wrong, od__law_wrong, .func (PySem.W.fnOf "_law_wrong" "_law_wrong" (defArgs s__law_wrong) (defBody s__law_wrong) (defScope s__law_wrong) .none kV__law_wrong dc__law_wrong pm__law_wrong an__law_wrong cd__law_wrong ct__law_wrong), sl__law_wrong⟩) (c__law_wrong : PySem.W.codeIn K cd__law_wrong "_law_wrong" = true) (k__law_wrong : PySem.W.keepIn K (.ref f__law_wrong) = true)
    {f__law_reached : Addr} {od__law_reached an__law_reached : Option Addr} {sl__law_reached : Array (Option Value)} {oc__law_reached kV__law_reached dc__law_reached pm__law_reached cd__law_reached ct__law_reached : Value}
    (a__law_reached : PySem.W.nsIn K mainGlobals "_law_reached" = some (some (.ref f__law_reached)))
    (l__law_reached : K.lookup f__law_reached = some ⟨oc__law_reached, od__law_reached, .func (PySem.W.fnOf "_law_reached" "_law_reached" (defArgs s__law_reached) (defBody s__law_reached) (defScope s__law_reached) .none kV__law_reached dc__law_reached pm__law_reached an__law_reached cd__law_reached ct__law_reached), sl__law_reached⟩) (c__law_reached : PySem.W.codeIn K cd__law_reached "_law_reached" = true) (k__law_reached : PySem.W.keepIn K (.ref f__law_reached) = true)
    {f_check_form_rules : Addr} {od_check_form_rules an_check_form_rules : Option Addr} {sl_check_form_rules : Array (Option Value)} {oc_check_form_rules kV_check_form_rules dc_check_form_rules pm_check_form_rules cd_check_form_rules ct_check_form_rules : Value}
    (a_check_form_rules : PySem.W.nsIn K mainGlobals "check_form_rules" = some (some (.ref f_check_form_rules)))
    (l_check_form_rules : K.lookup f_check_form_rules = some ⟨oc_check_form_rules, od_check_form_rules, .func (PySem.W.fnOf "_check_form" "_check_form" (defArgs s_check_form_rules) (defBody s_check_form_rules) (defScope s_check_form_rules) .none kV_check_form_rules dc_check_form_rules pm_check_form_rules an_check_form_rules cd_check_form_rules ct_check_form_rules), sl_check_form_rules⟩) (c_check_form_rules : PySem.W.codeIn K cd_check_form_rules "_check_form" = true) (k_check_form_rules : PySem.W.keepIn K (.ref f_check_form_rules) = true)
    {f_Rules_size : Addr} {od_Rules_size an_Rules_size : Option Addr} {sl_Rules_size : Array (Option Value)} {oc_Rules_size kV_Rules_size dc_Rules_size pm_Rules_size cd_Rules_size ct_Rules_size : Value}
    (a_Rules_size : PySem.W.findIn K (.ref C_Rules) "size" = some (some (.ref f_Rules_size))) (i_Rules_size : PySem.W.isFn K (.ref f_Rules_size) = true)
    (l_Rules_size : K.lookup f_Rules_size = some ⟨oc_Rules_size, od_Rules_size, .func (PySem.W.fnOf "size" "Rules.size" (defArgs s_Rules_size) (defBody s_Rules_size) (defScope s_Rules_size) .none kV_Rules_size dc_Rules_size pm_Rules_size an_Rules_size cd_Rules_size ct_Rules_size), sl_Rules_size⟩) (c_Rules_size : PySem.W.codeIn K cd_Rules_size "Rules.size" = true) (k_Rules_size : PySem.W.keepIn K (.ref f_Rules_size) = true)
    {f__law_rules : Addr} {od__law_rules an__law_rules : Option Addr} {sl__law_rules : Array (Option Value)} {oc__law_rules kV__law_rules dc__law_rules pm__law_rules cd__law_rules ct__law_rules : Value}
    (a__law_rules : PySem.W.nsIn K mainGlobals "_law_rules" = some (some (.ref f__law_rules)))
    (l__law_rules : K.lookup f__law_rules = some ⟨oc__law_rules, od__law_rules, .func (PySem.W.fnOf "_law_rules" "_law_rules" (defArgs s__law_rules) (defBody s__law_rules) (defScope s__law_rules) .none kV__law_rules dc__law_rules pm__law_rules an__law_rules cd__law_rules ct__law_rules), sl__law_rules⟩) (c__law_rules : PySem.W.codeIn K cd__law_rules "_law_rules" = true) (k__law_rules : PySem.W.keepIn K (.ref f__law_rules) = true)
    {f__law_due : Addr} {od__law_due an__law_due : Option Addr} {sl__law_due : Array (Option Value)} {oc__law_due kV__law_due dc__law_due pm__law_due cd__law_due ct__law_due : Value}
    (a__law_due : PySem.W.nsIn K mainGlobals "_law_due" = some (some (.ref f__law_due)))
    (l__law_due : K.lookup f__law_due = some ⟨oc__law_due, od__law_due, .func (PySem.W.fnOf "_law_due" "_law_due" (defArgs s__law_due) (defBody s__law_due) (defScope s__law_due) .none kV__law_due dc__law_due pm__law_due an__law_due cd__law_due ct__law_due), sl__law_due⟩) (c__law_due : PySem.W.codeIn K cd__law_due "_law_due" = true) (k__law_due : PySem.W.keepIn K (.ref f__law_due) = true)
    {f__law_mended : Addr} {od__law_mended an__law_mended : Option Addr} {sl__law_mended : Array (Option Value)} {oc__law_mended kV__law_mended dc__law_mended pm__law_mended cd__law_mended ct__law_mended : Value}
    (a__law_mended : PySem.W.nsIn K mainGlobals "_law_mended" = some (some (.ref f__law_mended)))
    (l__law_mended : K.lookup f__law_mended = some ⟨oc__law_mended, od__law_mended, .func (PySem.W.fnOf "_law_mended" "_law_mended" (defArgs s__law_mended) (defBody s__law_mended) (defScope s__law_mended) .none kV__law_mended dc__law_mended pm__law_mended an__law_mended cd__law_mended ct__law_mended), sl__law_mended⟩) (c__law_mended : PySem.W.codeIn K cd__law_mended "_law_mended" = true) (k__law_mended : PySem.W.keepIn K (.ref f__law_mended) = true)
    {f_Rules___init__ : Addr} {od_Rules___init__ an_Rules___init__ : Option Addr} {sl_Rules___init__ : Array (Option Value)} {oc_Rules___init__ kV_Rules___init__ dc_Rules___init__ pm_Rules___init__ cd_Rules___init__ ct_Rules___init__ : Value}
    (a_Rules___init__ : PySem.W.findIn K (.ref C_Rules) "__init__" = some (some (.ref f_Rules___init__))) (i_Rules___init__ : PySem.W.isFn K (.ref f_Rules___init__) = true)
    (l_Rules___init__ : K.lookup f_Rules___init__ = some ⟨oc_Rules___init__, od_Rules___init__, .func (PySem.W.fnOf "__init__" "Rules.__init__" (defArgs s_Rules___init__) (defBody s_Rules___init__) (defScope s_Rules___init__) .none kV_Rules___init__ dc_Rules___init__ pm_Rules___init__ an_Rules___init__ cd_Rules___init__ ct_Rules___init__), sl_Rules___init__⟩) (c_Rules___init__ : PySem.W.codeIn K cd_Rules___init__ "Rules.__init__" = true) (k_Rules___init__ : PySem.W.keepIn K (.ref f_Rules___init__) = true)
    {f__law_try : Addr} {od__law_try an__law_try : Option Addr} {sl__law_try : Array (Option Value)} {oc__law_try kV__law_try dc__law_try pm__law_try cd__law_try ct__law_try : Value}
    (a__law_try : PySem.W.nsIn K mainGlobals "_law_try" = some (some (.ref f__law_try)))
    (l__law_try : K.lookup f__law_try = some ⟨oc__law_try, od__law_try, .func (PySem.W.fnOf "_law_try" "_law_try" (defArgs s__law_try) (defBody s__law_try) (defScope s__law_try) .none kV__law_try dc__law_try pm__law_try an__law_try cd__law_try ct__law_try), sl__law_try⟩) (c__law_try : PySem.W.codeIn K cd__law_try "_law_try" = true) (k__law_try : PySem.W.keepIn K (.ref f__law_try) = true)
    {f__law_same : Addr} {od__law_same an__law_same : Option Addr} {sl__law_same : Array (Option Value)} {oc__law_same kV__law_same dc__law_same pm__law_same cd__law_same ct__law_same : Value}
    (a__law_same : PySem.W.nsIn K mainGlobals "_law_same" = some (some (.ref f__law_same)))
    (l__law_same : K.lookup f__law_same = some ⟨oc__law_same, od__law_same, .func (PySem.W.fnOf "_law_same" "_law_same" (defArgs s__law_same) (defBody s__law_same) (defScope s__law_same) .none kV__law_same dc__law_same pm__law_same an__law_same cd__law_same ct__law_same), sl__law_same⟩) (c__law_same : PySem.W.codeIn K cd__law_same "_law_same" = true) (k__law_same : PySem.W.keepIn K (.ref f__law_same) = true)
    {f__law_holds : Addr} {od__law_holds an__law_holds : Option Addr} {sl__law_holds : Array (Option Value)} {oc__law_holds kV__law_holds dc__law_holds pm__law_holds cd__law_holds ct__law_holds : Value}
    (a__law_holds : PySem.W.nsIn K mainGlobals "_law_holds" = some (some (.ref f__law_holds)))
    (l__law_holds : K.lookup f__law_holds = some ⟨oc__law_holds, od__law_holds, .func (PySem.W.fnOf "_law_holds" "_law_holds" (defArgs s__law_holds) (defBody s__law_holds) (defScope s__law_holds) .none kV__law_holds dc__law_holds pm__law_holds an__law_holds cd__law_holds ct__law_holds), sl__law_holds⟩) (c__law_holds : PySem.W.codeIn K cd__law_holds "_law_holds" = true) (k__law_holds : PySem.W.keepIn K (.ref f__law_holds) = true)
    {f_law : Addr} {od_law an_law : Option Addr} {sl_law : Array (Option Value)} {oc_law kV_law dc_law pm_law cd_law ct_law : Value}
    (a_law : PySem.W.nsIn K mainGlobals "law" = some (some (.ref f_law)))
    (l_law : K.lookup f_law = some ⟨oc_law, od_law, .func (PySem.W.fnOf "law" "law" (defArgs s_law) (defBody s_law) (defScope s_law) .none kV_law dc_law pm_law an_law cd_law ct_law), sl_law⟩) (c_law : PySem.W.codeIn K cd_law "law" = true) (k_law : PySem.W.keepIn K (.ref f_law) = true)
    (z_ValueError : PySem.W.nsIn K mainGlobals "ValueError" = some none)
    (z_abs : PySem.W.nsIn K mainGlobals "abs" = some none)
    (z_any : PySem.W.nsIn K mainGlobals "any" = some none)
    (z_bool : PySem.W.nsIn K mainGlobals "bool" = some none)
    (z_enumerate : PySem.W.nsIn K mainGlobals "enumerate" = some none)
    (z_int : PySem.W.nsIn K mainGlobals "int" = some none)
    (z_isinstance : PySem.W.nsIn K mainGlobals "isinstance" = some none)
    (z_iter : PySem.W.nsIn K mainGlobals "iter" = some none)
    (z_len : PySem.W.nsIn K mainGlobals "len" = some none)
    (z_list : PySem.W.nsIn K mainGlobals "list" = some none)
    (z_max : PySem.W.nsIn K mainGlobals "max" = some none)
    (z_min : PySem.W.nsIn K mainGlobals "min" = some none)
    (z_range : PySem.W.nsIn K mainGlobals "range" = some none)
    (z_sorted : PySem.W.nsIn K mainGlobals "sorted" = some none)
    (z_str : PySem.W.nsIn K mainGlobals "str" = some none)
    (z_sum : PySem.W.nsIn K mainGlobals "sum" = some none)
    (z_tuple : PySem.W.nsIn K mainGlobals "tuple" = some none)
    {t_MOST : Tok} (g_MOST : PySem.W.nsIn K mainGlobals "MOST" = some (some (.int 128 t_MOST)))
    {t_MOST_RULES : Tok} (g_MOST_RULES : PySem.W.nsIn K mainGlobals "MOST_RULES" = some (some (.int 256 t_MOST_RULES)))
    {C_BadPress : Addr}
    (eg_BadPress : PySem.W.nsIn K mainGlobals "BadPress" = some (some (.ref C_BadPress)))
    {C_TooLong : Addr}
    (eg_TooLong : PySem.W.nsIn K mainGlobals "TooLong" = some (some (.ref C_TooLong)))
    {C_BadText : Addr}
    (eg_BadText : PySem.W.nsIn K mainGlobals "BadText" = some (some (.ref C_BadText)))
    {C_BadPlaces : Addr}
    (eg_BadPlaces : PySem.W.nsIn K mainGlobals "BadPlaces" = some (some (.ref C_BadPlaces)))
    {C_BadCount : Addr}
    (eg_BadCount : PySem.W.nsIn K mainGlobals "BadCount" = some (some (.ref C_BadCount)))
    {C_TooShort : Addr}
    (eg_TooShort : PySem.W.nsIn K mainGlobals "TooShort" = some (some (.ref C_TooShort)))
    {C_NoText : Addr}
    (eg_NoText : PySem.W.nsIn K mainGlobals "NoText" = some (some (.ref C_NoText)))
    {C_BadPaper : Addr}
    (eg_BadPaper : PySem.W.nsIn K mainGlobals "BadPaper" = some (some (.ref C_BadPaper)))
    {C_BadLine : Addr}
    (eg_BadLine : PySem.W.nsIn K mainGlobals "BadLine" = some (some (.ref C_BadLine)))
    {C_NotARoot : Addr}
    (eg_NotARoot : PySem.W.nsIn K mainGlobals "NotARoot" = some (some (.ref C_NotARoot)))
    {C_DeskError : Addr}
    (eg_DeskError : PySem.W.nsIn K mainGlobals "DeskError" = some (some (.ref C_DeskError)))
    {C_PressError : Addr}
    (eg_PressError : PySem.W.nsIn K mainGlobals "PressError" = some (some (.ref C_PressError)))
    (ek_TooLong : PySem.W.keepIn K (.ref C_TooLong) = true)
    (eb_TooLong : PySem.W.subIn K (.ref C_TooLong) (.type "BaseException") = some true)
    (ec_TooLong : PySem.W.isClsIn K C_TooLong = true)
    (et_TooLong : PySem.W.typeIn K (.ref C_TooLong) = some (.type "type"))
    (eq_TooLong : PySem.W.excIn K C_TooLong [.type "ValueError", .type "Exception", .type "BaseException", .type "object"] "ValueError.__new__" = true)
    (xhn : PySem.W.specialIn K (.builtin "object.__class__") "__get__" = some (some (.builtin "getset_descriptor.__get__")))
    (xht : PySem.W.takesIn K (.builtin "object.__class__") = some true)
    (xhg_BadPress : PySem.W.findIn K (.ref C_BadPress) "__getattribute__" = some (some (.builtin "BaseException.__getattribute__")))
    (xhk_BadPress : PySem.W.findIn K (.ref C_BadPress) "__getattr__" = some none)
    (xhs_BadPress : PySem.W.subIn K (.ref C_BadPress) (.type "BaseException") = some true)
    (xhd_BadPress : PySem.W.hasDictIn K C_BadPress = true)
    (xha_BadPress : PySem.W.findIn K (.ref C_BadPress) "__class__" = some (some (.builtin "object.__class__")))
    (xhm_BadPress : PySem.W.mroIn K C_BadPress (.type "object") = some true)
    (xhg_TooLong : PySem.W.findIn K (.ref C_TooLong) "__getattribute__" = some (some (.builtin "BaseException.__getattribute__")))
    (xhk_TooLong : PySem.W.findIn K (.ref C_TooLong) "__getattr__" = some none)
    (xhs_TooLong : PySem.W.subIn K (.ref C_TooLong) (.type "BaseException") = some true)
    (xhd_TooLong : PySem.W.hasDictIn K C_TooLong = true)
    (xha_TooLong : PySem.W.findIn K (.ref C_TooLong) "__class__" = some (some (.builtin "object.__class__")))
    (xhm_TooLong : PySem.W.mroIn K C_TooLong (.type "object") = some true)
    (ec_PressError : PySem.W.isClsIn K C_PressError = true)
    (et_PressError : PySem.W.typeIn K (.ref C_PressError) = some (.type "type"))
    (es_BadPress_PressError : PySem.W.subIn K (.ref C_BadPress) (.ref C_PressError) = some true)
    (ev_BadPress : PySem.W.subIn K (.ref C_BadPress) (.type "ValueError") = some true)
    (es_TooLong_PressError : PySem.W.subIn K (.ref C_TooLong) (.ref C_PressError) = some true)
    (ev_TooLong : PySem.W.subIn K (.ref C_TooLong) (.type "ValueError") = some true)
    (fn_BadPress : PySem.W.findIn K (.ref C_BadPress) "index" = some none)
    (ec_DeskError : PySem.W.isClsIn K C_DeskError = true)
    (et_DeskError : PySem.W.typeIn K (.ref C_DeskError) = some (.type "type"))
    (es_BadPress_DeskError : PySem.W.subIn K (.ref C_BadPress) (.ref C_DeskError) = some false)
    (en_BadPress_DeskError : (Value.ref C_BadPress == Value.ref C_DeskError) = false)
    (ec_NotARoot : PySem.W.isClsIn K C_NotARoot = true)
    (et_NotARoot : PySem.W.typeIn K (.ref C_NotARoot) = some (.type "type"))
    (es_BadPress_NotARoot : PySem.W.subIn K (.ref C_BadPress) (.ref C_NotARoot) = some false)
    (en_BadPress_NotARoot : (Value.ref C_BadPress == Value.ref C_NotARoot) = false)
    (ec_BadLine : PySem.W.isClsIn K C_BadLine = true)
    (et_BadLine : PySem.W.typeIn K (.ref C_BadLine) = some (.type "type"))
    (es_BadPress_BadLine : PySem.W.subIn K (.ref C_BadPress) (.ref C_BadLine) = some false)
    (en_BadPress_BadLine : (Value.ref C_BadPress == Value.ref C_BadLine) = false)
    (ec_BadPaper : PySem.W.isClsIn K C_BadPaper = true)
    (et_BadPaper : PySem.W.typeIn K (.ref C_BadPaper) = some (.type "type"))
    (es_BadPress_BadPaper : PySem.W.subIn K (.ref C_BadPress) (.ref C_BadPaper) = some false)
    (en_BadPress_BadPaper : (Value.ref C_BadPress == Value.ref C_BadPaper) = false)
    (ec_NoText : PySem.W.isClsIn K C_NoText = true)
    (et_NoText : PySem.W.typeIn K (.ref C_NoText) = some (.type "type"))
    (es_BadPress_NoText : PySem.W.subIn K (.ref C_BadPress) (.ref C_NoText) = some false)
    (en_BadPress_NoText : (Value.ref C_BadPress == Value.ref C_NoText) = false)
    (ec_TooShort : PySem.W.isClsIn K C_TooShort = true)
    (et_TooShort : PySem.W.typeIn K (.ref C_TooShort) = some (.type "type"))
    (es_BadPress_TooShort : PySem.W.subIn K (.ref C_BadPress) (.ref C_TooShort) = some false)
    (en_BadPress_TooShort : (Value.ref C_BadPress == Value.ref C_TooShort) = false)
    (es_BadPress_TooLong : PySem.W.subIn K (.ref C_BadPress) (.ref C_TooLong) = some false)
    (en_BadPress_TooLong : (Value.ref C_BadPress == Value.ref C_TooLong) = false)
    (ec_BadCount : PySem.W.isClsIn K C_BadCount = true)
    (et_BadCount : PySem.W.typeIn K (.ref C_BadCount) = some (.type "type"))
    (es_BadPress_BadCount : PySem.W.subIn K (.ref C_BadPress) (.ref C_BadCount) = some false)
    (en_BadPress_BadCount : (Value.ref C_BadPress == Value.ref C_BadCount) = false)
    (ec_BadPlaces : PySem.W.isClsIn K C_BadPlaces = true)
    (et_BadPlaces : PySem.W.typeIn K (.ref C_BadPlaces) = some (.type "type"))
    (es_BadPress_BadPlaces : PySem.W.subIn K (.ref C_BadPress) (.ref C_BadPlaces) = some false)
    (en_BadPress_BadPlaces : (Value.ref C_BadPress == Value.ref C_BadPlaces) = false)
    (ec_BadText : PySem.W.isClsIn K C_BadText = true)
    (et_BadText : PySem.W.typeIn K (.ref C_BadText) = some (.type "type"))
    (es_BadPress_BadText : PySem.W.subIn K (.ref C_BadPress) (.ref C_BadText) = some false)
    (en_BadPress_BadText : (Value.ref C_BadPress == Value.ref C_BadText) = false)
    (es_TooLong_DeskError : PySem.W.subIn K (.ref C_TooLong) (.ref C_DeskError) = some false)
    (en_TooLong_DeskError : (Value.ref C_TooLong == Value.ref C_DeskError) = false)
    (es_TooLong_NotARoot : PySem.W.subIn K (.ref C_TooLong) (.ref C_NotARoot) = some false)
    (en_TooLong_NotARoot : (Value.ref C_TooLong == Value.ref C_NotARoot) = false)
    (es_TooLong_BadLine : PySem.W.subIn K (.ref C_TooLong) (.ref C_BadLine) = some false)
    (en_TooLong_BadLine : (Value.ref C_TooLong == Value.ref C_BadLine) = false)
    (es_TooLong_BadPaper : PySem.W.subIn K (.ref C_TooLong) (.ref C_BadPaper) = some false)
    (en_TooLong_BadPaper : (Value.ref C_TooLong == Value.ref C_BadPaper) = false)
    (ec_BadPress : PySem.W.isClsIn K C_BadPress = true)
    (et_BadPress : PySem.W.typeIn K (.ref C_BadPress) = some (.type "type"))
    (es_TooLong_BadPress : PySem.W.subIn K (.ref C_TooLong) (.ref C_BadPress) = some false)
    (en_TooLong_BadPress : (Value.ref C_TooLong == Value.ref C_BadPress) = false)
    (es_TooLong_NoText : PySem.W.subIn K (.ref C_TooLong) (.ref C_NoText) = some false)
    (en_TooLong_NoText : (Value.ref C_TooLong == Value.ref C_NoText) = false)
    (es_TooLong_TooShort : PySem.W.subIn K (.ref C_TooLong) (.ref C_TooShort) = some false)
    (en_TooLong_TooShort : (Value.ref C_TooLong == Value.ref C_TooShort) = false)
    (es_TooLong_BadCount : PySem.W.subIn K (.ref C_TooLong) (.ref C_BadCount) = some false)
    (en_TooLong_BadCount : (Value.ref C_TooLong == Value.ref C_BadCount) = false)
    (es_TooLong_BadPlaces : PySem.W.subIn K (.ref C_TooLong) (.ref C_BadPlaces) = some false)
    (en_TooLong_BadPlaces : (Value.ref C_TooLong == Value.ref C_BadPlaces) = false)
    (es_TooLong_BadText : PySem.W.subIn K (.ref C_TooLong) (.ref C_BadText) = some false)
    (en_TooLong_BadText : (Value.ref C_TooLong == Value.ref C_BadText) = false)
    (es_BadPress_BadPress : PySem.W.subIn K (.ref C_BadPress) (.ref C_BadPress) = some true)
    (eb_BadPress : PySem.W.subIn K (.ref C_BadPress) (.type "BaseException") = some true)
    (es_TooLong_TooLong : PySem.W.subIn K (.ref C_TooLong) (.ref C_TooLong) = some true)
    {f_BadPress___init__ cda_BadPress___init__ cc_BadPress___init__ N_BadPress___init__ : Addr} {oc_BadPress___init__ ccl_BadPress___init__ cl_BadPress___init__ kV_BadPress___init__ dc_BadPress___init__ pm_BadPress___init__ ct_BadPress___init__ : Value} {od_BadPress___init__ an_BadPress___init__ cdd_BadPress___init__ cld_BadPress___init__ dd_BadPress___init__ : Option Addr} {sl_BadPress___init__ ccs_BadPress___init__ csl_BadPress___init__ : Array (Option Value)} {vs_BadPress___init__ : Array Value} {file_BadPress___init__ nm_BadPress___init__ q_BadPress___init__ : Str} {tf_BadPress___init__ : Tok} {bs_BadPress___init__ bm_BadPress___init__ sub_BadPress___init__ : List Value} {sn_BadPress___init__ : List Str} {ab_BadPress___init__ : Bool} {co_BadPress___init__ : Option Bool} {k0_BadPress___init__ k1_BadPress___init__ k2_BadPress___init__ k3_BadPress___init__ k5_BadPress___init__ : Option Value}
    (a_BadPress___init__ : PySem.W.findIn K (.ref C_BadPress) "__init__" = some (some (.ref f_BadPress___init__)))
    (t_BadPress___init__ : PySem.W.typeIn K (.ref f_BadPress___init__) = some (.type "function"))
    (l_BadPress___init__ : K.lookup f_BadPress___init__ = some ⟨oc_BadPress___init__, od_BadPress___init__, .func (PySem.W.ksFn "__init__" "BadPress.__init__" (defArgs s_BadPress___init__) (defBody s_BadPress___init__) (defScope s_BadPress___init__) .none kV_BadPress___init__ dc_BadPress___init__ pm_BadPress___init__ an_BadPress___init__ (.ref cda_BadPress___init__) ct_BadPress___init__ cc_BadPress___init__), sl_BadPress___init__⟩)
    (c_BadPress___init__ : PySem.W.codeIn K (.ref cda_BadPress___init__) "BadPress.__init__" = true)
    (h_BadPress___init__ : K.lookup cda_BadPress___init__ = some ⟨ccl_BadPress___init__, cdd_BadPress___init__, .fields vs_BadPress___init__, ccs_BadPress___init__⟩)
    (v_BadPress___init__ : vs_BadPress___init__[2]? = some (.str file_BadPress___init__ tf_BadPress___init__))
    (y_BadPress___init__ : ((l.prog.main.file : Str) == file_BadPress___init__) = true)
    (qc_BadPress___init__ : K.lookup cc_BadPress___init__ = some ⟨cl_BadPress___init__, cld_BadPress___init__, .cell (some (.ref C_BadPress)), csl_BadPress___init__⟩)
    (lc_BadPress___init__ : K.lookup C_BadPress = some (excClassObj nm_BadPress___init__ q_BadPress___init__ C_BadPress N_BadPress___init__ bs_BadPress___init__ bm_BadPress___init__ true sn_BadPress___init__ sub_BadPress___init__ ab_BadPress___init__ co_BadPress___init__ dd_BadPress___init__ k0_BadPress___init__ k1_BadPress___init__ k2_BadPress___init__ k3_BadPress___init__ k5_BadPress___init__ "ValueError.__new__"))
    (rb_BadPress___init__ : PySem.HandSPX.refsVE bm_BadPress___init__ = true)
    (w_BadPress___init__ : PySem.W.findIn K (.ref C_BadPress) "__setattr__" = some (some (.builtin "object.__setattr__")))
    (kc_BadPress___init__ : PySem.W.keepIn K (.ref C_BadPress) = true)
    (eb_BadPress___init__ : PySem.W.subIn K (.ref C_BadPress) (.type "BaseException") = some true)
    (et_BadPress___init__ : PySem.W.typeIn K (.ref C_BadPress) = some (.type "type"))
    (nf_BadPress___init__ : PySem.W.findIn K (.ref C_BadPress) "index" = some none)
    (u_BadPress___init__ : PySem.W.ks_superIn K C_BadPress C_BadPress "__init__" = some (some (.builtin "ValueError.__init__")))
    (sv_BadPress___init__ : PySem.W.subIn K (.ref C_BadPress) (.type "ValueError") = some true)
    (m_BadPress___init__ : PySem.W.mroIn K C_BadPress (.ref C_BadPress) = some true)
    (x_BadPress___init__ : PySem.W.excInitIn K C_BadPress [.type "ValueError", .type "Exception", .type "BaseException", .type "object"] "ValueError.__new__" = true)
    (any0 : PySem.W.nsIn K cStatics "thirdparty.any" = some none) (zsuper : PySem.W.nsIn K mainGlobals "super" = some none) (top0 : (l.prog.main.scope.names.lookup ("super" : Str)).isSome = false) :
    ∃ fd : FuncData, (∀ (s : Shared) (v : Value), BindsTo s fd ⟨[v], []⟩ [("script", v)]) ∧ ∀ base : Heap, K.In base → base.Ns mainGlobals mg → FnOk l.prog w K mg base CX0 11 fa fd ["script"] (spLaw K) := by
  have e := hfa.symm.trans (PySem.W.mg_of X G a_law)
  cases e
  have R : Er K mg ⟨C_BadPress, C_TooLong, C_BadText, C_BadPlaces, C_BadCount, C_TooShort, C_NoText, C_BadPaper, C_BadLine, C_NotARoot, C_DeskError, C_PressError⟩ := ⟨PySem.W.mg_of X G eg_BadPress, PySem.W.mg_of X G eg_TooLong, PySem.W.mg_of X G eg_BadText, PySem.W.mg_of X G eg_BadPlaces, PySem.W.mg_of X G eg_BadCount, PySem.W.mg_of X G eg_TooShort, PySem.W.mg_of X G eg_NoText, PySem.W.mg_of X G eg_BadPaper, PySem.W.mg_of X G eg_BadLine, PySem.W.mg_of X G eg_NotARoot, PySem.W.mg_of X G eg_DeskError, PySem.W.mg_of X G eg_PressError, ⟨⟨PySem.W.mg_of X G eg_TooLong, ek_TooLong, eb_TooLong, et_TooLong⟩, eq_TooLong⟩, ⟨xhg_BadPress, xhk_BadPress, xhs_BadPress, xhd_BadPress, xha_BadPress, xhn, xht, xhm_BadPress⟩, ⟨xhg_TooLong, xhk_TooLong, xhs_TooLong, xhd_TooLong, xha_TooLong, xhn, xht, xhm_TooLong⟩, (kit_ref ec_PressError et_PressError es_BadPress_PressError), (kit_VE ev_BadPress), (kit_ref ec_PressError et_PressError es_TooLong_PressError), (kit_VE ev_TooLong), ⟨xhg_BadPress, xhk_BadPress, xhs_BadPress, xhd_BadPress⟩, fn_BadPress, (kany_cons (kit_refN ec_BadText et_BadText es_BadPress_BadText en_BadPress_BadText) (kany_cons (kit_refN ec_BadPlaces et_BadPlaces es_BadPress_BadPlaces en_BadPress_BadPlaces) (kany_cons (kit_refN ec_BadCount et_BadCount es_BadPress_BadCount en_BadPress_BadCount) (kany_cons (kit_refN ec_TooLong et_TooLong es_BadPress_TooLong en_BadPress_TooLong) (kany_cons (kit_refN ec_TooShort et_TooShort es_BadPress_TooShort en_BadPress_TooShort) (kany_cons (kit_refN ec_NoText et_NoText es_BadPress_NoText en_BadPress_NoText) (kany_cons (kit_refN ec_BadPaper et_BadPaper es_BadPress_BadPaper en_BadPress_BadPaper) (kany_cons (kit_refN ec_BadLine et_BadLine es_BadPress_BadLine en_BadPress_BadLine) (kany_cons (kit_refN ec_NotARoot et_NotARoot es_BadPress_NotARoot en_BadPress_NotARoot) (kany_cons (kit_refN ec_DeskError et_DeskError es_BadPress_DeskError en_BadPress_DeskError) kitAny_nil)))))))))), (kany_cons (kit_refN ec_BadText et_BadText es_TooLong_BadText en_TooLong_BadText) (kany_cons (kit_refN ec_BadPlaces et_BadPlaces es_TooLong_BadPlaces en_TooLong_BadPlaces) (kany_cons (kit_refN ec_BadCount et_BadCount es_TooLong_BadCount en_TooLong_BadCount) (kany_cons (kit_refN ec_TooShort et_TooShort es_TooLong_TooShort en_TooLong_TooShort) (kany_cons (kit_refN ec_NoText et_NoText es_TooLong_NoText en_TooLong_NoText) (kany_cons (kit_refN ec_BadPress et_BadPress es_TooLong_BadPress en_TooLong_BadPress) (kany_cons (kit_refN ec_BadPaper et_BadPaper es_TooLong_BadPaper en_TooLong_BadPaper) (kany_cons (kit_refN ec_BadLine et_BadLine es_TooLong_BadLine en_TooLong_BadLine) (kany_cons (kit_refN ec_NotARoot et_NotARoot es_TooLong_NotARoot en_TooLong_NotARoot) (kany_cons (kit_refN ec_DeskError et_DeskError es_TooLong_DeskError en_TooLong_DeskError) kitAny_nil)))))))))), (PySem.W.exm_ref eb_BadPress xhd_BadPress et_BadPress es_BadPress_BadPress), (PySem.W.exm_ref eb_BadPress xhd_BadPress et_BadPress es_TooLong_BadPress), (PySem.W.exm_ref eb_TooLong xhd_TooLong et_TooLong es_TooLong_TooLong)⟩
  have T : Bt mg := ⟨PySem.W.mg_none_of X G z_ValueError, PySem.W.mg_none_of X G z_abs, PySem.W.mg_none_of X G z_any, PySem.W.mg_none_of X G z_bool, PySem.W.mg_none_of X G z_enumerate, PySem.W.mg_none_of X G z_int, PySem.W.mg_none_of X G z_isinstance, PySem.W.mg_none_of X G z_iter, PySem.W.mg_none_of X G z_len, PySem.W.mg_none_of X G z_list, PySem.W.mg_none_of X G z_max, PySem.W.mg_none_of X G z_min, PySem.W.mg_none_of X G z_range, PySem.W.mg_none_of X G z_sorted, PySem.W.mg_none_of X G z_str, PySem.W.mg_none_of X G z_sum, PySem.W.mg_none_of X G z_tuple⟩
  have C : Cs mg := ⟨⟨_, PySem.W.mg_of X G g_MOST⟩, ⟨_, PySem.W.mg_of X G g_MOST_RULES⟩⟩
  have KC_Rules : CKg K mg "Rules" ["rules"] C_Rules := ⟨a_Rules, PySem.W.mg_of X G a_Rules, ⟨opg_Rules, ohd_Rules, opo_Rules, osa_Rules⟩, (List.forall_mem_cons.mpr ⟨onf0_Rules, (fun _ h => (nomatch h))⟩), oha_Rules, xhn, xht, ohm_Rules⟩
  have M_Rules : Mk K C_Rules f_Rules___init__ := ⟨omk_Rules, a_Rules___init__, i_Rules___init__, okc_Rules⟩
  have F__law_cell := fun_mk (st := s__law_cell) l__law_cell c__law_cell k__law_cell
  have b__law_cell := F__law_cell.binds (ps := ["script", "k"]) fun _ _ _ _ _ _ us hl => match us, hl with | [_, _], _ => rfl
  have F__law_draws := fun_mk (st := s__law_draws) l__law_draws c__law_draws k__law_draws
  have b__law_draws := F__law_draws.binds (ps := ["cell", "sizes"]) fun _ _ _ _ _ _ us hl => match us, hl with | [_, _], _ => rfl
  have F__law_letter := fun_mk (st := s__law_letter) l__law_letter c__law_letter k__law_letter
  have b__law_letter := F__law_letter.binds (ps := ["number"]) fun _ _ _ _ _ _ us hl => match us, hl with | [_], _ => rfl
  have F__law_size := fun_mk (st := s__law_size) l__law_size c__law_size k__law_size
  have b__law_size := F__law_size.binds (ps := ["mode", "number", "most"]) fun _ _ _ _ _ _ us hl => match us, hl with | [_, _, _], _ => rfl
  have F_is_letter := fun_mk (st := s_is_letter) l_is_letter c_is_letter k_is_letter
  have b_is_letter := F_is_letter.binds (ps := ["sign"]) fun _ _ _ _ _ _ us hl => match us, hl with | [_], _ => rfl
  have F__parts := fun_mk (st := s__parts) l__parts c__parts k__parts
  have b__parts := F__parts.binds (ps := ["rule"]) fun _ _ _ _ _ _ us hl => match us, hl with | [_], _ => rfl
  have F__law_sign := fun_mk (st := s__law_sign) l__law_sign c__law_sign k__law_sign
  have b__law_sign := F__law_sign.binds (ps := ["number"]) fun _ _ _ _ _ _ us hl => match us, hl with | [_], _ => rfl
  have F__law_parts := fun_mk (st := s__law_parts) l__law_parts c__law_parts k__law_parts
  have b__law_parts := F__law_parts.binds (ps := ["rule"]) fun _ _ _ _ _ _ us hl => match us, hl with | [_], _ => rfl
  have F__law_is_int := fun_mk (st := s__law_is_int) l__law_is_int c__law_is_int k__law_is_int
  have b__law_is_int := F__law_is_int.binds (ps := ["x"]) fun _ _ _ _ _ _ us hl => match us, hl with | [_], _ => rfl
  have F__is_rule := fun_mk (st := s__is_rule) l__is_rule c__is_rule k__is_rule
  have b__is_rule := F__is_rule.binds (ps := ["rule", "many"]) fun _ _ _ _ _ _ us hl => match us, hl with | [_, _], _ => rfl
  have F_Rules_used := fun_mk (st := s_Rules_used) l_Rules_used c_Rules_used k_Rules_used
  have b_Rules_used := F_Rules_used.binds (ps := ["self"]) fun _ _ _ _ _ _ us hl => match us, hl with | [_], _ => rfl
  have F__law_lengths := fun_mk (st := s__law_lengths) l__law_lengths c__law_lengths k__law_lengths
  have b__law_lengths := F__law_lengths.binds (ps := ["rules"]) fun _ _ _ _ _ _ us hl => match us, hl with | [_], _ => rfl
  have F__law_each := fun_mk (st := s__law_each) l__law_each c__law_each k__law_each
  have b__law_each := F__law_each.binds (ps := ["script", "many"]) fun _ _ _ _ _ _ us hl => match us, hl with | [_, _], _ => rfl
  have F__law_spoilt := fun_mk (st := s__law_spoilt) l__law_spoilt c__law_spoilt k__law_spoilt
  have b__law_spoilt := F__law_spoilt.binds (ps := ["rules", "cell"]) fun _ _ _ _ _ _ us hl => match us, hl with | [_, _], _ => rfl
  have F__law_wrong := fun_mk (st := s__law_wrong) l__law_wrong c__law_wrong k__law_wrong
  have b__law_wrong := F__law_wrong.binds (ps := ["rule", "many"]) fun _ _ _ _ _ _ us hl => match us, hl with | [_, _], _ => rfl
  have F__law_reached := fun_mk (st := s__law_reached) l__law_reached c__law_reached k__law_reached
  have b__law_reached := F__law_reached.binds (ps := ["rules"]) fun _ _ _ _ _ _ us hl => match us, hl with | [_], _ => rfl
  have F_check_form_rules := fun_mk (st := s_check_form_rules) l_check_form_rules c_check_form_rules k_check_form_rules
  have b_check_form_rules := F_check_form_rules.binds (ps := ["rules"]) fun _ _ _ _ _ _ us hl => match us, hl with | [_], _ => rfl
  have F_Rules_size := fun_mk (st := s_Rules_size) l_Rules_size c_Rules_size k_Rules_size
  have b_Rules_size := F_Rules_size.binds (ps := ["self"]) fun _ _ _ _ _ _ us hl => match us, hl with | [_], _ => rfl
  have F__law_rules := fun_mk (st := s__law_rules) l__law_rules c__law_rules k__law_rules
  have b__law_rules := F__law_rules.binds (ps := ["cell", "wild"]) fun _ _ _ _ _ _ us hl => match us, hl with | [_, _], _ => rfl
  have F__law_due := fun_mk (st := s__law_due) l__law_due c__law_due k__law_due
  have b__law_due := F__law_due.binds (ps := ["rules"]) fun _ _ _ _ _ _ us hl => match us, hl with | [_], _ => rfl
  have F__law_mended := fun_mk (st := s__law_mended) l__law_mended c__law_mended k__law_mended
  have b__law_mended := F__law_mended.binds (ps := ["rules"]) fun _ _ _ _ _ _ us hl => match us, hl with | [_], _ => rfl
  have F_Rules___init__ := fun_mk (st := s_Rules___init__) l_Rules___init__ c_Rules___init__ k_Rules___init__
  have b_Rules___init__ := F_Rules___init__.binds (ps := ["self", "rules"]) fun _ _ _ _ _ _ us hl => match us, hl with | [_, _], _ => rfl
  have F__law_try := fun_mk (st := s__law_try) l__law_try c__law_try k__law_try
  have b__law_try := F__law_try.binds (ps := ["rules"]) fun _ _ _ _ _ _ us hl => match us, hl with | [_], _ => rfl
  have F__law_same := fun_mk (st := s__law_same) l__law_same c__law_same k__law_same
  have b__law_same := F__law_same.binds (ps := ["got", "due"]) fun _ _ _ _ _ _ us hl => match us, hl with | [_, _], _ => rfl
  have F__law_holds := fun_mk (st := s__law_holds) l__law_holds c__law_holds k__law_holds
  have b__law_holds := F__law_holds.binds (ps := ["told", "rules"]) fun _ _ _ _ _ _ us hl => match us, hl with | [_, _], _ => rfl
  have F_law := fun_mk (st := s_law) l_law c_law k_law
  have b_law := F_law.binds (ps := ["script"]) fun _ _ _ _ _ _ us hl => match us, hl with | [_], _ => rfl
  refine ⟨PySem.W.fnOf "law" "law" (defArgs s_law) (defBody s_law) (defScope s_law) .none kV_law dc_law pm_law an_law cd_law ct_law, fun s v => .of_eq rfl, fun base _ _ => ?_⟩
  have D_BadPress___init__ : Ok_BadPress___init__ l.prog w K mg base := ⟨C_BadPress, ecf_of (st := s_BadPress___init__) (par := "index") (PySem.W.mg_of X G eg_BadPress) a_BadPress___init__ t_BadPress___init__ ⟨⟨_, _, _, _, _, _, _, _, _, _, _, _, _, _, _, lc_BadPress___init__, rb_BadPress___init__⟩, w_BadPress___init__, eb_BadPress___init__, et_BadPress___init__, kc_BadPress___init__⟩ nf_BadPress___init__ u_BadPress___init__ sv_BadPress___init__ m_BadPress___init__ any0 x_BadPress___init__ (PySem.W.mg_none_of X G zsuper) top0 l_BadPress___init__ c_BadPress___init__ h_BadPress___init__ v_BadPress___init__ y_BadPress___init__ qc_BadPress___init__ rfl rfl rfl rfl rfl rfl (by decide) (by decide) rfl rfl rfl rfl (by decide +kernel) (by decide +kernel) (by decide) (by decide) (fun _ => rfl) (fun _ => rfl) (fun _ => ⟨_, rfl⟩) (fun us hl => match us, hl with | [_, _], _ => rfl)⟩
  have D__law_cell : Ok__law_cell l.prog w K mg base := ok__law_cell F__law_cell (PySem.W.mg_of X G a__law_cell) b__law_cell T
  have D__law_draws : Ok__law_draws l.prog w K mg base := ok__law_draws F__law_draws (PySem.W.mg_of X G a__law_draws) b__law_draws T
  have D__law_letter : Ok__law_letter l.prog w K mg base := ok__law_letter F__law_letter (PySem.W.mg_of X G a__law_letter) b__law_letter T
  have D__law_size : Ok__law_size l.prog w K mg base := ok__law_size F__law_size (PySem.W.mg_of X G a__law_size) b__law_size T
  have D_is_letter : Ok_is_letter l.prog w K mg base := ok_is_letter F_is_letter (PySem.W.mg_of X G a_is_letter) b_is_letter T
  have D__parts : Ok__parts l.prog w K mg base := ok__parts F__parts (PySem.W.mg_of X G a__parts) b__parts
  have D__law_sign : Ok__law_sign l.prog w K mg base := ok__law_sign F__law_sign (PySem.W.mg_of X G a__law_sign) b__law_sign T
  have D__law_parts : Ok__law_parts l.prog w K mg base := ok__law_parts F__law_parts (PySem.W.mg_of X G a__law_parts) b__law_parts
  have D__law_is_int : Ok__law_is_int l.prog w K mg base := ok__law_is_int F__law_is_int (PySem.W.mg_of X G a__law_is_int) b__law_is_int T
  have D__is_rule : Ok__is_rule l.prog w K mg base := ok__is_rule F__is_rule (PySem.W.mg_of X G a__is_rule) b__is_rule C D_is_letter D__parts
  have D_Rules_used : Ok_Rules_used l.prog w K mg base := ok_Rules_used F_Rules_used KC_Rules.at' KC_Rules.cl ⟨a_Rules_used, i_Rules_used, k_Rules_used⟩ b_Rules_used T D__parts KC_Rules
  have D__law_lengths : Ok__law_lengths l.prog w K mg base := ok__law_lengths F__law_lengths (PySem.W.mg_of X G a__law_lengths) b__law_lengths T D__law_parts
  have D__law_each : Ok__law_each l.prog w K mg base := ok__law_each F__law_each (PySem.W.mg_of X G a__law_each) b__law_each T D__law_cell D__law_draws D__law_letter
  have D__law_spoilt : Ok__law_spoilt l.prog w K mg base := ok__law_spoilt F__law_spoilt (PySem.W.mg_of X G a__law_spoilt) b__law_spoilt T D__law_draws D__law_letter D__law_sign
  have D__law_wrong : Ok__law_wrong l.prog w K mg base := ok__law_wrong F__law_wrong (PySem.W.mg_of X G a__law_wrong) b__law_wrong T D__law_parts
  have D__law_reached : Ok__law_reached l.prog w K mg base := ok__law_reached F__law_reached (PySem.W.mg_of X G a__law_reached) b__law_reached T D__law_parts
  have D_check_form_rules : Ok_check_form_rules l.prog w K mg base := ok_check_form_rules F_check_form_rules (PySem.W.mg_of X G a_check_form_rules) b_check_form_rules T C D_BadPress___init__ D__is_rule R
  have D_Rules_size : Ok_Rules_size l.prog w K mg base := ok_Rules_size F_Rules_size KC_Rules.at' KC_Rules.cl ⟨a_Rules_size, i_Rules_size, k_Rules_size⟩ b_Rules_size T D_Rules_used
  have D__law_rules : Ok__law_rules l.prog w K mg base := ok__law_rules F__law_rules (PySem.W.mg_of X G a__law_rules) b__law_rules T D__law_draws D__law_size D__law_letter D__law_lengths
  have D__law_due : Ok__law_due l.prog w K mg base := ok__law_due F__law_due (PySem.W.mg_of X G a__law_due) b__law_due T D__law_wrong
  have D__law_mended : Ok__law_mended l.prog w K mg base := ok__law_mended F__law_mended (PySem.W.mg_of X G a__law_mended) b__law_mended T D__law_wrong
  have D_Rules___init__ : Ok_Rules___init__ l.prog w K mg base := ok_Rules___init__ F_Rules___init__ KC_Rules M_Rules b_Rules___init__ T D_check_form_rules
  have D__law_try : Ok__law_try l.prog w K mg base := ok__law_try F__law_try (PySem.W.mg_of X G a__law_try) b__law_try T D_Rules___init__ R
  have D__law_same := ok__law_same (P := l.prog) (w := w) (base := base) F__law_same (PySem.W.mg_of X G a__law_same) b__law_same T D__law_is_int
  have D__law_holds : Ok__law_holds l.prog w K mg base := ok__law_holds F__law_holds (PySem.W.mg_of X G a__law_holds) b__law_holds T D__law_due D__law_same D_Rules_size D__law_reached KC_Rules
  have FL := ok_law (P := l.prog) (w := w) (base := base) F_law T D__law_cell D__law_draws D__law_rules D__law_size D__law_each D__law_letter D__law_spoilt D__law_mended D__law_try D__law_same D__law_holds
  refine FL.imp fun vs H Q E q => ?_
  obtain ⟨a, ns, rfl, hS, hl, q⟩ := q
  refine ⟨H, ⟨ns⟩, ⟨Ex.refl _, tabs_of fun n hn => (nomatch hn)⟩, trivial, rfl, fun p hp => ?_, fun v H' Hd' _ _ _ _ r => ?_⟩
  · rw [List.mem_singleton.mp hp]
    exact ⟨⟨_, rfl, a, rfl, hS⟩, fun q => apart_is q⟩
  · obtain ⟨⟨u, r1, r2⟩, _⟩ := r
    have r1 : some v = some u := r1
    injection r1 with r1
    have r2 : u = V.bl (m_law ⟨ns⟩) := r2
    rw [r1, r2, law_true]
    exact q H'
end DX
open PySem PySem.W PyProof.Rows
set_option maxHeartbeats 0 in
theorem PySem.Challenge.cw_pressroots_k18_rules_form_holds : PySem.Challenge.rw_pressroots_k18_rules_form.Holds := by
  w_on; o_law; k_head; (case hw => w_witness2)
  k_fill
  refine L2.walk_of (l := PySem.Challenge.rw_pressroots_k18_rules_form) (n := 63) (k := 11) (x := "script") (CX := fun _ => L2.CX0) (sp := fun w => DX.spLaw _) rfl (by decide) rfl ⟨rfl, by decide, by decide⟩ (fun w h Y => PySem.W.kIn_of Y) ?F (fun _ _ a ns hl _ hS => ⟨a, ns, rfl, hS, hl, fun _ => rfl⟩) (fun _ _ _ _ _ h => h)
  case F =>
    intro w mg fa h KX G hmg
    refine' DX.all_mk KX G hmg ?a_Rules ?opg_Rules ?ohd_Rules ?opo_Rules ?osa_Rules ?omk_Rules ?okc_Rules ?oha_Rules ?ohm_Rules ?onf0_Rules ?a__law_cell ?l__law_cell ?c__law_cell ?k__law_cell ?a__law_draws ?l__law_draws ?c__law_draws ?k__law_draws ?a__law_letter ?l__law_letter ?c__law_letter ?k__law_letter ?a__law_size ?l__law_size ?c__law_size ?k__law_size ?a_is_letter ?l_is_letter ?c_is_letter ?k_is_letter ?a__parts ?l__parts ?c__parts ?k__parts ?a__law_sign ?l__law_sign ?c__law_sign ?k__law_sign ?a__law_parts ?l__law_parts ?c__law_parts ?k__law_parts ?a__law_is_int ?l__law_is_int ?c__law_is_int ?k__law_is_int ?a__is_rule ?l__is_rule ?c__is_rule ?k__is_rule ?a_Rules_used ?i_Rules_used ?l_Rules_used ?c_Rules_used ?k_Rules_used ?a__law_lengths ?l__law_lengths ?c__law_lengths ?k__law_lengths ?a__law_each ?l__law_each ?c__law_each ?k__law_each ?a__law_spoilt ?l__law_spoilt ?c__law_spoilt ?k__law_spoilt ?a__law_wrong ?l__law_wrong ?c__law_wrong ?k__law_wrong ?a__law_reached ?l__law_reached ?c__law_reached ?k__law_reached ?a_check_form_rules ?l_check_form_rules ?c_check_form_rules ?k_check_form_rules ?a_Rules_size ?i_Rules_size ?l_Rules_size ?c_Rules_size ?k_Rules_size ?a__law_rules ?l__law_rules ?c__law_rules ?k__law_rules ?a__law_due ?l__law_due ?c__law_due ?k__law_due ?a__law_mended ?l__law_mended ?c__law_mended ?k__law_mended ?a_Rules___init__ ?i_Rules___init__ ?l_Rules___init__ ?c_Rules___init__ ?k_Rules___init__ ?a__law_try ?l__law_try ?c__law_try ?k__law_try ?a__law_same ?l__law_same ?c__law_same ?k__law_same ?a__law_holds ?l__law_holds ?c__law_holds ?k__law_holds ?a_law ?l_law ?c_law ?k_law ?z_ValueError ?z_abs ?z_any ?z_bool ?z_enumerate ?z_int ?z_isinstance ?z_iter ?z_len ?z_list ?z_max ?z_min ?z_range ?z_sorted ?z_str ?z_sum ?z_tuple ?g_MOST ?g_MOST_RULES ?eg_BadPress ?eg_TooLong ?eg_BadText ?eg_BadPlaces ?eg_BadCount ?eg_TooShort ?eg_NoText ?eg_BadPaper ?eg_BadLine ?eg_NotARoot ?eg_DeskError ?eg_PressError ?ek_TooLong ?eb_TooLong ?ec_TooLong ?et_TooLong ?eq_TooLong ?xhn ?xht ?xhg_BadPress ?xhk_BadPress ?xhs_BadPress ?xhd_BadPress ?xha_BadPress ?xhm_BadPress ?xhg_TooLong ?xhk_TooLong ?xhs_TooLong ?xhd_TooLong ?xha_TooLong ?xhm_TooLong ?ec_PressError ?et_PressError ?es_BadPress_PressError ?ev_BadPress ?es_TooLong_PressError ?ev_TooLong ?fn_BadPress ?ec_DeskError ?et_DeskError ?es_BadPress_DeskError ?en_BadPress_DeskError ?ec_NotARoot ?et_NotARoot ?es_BadPress_NotARoot ?en_BadPress_NotARoot ?ec_BadLine ?et_BadLine ?es_BadPress_BadLine ?en_BadPress_BadLine ?ec_BadPaper ?et_BadPaper ?es_BadPress_BadPaper ?en_BadPress_BadPaper ?ec_NoText ?et_NoText ?es_BadPress_NoText ?en_BadPress_NoText ?ec_TooShort ?et_TooShort ?es_BadPress_TooShort ?en_BadPress_TooShort ?es_BadPress_TooLong ?en_BadPress_TooLong ?ec_BadCount ?et_BadCount ?es_BadPress_BadCount ?en_BadPress_BadCount ?ec_BadPlaces ?et_BadPlaces ?es_BadPress_BadPlaces ?en_BadPress_BadPlaces ?ec_BadText ?et_BadText ?es_BadPress_BadText ?en_BadPress_BadText ?es_TooLong_DeskError ?en_TooLong_DeskError ?es_TooLong_NotARoot ?en_TooLong_NotARoot ?es_TooLong_BadLine ?en_TooLong_BadLine ?es_TooLong_BadPaper ?en_TooLong_BadPaper ?ec_BadPress ?et_BadPress ?es_TooLong_BadPress ?en_TooLong_BadPress ?es_TooLong_NoText ?en_TooLong_NoText ?es_TooLong_TooShort ?en_TooLong_TooShort ?es_TooLong_BadCount ?en_TooLong_BadCount ?es_TooLong_BadPlaces ?en_TooLong_BadPlaces ?es_TooLong_BadText ?en_TooLong_BadText ?es_BadPress_BadPress ?eb_BadPress ?es_TooLong_TooLong ?a_BadPress___init__ ?t_BadPress___init__ ?l_BadPress___init__ ?c_BadPress___init__ ?h_BadPress___init__ ?v_BadPress___init__ ?y_BadPress___init__ ?qc_BadPress___init__ ?lc_BadPress___init__ ?rb_BadPress___init__ ?w_BadPress___init__ ?kc_BadPress___init__ ?eb_BadPress___init__ ?et_BadPress___init__ ?nf_BadPress___init__ ?u_BadPress___init__ ?sv_BadPress___init__ ?m_BadPress___init__ ?x_BadPress___init__ ?any0 ?zsuper ?top0
    (case a_Rules => k_is); (case opg_Rules => k_is); (case ohd_Rules => k_is); (case opo_Rules => k_is); (case osa_Rules => k_is); (case omk_Rules => k_is); (case okc_Rules => k_is); (case oha_Rules => k_is); (case ohm_Rules => k_is); (case onf0_Rules => k_is); (case a__law_cell => k_is); (case l__law_cell => k_is); (case c__law_cell => k_is); (case k__law_cell => k_is); (case a__law_draws => k_is); (case l__law_draws => k_is); (case c__law_draws => k_is); (case k__law_draws => k_is); (case a__law_letter => k_is); (case l__law_letter => k_is); (case c__law_letter => k_is); (case k__law_letter => k_is); (case a__law_size => k_is); (case l__law_size => k_is); (case c__law_size => k_is); (case k__law_size => k_is); (case a_is_letter => k_is); (case l_is_letter => k_is); (case c_is_letter => k_is); (case k_is_letter => k_is); (case a__parts => k_is); (case l__parts => k_is); (case c__parts => k_is); (case k__parts => k_is); (case a__law_sign => k_is); (case l__law_sign => k_is); (case c__law_sign => k_is); (case k__law_sign => k_is); (case a__law_parts => k_is); (case l__law_parts => k_is); (case c__law_parts => k_is); (case k__law_parts => k_is); (case a__law_is_int => k_is); (case l__law_is_int => k_is); (case c__law_is_int => k_is); (case k__law_is_int => k_is); (case a__is_rule => k_is); (case l__is_rule => k_is); (case c__is_rule => k_is); (case k__is_rule => k_is); (case a_Rules_used => k_is); (case i_Rules_used => k_is); (case l_Rules_used => k_is); (case c_Rules_used => k_is); (case k_Rules_used => k_is); (case a__law_lengths => k_is); (case l__law_lengths => k_is); (case c__law_lengths => k_is); (case k__law_lengths => k_is); (case a__law_each => k_is); (case l__law_each => k_is); (case c__law_each => k_is); (case k__law_each => k_is); (case a__law_spoilt => k_is); (case l__law_spoilt => k_is); (case c__law_spoilt => k_is); (case k__law_spoilt => k_is); (case a__law_wrong => k_is); (case l__law_wrong => k_is); (case c__law_wrong => k_is); (case k__law_wrong => k_is); (case a__law_reached => k_is); (case l__law_reached => k_is); (case c__law_reached => k_is); (case k__law_reached => k_is); (case a_check_form_rules => k_is); (case l_check_form_rules => k_is); (case c_check_form_rules => k_is); (case k_check_form_rules => k_is); (case a_Rules_size => k_is); (case i_Rules_size => k_is); (case l_Rules_size => k_is); (case c_Rules_size => k_is); (case k_Rules_size => k_is); (case a__law_rules => k_is); (case l__law_rules => k_is); (case c__law_rules => k_is); (case k__law_rules => k_is); (case a__law_due => k_is); (case l__law_due => k_is); (case c__law_due => k_is); (case k__law_due => k_is); (case a__law_mended => k_is); (case l__law_mended => k_is); (case c__law_mended => k_is); (case k__law_mended => k_is); (case a_Rules___init__ => k_is); (case i_Rules___init__ => k_is); (case l_Rules___init__ => k_is); (case c_Rules___init__ => k_is); (case k_Rules___init__ => k_is); (case a__law_try => k_is); (case l__law_try => k_is); (case c__law_try => k_is); (case k__law_try => k_is); (case a__law_same => k_is); (case l__law_same => k_is); (case c__law_same => k_is); (case k__law_same => k_is); (case a__law_holds => k_is); (case l__law_holds => k_is); (case c__law_holds => k_is); (case k__law_holds => k_is); (case a_law => k_is); (case l_law => k_is); (case c_law => k_is); (case k_law => k_is); (case z_ValueError => k_is); (case z_abs => k_is); (case z_any => k_is); (case z_bool => k_is); (case z_enumerate => k_is); (case z_int => k_is); (case z_isinstance => k_is); (case z_iter => k_is); (case z_len => k_is); (case z_list => k_is); (case z_max => k_is); (case z_min => k_is); (case z_range => k_is); (case z_sorted => k_is); (case z_str => k_is); (case z_sum => k_is); (case z_tuple => k_is); (case g_MOST => k_is); (case g_MOST_RULES => k_is); (case eg_BadPress => k_is); (case eg_TooLong => k_is); (case eg_BadText => k_is); (case eg_BadPlaces => k_is); (case eg_BadCount => k_is); (case eg_TooShort => k_is); (case eg_NoText => k_is); (case eg_BadPaper => k_is); (case eg_BadLine => k_is); (case eg_NotARoot => k_is); (case eg_DeskError => k_is); (case eg_PressError => k_is); (case ek_TooLong => k_is); (case eb_TooLong => k_is); (case ec_TooLong => k_is); (case et_TooLong => k_is); (case eq_TooLong => k_exc); (case xhn => k_is); (case xht => k_is); (case xhg_BadPress => k_is); (case xhk_BadPress => k_is); (case xhs_BadPress => k_is); (case xhd_BadPress => k_is); (case xha_BadPress => k_is); (case xhm_BadPress => k_is); (case xhg_TooLong => k_is); (case xhk_TooLong => k_is); (case xhs_TooLong => k_is); (case xhd_TooLong => k_is); (case xha_TooLong => k_is); (case xhm_TooLong => k_is); (case ec_PressError => k_is); (case et_PressError => k_is); (case es_BadPress_PressError => first | k_is | rfl); (case ev_BadPress => k_is); (case es_TooLong_PressError => first | k_is | rfl); (case ev_TooLong => k_is); (case fn_BadPress => k_is); (case ec_DeskError => k_is); (case et_DeskError => k_is); (case es_BadPress_DeskError => first | k_is | rfl); (case en_BadPress_DeskError => rfl); (case ec_NotARoot => k_is); (case et_NotARoot => k_is); (case es_BadPress_NotARoot => first | k_is | rfl); (case en_BadPress_NotARoot => rfl); (case ec_BadLine => k_is); (case et_BadLine => k_is); (case es_BadPress_BadLine => first | k_is | rfl); (case en_BadPress_BadLine => rfl); (case ec_BadPaper => k_is); (case et_BadPaper => k_is); (case es_BadPress_BadPaper => first | k_is | rfl); (case en_BadPress_BadPaper => rfl); (case ec_NoText => k_is); (case et_NoText => k_is); (case es_BadPress_NoText => first | k_is | rfl); (case en_BadPress_NoText => rfl); (case ec_TooShort => k_is); (case et_TooShort => k_is); (case es_BadPress_TooShort => first | k_is | rfl); (case en_BadPress_TooShort => rfl); (case es_BadPress_TooLong => first | k_is | rfl); (case en_BadPress_TooLong => rfl); (case ec_BadCount => k_is); (case et_BadCount => k_is); (case es_BadPress_BadCount => first | k_is | rfl); (case en_BadPress_BadCount => rfl); (case ec_BadPlaces => k_is); (case et_BadPlaces => k_is); (case es_BadPress_BadPlaces => first | k_is | rfl); (case en_BadPress_BadPlaces => rfl); (case ec_BadText => k_is); (case et_BadText => k_is); (case es_BadPress_BadText => first | k_is | rfl); (case en_BadPress_BadText => rfl); (case es_TooLong_DeskError => first | k_is | rfl); (case en_TooLong_DeskError => rfl); (case es_TooLong_NotARoot => first | k_is | rfl); (case en_TooLong_NotARoot => rfl); (case es_TooLong_BadLine => first | k_is | rfl); (case en_TooLong_BadLine => rfl); (case es_TooLong_BadPaper => first | k_is | rfl); (case en_TooLong_BadPaper => rfl); (case ec_BadPress => k_is); (case et_BadPress => k_is); (case es_TooLong_BadPress => first | k_is | rfl); (case en_TooLong_BadPress => rfl); (case es_TooLong_NoText => first | k_is | rfl); (case en_TooLong_NoText => rfl); (case es_TooLong_TooShort => first | k_is | rfl); (case en_TooLong_TooShort => rfl); (case es_TooLong_BadCount => first | k_is | rfl); (case en_TooLong_BadCount => rfl); (case es_TooLong_BadPlaces => first | k_is | rfl); (case en_TooLong_BadPlaces => rfl); (case es_TooLong_BadText => first | k_is | rfl); (case en_TooLong_BadText => rfl); (case es_BadPress_BadPress => first | k_is | rfl); (case eb_BadPress => k_is); (case es_TooLong_TooLong => first | k_is | rfl); (case a_BadPress___init__ => k_is); (case t_BadPress___init__ => k_is); (case l_BadPress___init__ => k_is); (case c_BadPress___init__ => k_is); (case h_BadPress___init__ => k_is); (case v_BadPress___init__ => rfl); (case y_BadPress___init__ => decide +kernel); (case qc_BadPress___init__ => k_is); (case lc_BadPress___init__ => k_is); (case rb_BadPress___init__ => rfl); (case w_BadPress___init__ => k_is); (case kc_BadPress___init__ => k_is); (case eb_BadPress___init__ => k_is); (case et_BadPress___init__ => k_is); (case nf_BadPress___init__ => k_is); (case u_BadPress___init__ => ks_is); (case sv_BadPress___init__ => k_is); (case m_BadPress___init__ => k_is); (case x_BadPress___init__ => kx_is); (case any0 => k_is); (case zsuper => k_is); (case top0 => rfl)
