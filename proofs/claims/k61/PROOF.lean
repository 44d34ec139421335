import PyProof.Rows.All
import Wide.All
import OpenK.AllK
import Wide.FinOn
import HandS.ForMost
import HandS.IsInst
import HandS.TupAny
import HandS.TupLe
import HandS.Wide
import HandS.Style
import HandS.SortInts
import HandS.Conv
import HandS.More
import HandS.EndTab
import HandS.EndOwn
import HandS.AnyAll
import HandS.GenOver
import HandS.Evl
import HandS.Walk
import HandS.NoneIn
import HandS.Zip
import HandS.DictComp
import HandS.SetFor
import KE.GoesEnum
import HandS.TupMul
import HandS.Strs
import KE.DataMinMax
import HandS.ForExc
import HandS.ExcIs
import HandS.SetKeys
import KE.DatumOrd
import HandS.Remove
import HandS.SortRule
import KE.KDictCopyH
import KE.KDictSum
import HandS.Defaults
import KE.SortData
import KE.KDictDisplayH
import KE.BitLaws
import HandS.Star
import PySem.Challenge.RW_friendfoe_k61_no_flat_papers
set_option Elab.async false
set_option linter.all false
set_option maxRecDepth 100000
namespace FF
open PySem PySem.Spec PyProof.Rows L2
/-! ### heaps: what is kept -/
/-- all that is tracked, but at d and c, is as it was -/
def Kp (d c : Addr) (H H' : Hp) : Prop := ∀ b o, b ≠ d → b ≠ c → H b = some o → H' b = some o
theorem Kp.refl {d c : Addr} {H : Hp} : Kp d c H H := fun _ _ _ _ h => h
theorem Kp.trans {d c : Addr} {H H1 H2 : Hp} (a : Kp d c H H1) (b : Kp d c H1 H2) : Kp d c H H2 := fun x o h1 h2 h => b x o h1 h2 (a x o h1 h2 h)
theorem Kp.at_d {d c : Addr} {H : Hp} {o : HO} : Kp d c H (upd H d o) := fun b u h1 _ h => by rw [upd_ne h1]; exact h
theorem Kp.at_c {d c : Addr} {H : Hp} {o : HO} : Kp d c H (upd H c o) := fun b u _ h2 h => by rw [upd_ne h2]; exact h
theorem Kp.new {d c p : Addr} {H : Hp} {o : HO} (hp : H p = none) : Kp d c H (upd H p o) := fun b u _ _ h => by rw [upd_ne (ne_of_none h hp)]; exact h
theorem same_new {H : Hp} {p : Addr} {o : HO} (h : H p = none) : Same H (upd H p o) := fun b x e => by
  rw [upd_ne (ne_of_none e h)]
  exact e
theorem Same.kp {d c : Addr} {H H' : Hp} (s : Same H H') : Kp d c H H' := fun b o _ _ h => s b o h
/-! ### defs as they are called -/
def Df (P : Program) (w : World) (K : PySem.W.Frag) (mg : Str → Option Value) (base : Heap) (k : Nat) (x : Str) (ps : List Str) (sp : Sp) : Prop :=
  ∃ (f : Addr) (fd : FuncData), FnOk P w K mg base CX0 k f fd ps sp ∧ mg x = some (.ref f) ∧ PySem.W.keepIn K (.ref f) = true ∧ Binds K fd ps []
/-- built-in names that the module has not taken -/
structure Free (mg : Str → Option Value) : Prop where
  len : mg "len" = none
  int : mg "int" = none
  bool : mg "bool" = none
  str : mg "str" = none
  list : mg "list" = none
  tuple : mg "tuple" = none
  range : mg "range" = none
  isinstance : mg "isinstance" = none
  sum : mg "sum" = none
theorem mod_rng {a m : Int} (h : 0 < m) : 0 ≤ a % m ∧ a % m < m := ⟨Int.emod_nonneg a (by omega), Int.emod_lt_of_pos a h⟩
/-! ### a generator expression's own frame -/
/-- the context of a generator's turns: its frame cenv stands over the def's -/
abbrev gX (X : Cx) (s : Shared) (H : Hp) (A' : Around) (cenv : Env) (fp : List Addr) : Cx :=
  { X with A := A', s_0 := s, H_0 := H, env := cenv, outer := X.stack, stack := cenv :: X.stack, ex := fp, fn := fun _ => false, pn := [], xe := fun _ _ => False }
/-- what is asked of the expression's own scope -/
structure GnOk (scope : Scope) : Prop where
  co : scope.isCoroutine = false
  nocell : ∀ y ∈ scope.names, y.2 ≠ .cell
  dot : scope.names.lookup (".0" : Str) = some NameKind.local
section
variable {X : Cx} {pins : List (Addr × Obj)} {σ : L2.St} {H : Hp} {s : Shared}
theorem gen_start {scope : Scope} {own : List (Str × Nat)} {fp : List Addr} {A' : Around} {code : Value} {m0 : Str → Option Value} {h5 : Heap} {g5 : Array GenState} {t5 : Nat} {a : Addr} {go : Obj}
    (I : Inv X pins σ H s) (ok : BlkOk X.N X.env.scope scope own) (gk : GnOk scope) (hN : X.N.Nodup) (hfp : ∀ b ∈ fp, FpOk X pins H b ∧ b < s.heap.objs.size)
    (hA : A'.handled = none) (hF : A'.frames = some (genEnv scope (cloFrom X.env.cells scope.names []) s.heap.objs.size code builtinsNs X.env :: X.stack))
    (kp : ∀ b o, s.heap.get? b = some o → h5.get? b = some o) (hn : h5.Ns s.heap.objs.size m0) (hm0 : ∀ x, x ≠ (".0" : Str) → m0 x = none) (hdN : (".0" : Str) ∉ X.N) (hb5 : AllBare g5)
    (ha : s.heap.objs.size < a) (hgo : h5.get? a = some go) (hgd : ∀ v, go.data ≠ .cell v) :
    Inv (gX X s H A' (genEnv scope (cloFrom X.env.cells scope.names []) s.heap.objs.size code builtinsNs X.env) fp) [(a, go)] (wipe σ (own.map (·.2))) H { s with heap := h5, gens := g5, toks := t5 } := by
  have hfree : ∀ y ∈ scope.names, y.2 = .free → ∃ c, X.env.cells.lookup y.1 = some c := fun y hy e =>
    (ok.free y hy e).elim (fun k => I.ok.has _ (.inl k)) fun k => I.ok.has _ (.inr k)
  have cm : ∀ {y c}, (y, c) ∈ cloFrom X.env.cells scope.names [] → X.env.cells.lookup y = some c ∧ c < s.heap.objs.size := fun {y c} q => by
    rcases cloFrom_mem q with q | ⟨h1, e1⟩
    · cases q
    · obtain ⟨c1, hc1⟩ := hfree _ h1 rfl
      rw [hc1] at e1
      cases e1
      obtain ⟨w1, z1⟩ := I.cell _ _ hc1
      exact ⟨hc1, z1.lt⟩
  have cl : ∀ {y c}, (cloFrom X.env.cells scope.names []).lookup y = some c → X.env.cells.lookup y = some c ∧ c < s.heap.objs.size := fun {y c} e => cm (PySem.mem_of_lookup e)
  have look : ∀ {y}, scope.names.lookup y = some .free → ∃ c, (cloFrom X.env.cells scope.names []).lookup y = some c := fun {y} e =>
    mem_lookup (cloFrom_has (cells := X.env.cells) (acc := []) (PySem.mem_of_lookup e))
  generalize hce : genEnv scope (cloFrom X.env.cells scope.names []) s.heap.objs.size code builtinsNs X.env = ce at hF
  have cL : ce.locals = s.heap.objs.size := by rw [← hce]; rfl
  have cC : ce.cells = cloFrom X.env.cells scope.names [] := by rw [← hce]; rfl
  have cS : ce.scope = scope := by rw [← hce]; rfl
  have cF : ce.frame = some ce.locals := by rw [← hce]; rfl
  have okG : (gX X s H A' ce fp).Ok := by
    refine ⟨I.ok.mod, ?_, ?_, ?_, ?_, fun y z c e1 e2 => ?_, fun y hy => ?_, fun y c z e => ?_, fun _ => hA, hF, .inr ⟨rfl, cF⟩, fun b hb => ⟨?_, fun y c e z => ?_⟩, I.bs, Nat.le_trans I.ok.bsz I.sz, fun b o e hb => ?_, fun b hb z => ?_, I.stack, I.stkFree⟩
    · show ce.scope.kind = _
      rw [cS]
      exact ok.kind
    · show ce.globals = _
      rw [← hce]
      exact I.ok.glob
    · show ce.builtins = _
      rw [← hce]
      rfl
    · show s.heap.objs.size ≤ ce.locals
      rw [cL]
      exact Nat.le_refl _
    · have e1 : ce.cells.lookup y = some c := e1
      have e2 : ce.cells.lookup z = some c := e2
      rw [cC] at e1 e2
      exact I.ok.inj y z c (cl e1).1 (cl e2).1
    · show ∃ c, ce.cells.lookup y = some c
      rw [cC]
      have hy : scope.names.lookup y = some .cell ∨ scope.names.lookup y = some .free := by
        have hy' : ce.scope.names.lookup y = some .cell ∨ ce.scope.names.lookup y = some .free := hy
        rw [cS] at hy'
        exact hy'
      rcases hy with k | k
      · exact absurd rfl (gk.nocell _ (PySem.mem_of_lookup k))
      · exact look k
    · exact absurd (show false = true from z) Bool.false_ne_true
    · show b ≠ ce.locals
      rw [cL]
      exact Nat.ne_of_lt (hfp b hb).2
    · have e : ce.cells.lookup y = some c := e
      rw [cC] at e
      exact (hfp b hb).1.2.2.2.2.1 y c (cl e).1 z
    · rcases (hfp b hb).1.2.2.2.1 with q | q
      · exact I.ok.noex b o e q
      · exact absurd (Nat.lt_of_lt_of_le (Heap.lt_size e) (Nat.le_trans I.ok.bsz q)) (Nat.lt_irrefl _)
    · rcases List.mem_cons.mp (I.stkSub b z) with q | q
      · exact (hfp b hb).1.2.1 q
      · exact (hfp b hb).1.2.2.1 q
  refine ⟨okG, rfl, hb5, Un.kept kp, ⟨m0, ?_, fun i y av e1 e2 e3 => ?_⟩, fun y c e => ?_, ?_, fun y c e => ?_, fun p hp => ?_, I.hok.kept kp, by rw [wipe_length]; exact I.len⟩
  · show Heap.Ns _ ce.locals _
    rw [cL]
    exact hn
  · obtain ⟨e2, hne⟩ := wipe_some e2
    have e3 : Vis ce.scope y := e3
    rw [cS] at e3
    have hfr : scope.names.lookup y = some .free := by
      have no : ∀ k, scope.names.lookup y = some k → ¬ (k = .local ∨ k = .cell) := fun k hk hh => by
        rcases ok.own _ (PySem.mem_of_lookup hk) hh with q | q
        · obtain ⟨p, hp, hpy⟩ := List.mem_map.mp q
          have e4 := ok.ix p hp
          have hpy : p.1 = y := hpy
          rw [hpy] at e4
          exact hne (List.mem_map.mpr ⟨p, hp, nodup_ix hN e4 e1⟩)
        · exact q (List.mem_of_getElem? e1)
      rcases e3 with e3 | e3 | e3
      · exact absurd (.inl rfl) (no _ e3)
      · exact absurd (.inr rfl) (no _ e3)
      · exact e3
    obtain ⟨m, _, hl⟩ := I.loc
    have hvis : Vis X.env.scope y := (ok.free _ (PySem.mem_of_lookup hfr) rfl).elim (fun k => .inr (.inl k)) fun k => .inr (.inr k)
    obtain ⟨w1, r1, q1⟩ := hl i y av e1 e2 hvis
    obtain ⟨c, hc⟩ := look hfr
    refine ⟨w1, r1, .inr ⟨.inr (by show ce.scope.names.lookup y = _; rw [cS]; exact hfr), c, by show ce.cells.lookup y = _; rw [cC]; exact hc, ?_⟩⟩
    rcases q1 with ⟨k, _⟩ | ⟨_, c', e', z⟩
    · have k : X.env.scope.names.lookup y = some .local := k
      rcases ok.free _ (PySem.mem_of_lookup hfr) rfl with k' | k' <;> (have k' : X.env.scope.names.lookup y = _ := k'; rw [k'] at k; cases k)
    · rw [(cl hc).1] at e'
      cases e'
      exact z.keeps kp
  · have e : ce.cells.lookup y = some c := e
    rw [cC] at e
    obtain ⟨w1, z1⟩ := I.cell y c (cl e).1
    exact ⟨w1, z1.keeps kp⟩
  · show H ce.locals = none
    rw [cL]
    exact I.hok.fresh (Nat.le_refl _)
  · have e : ce.cells.lookup y = some c := e
    rw [cC] at e
    exact I.freeC y c (cl e).1
  · have hp : p = (a, go) := by simpa using hp
    subst hp
    refine ⟨hgo, I.hok.fresh (Nat.le_of_lt ha), ?_, fun z => ?_, hgd⟩
    · show a ≠ ce.locals
      rw [cL]
      exact Nat.ne_of_gt ha
    · have z : a ∈ frs X.stack := z
      obtain ⟨_, o, ho, _⟩ := I.stack.mem z
      exact absurd (Nat.lt_trans (Heap.lt_size ho) ha) (Nat.lt_irrefl _)
end
/-! ### all(..), any(..) of a generator, told by what each turn does -/
/-- between a yield and the next turn -/
structure Rs (s s' : Shared) : Prop where
  heap : s'.heap = s.heap
  os : s'.os = s.os
  bare : AllBare s'.gens
  size : s.gens.size ≤ s'.gens.size
theorem inv_gens {X : Cx} {pins : List (Addr × Obj)} {σ : L2.St} {H : Hp} {s s' : Shared} (I : Inv X pins σ H s) (h1 : s'.heap = s.heap) (h2 : s'.os = s.os) (h3 : AllBare s'.gens) : Inv X pins σ H s' := by
  obtain ⟨hh, g, d, t, o⟩ := s'
  have e1 : hh = s.heap := h1
  have e2 : o = s.os := h2
  subst e1 e2
  exact ⟨I.ok, I.os, h3, I.base, I.loc, I.cell, I.free, I.freeC, I.pin, I.hok, I.len⟩
theorem Rs.inv {X : Cx} {pins : List (Addr × Obj)} {σ : L2.St} {H : Hp} {s s' : Shared} (r : Rs s s') (I : Inv X pins σ H s) : Inv X pins σ H s' := by
  obtain ⟨h1, h2, h3, _⟩ := r
  obtain ⟨hh, g, d, t, o⟩ := s'
  have e1 : hh = s.heap := h1
  have e2 : o = s.os := h2
  subst e1 e2
  exact ⟨I.ok, I.os, h3, I.base, I.loc, I.cell, I.free, I.freeC, I.pin, I.hok, I.len⟩
theorem bare_set {gens : Array GenState} (h : AllBare gens) {g : Nat} {x : GenState} (hx : x.bare = true) : AllBare (gens.setIfInBounds g x) := fun y hy => by
  obtain ⟨i, hi, rfl⟩ := Array.mem_iff_getElem.mp hy
  rw [Array.size_setIfInBounds] at hi
  rw [Array.getElem_setIfInBounds hi]
  split
  · exact hx
  · exact h _ (Array.getElem_mem hi)
theorem Rs.set {s : Shared} (hb : AllBare s.gens) {g : Nat} {x : GenState} (hx : x.bare = true) : Rs s (s.setGen g x) :=
  ⟨rfl, rfl, bare_set hb hx, Nat.le_of_eq (GenW.setGen_size s g x).symm⟩
theorem Rs.trans {s s1 s2 : Shared} (a : Rs s s1) (b : Rs s1 s2) : Rs s s2 := ⟨b.heap.trans a.heap, b.os.trans a.os, b.bare, Nat.le_trans a.size b.size⟩
/-- the protocol of a generator whose items are truths: T b: what holds where b comes out -/
def gY (gi : Nat) (a : Addr) (stop : Bool) (Fin : Shared → Prop) : Protocol := fun n s₀ v s kap =>
  ∃ b, v = .bool b ∧ s.heap.IsGen a gi ∧ s.heap.NoLimit ∧ AllBare s.gens ∧ gi < s.gens.size ∧ (b = stop → Fin s) ∧ (b ≠ stop → ∀ s', Rs s s' → kap (.send .none) s')
def gR (End : Shared → Prop) : Nat → Shared → Shared → Prop := fun _ _ s => AllBare s.gens ∧ End s
/-- the generator waits -/
def Waits (prog : Program) (w : World) (A : Around) (gi : Nat) (a : Addr) (stop : Bool) (End Fin : Shared → Prop) (n : Nat) (s : Shared) : Prop :=
  s.heap.IsGen a gi ∧ s.heap.NoLimit ∧ AllBare s.gens ∧ ∃ gs, s.gens[gi]? = some gs ∧
    ∀ s', Rs s s' → gs.Goes (model prog w) A.in1 (fun n s₀ r s₁ => r = .ok .next ∧ gR End n s₀ s₁) (gY gi a stop Fin) n (.send .none) s'
section
variable {prog : Program} {w : World} {A : Around} {gi : Nat} {a : Addr} {stop : Bool} {End Fin : Shared → Prop}
theorem waits_next {n : Nat} {s : Shared} {Q : Option Value → Shared → Prop} {E : Value → Shared → Prop} (hh : A.handled = none) (hroom : A.depth < recursionLimit)
    (hE : ∀ s s' : Shared, End s → s'.os = s.os → AllBare s'.gens → (∀ b o, s.heap.get? b = some o → s'.heap.get? b = some o) → End s')
    (hF : ∀ s s' : Shared, Fin s → s'.os = s.os → AllBare s'.gens → (∀ b o, s.heap.get? b = some o → s'.heap.get? b = some o) → Fin s')
    (W : Waits prog w A gi a stop End Fin n s) (hN : ∀ s', End s' → Q none s') (hS : ∀ s', Fin s' → Q (some (.bool stop)) s')
    (hG : ∀ s' m, m < n → Waits prog w A gi a stop End Fin m s' → Q (some (.bool (!stop))) s') : wpAny (model prog w) A (pyNext (.ref a)) Q E s := by
  obtain ⟨hg, hl, hb, gs, hgs, hgo⟩ := W
  refine wpAny_pyNext_genexpQ (P := gR End) (Y := gY gi a stop Fin) hh hl hroom hg hgs (hgo _ (Rs.set hb rfl)) (fun v s₁ gs' hb' hv => ?_) fun s₁ hp h' hk => ?_
  · obtain ⟨b, rfl, g1, l1, b1, z1, f1, k1⟩ := hv
    by_cases e : b = stop
    · subst e
      exact hS _ (hF _ _ (f1 rfl) rfl (bare_set b1 hb') fun _ _ q => q)
    · have eb : b = !stop := by cases b <;> cases stop <;> first | rfl | exact absurd rfl e
      subst eb
      cases n with
      | zero => exact False.elim (k1 e s₁ ⟨rfl, rfl, b1, Nat.le_refl _⟩)
      | succ m =>
        refine hG _ m (Nat.lt_succ_self m) ⟨g1, l1, bare_set b1 hb', gs', ?_, fun s' r => k1 e s' ((Rs.set b1 hb').trans r)⟩
        show (s₁.gens.setIfInBounds gi gs')[gi]? = some gs'
        rw [Array.getElem?_setIfInBounds_self_of_lt z1]
  · obtain ⟨b1, e1⟩ := hp
    exact hN _ (hE _ _ e1 rfl (bare_set b1 rfl) fun b o q => hk b o q)
end
section
variable {prog : Program} {w : World} {A : Around} {gi : Nat} {a : Addr} {End Fin : Shared → Prop}
theorem all_loop (hh : A.handled = none) (hroom : A.depth < recursionLimit)
    (hE : ∀ s s' : Shared, End s → s'.os = s.os → AllBare s'.gens → (∀ b o, s.heap.get? b = some o → s'.heap.get? b = some o) → End s')
    (hF : ∀ s s' : Shared, Fin s → s'.os = s.os → AllBare s'.gens → (∀ b o, s.heap.get? b = some o → s'.heap.get? b = some o) → Fin s') :
    ∀ (n : Nat) (s : Shared), Waits prog w A.in1 gi a false End Fin n s →
      codeAny (model prog w) A (.builtin "all.loop" ⟨[.ref a], []⟩) (fun r s' => (r = .ok (.ret (.bool true)) ∧ End s') ∨ (r = .ok (.ret (.bool false)) ∧ Fin s')) s := by
  intro n
  induction n using Nat.strongRecOn with
  | ind n ih =>
    intro s W
    refine codeAny_builtin PySem.F.entry_all_loop ?_
    rw [Around.under_plainId PySem.F.plain_all_loop]
    show wpAny (model prog w) A.in1 (pyNext (.ref a) >>= _) _ _ s
    refine wpAny_bind (waits_next (A := A.in1) hh hroom hE hF W (fun s' e => ?_) (fun s' e => ?_) fun s' m hm W' => ?_)
    · exact wpAny_bind (wpAny_rule (wpAny_pure (.inl ⟨rfl, e⟩)))
    · refine wpAny_bind (wpAny_holding (wpAny_truthy_bool ?_))
      refine wpAny_bind (wpAny_letGo ?_)
      exact wpAny_bind (wpAny_rule (wpAny_pure (.inr ⟨rfl, e⟩)))
    · refine wpAny_bind (wpAny_holding (wpAny_truthy_bool ?_))
      refine wpAny_bind (wpAny_letGo ?_)
      exact wpAny_pure ⟨plainId_quiet PySem.F.plain_all_loop _, ih m hm s' W'⟩
end
/-! ### all(elt for target in iter) -/
/-- the reading: W by the turn and a measure; P: the def's table, which may grow -/
def tAll (P : Addr) (wi : TI) (g : TG) (te : TE) (vs : List Nat) : TE := fun σ H Q => wi σ H fun J H1 => GxR.TabG H1 P ∧ ∃ W : Nat → Nat → Hp → Prop, (∀ H2, GxR.Tabbed P H1 H2 → ∃ m, W 0 m H2) ∧ ∀ i m H, W i m H →
  (J.stop i H ∧ Q (.bl true) H) ∨ (J.go i H ∧ ∃ Nx : Hp → Prop, (∀ H', Nx H' → ∃ m', m' < m ∧ W (i + 1) m' H') ∧ ∀ x H', J.yld i H x H' → g x (wipe σ vs) H' fun σ2 H2 => wipe σ2 vs = wipe σ vs ∧
    te σ2 H2 fun y H3 => ∃ b, y = .bl b ∧ if b = true then Nx H3 else Q (.bl false) H3)
section
variable {X : Cx}
theorem pe_all {k : Nat} {c P : Addr} {elt tg iter : Expr} {scope : Scope} {own : List (Str × Nat)} {p pos gpos : Pos} {wi : TI} {g : TG} {te : TE}
    (hr : Room (k + 1) X.A) (TB : GxR.TabB X.base X.mg c P) (hcode : X.env.code = .ref c) (hc : X.calm = true) (hN : X.N.Nodup) (hG : Gl X "all") (hM : X.mg "all" = none) (hi : PI X tg iter wi) (ok : BlkOk X.N X.env.scope scope own) (gk : GnOk scope) (hdN : (".0" : Str) ∉ X.N)
    (hg : ∀ (s : Shared) (H : Hp) (A' : Around) (C : Addr) (cl : List (Str × Addr)) (code : Value) (fp : List Addr), PG (gX X s H A' (genEnv scope cl C code builtinsNs X.env) fp) tg g)
    (he : ∀ (s : Shared) (H : Hp) (A' : Around) (C : Addr) (cl : List (Str × Addr)) (code : Value) (fp : List Addr), Room k A' → PE (gX X s H A' (genEnv scope cl C code builtinsNs X.env) fp) elt te)
    (hs : ∀ v, genFold iter X.env v = pure v := by intro _; rfl)
    (hst : starEach [.GeneratorExp elt [⟨tg, iter, [], 0⟩] scope gpos] X.env = (false, eval (.GeneratorExp elt [⟨tg, iter, [], 0⟩] scope gpos) X.env) :: starEach [] X.env := by rfl) :
    PE X (.Call (.Name "all" p) [.GeneratorExp elt [⟨tg, iter, [], 0⟩] scope gpos] [] pos) (tAll P wi g te (own.map (·.2))) := by
  refine ⟨fun pins s σ H Q I h => ?_⟩
  have hh : X.A.handled = none := hr.hd
  refine wpAny_Call_Name_kw (ld_blt I hG hM PyProof.Rows.boot_all ?_)
  refine PyProof.Rows.callWith_builtin1 ?_ hst (by rfl)
  rw [hst]
  show wpAny _ _ (spliced ((false, eval (.GeneratorExp elt [⟨tg, iter, [], 0⟩] scope gpos) X.env) :: backTo pos (starEach [] X.env))) _ _ s
  have hfree : ∀ y ∈ scope.names, y.2 = .free → ∃ c, X.env.cells.lookup y.1 = some c := fun y hy e =>
    (ok.free y hy e).elim (fun k => I.ok.has _ (.inl k)) fun k => I.ok.has _ (.inr k)
  refine Calls.spliced_cons (wpAny_GeneratorExp_make gk.co (closure_ok hfree) gk.nocell gk.dot ok.kind (by have := hr.dp; omega) (thn (hi.run pins s σ H _ I h) fun xv s1 hx => thn hx fun itv s2 h2 => ?_) hs)
  obtain ⟨it, fp, tn, J, H2, e, I2, T, st2, f2, ⟨ps, hP, ht⟩, W, w0, turn⟩ := h2
  subst e
  refine ⟨I2.nolimit, ?_⟩
  have hPs : s2.heap.get? P = some { cls := .none, data := .fields ps } := I2.hok P _ hP
  have cd : PySem.W.CodeHd s2.heap c P := TB.code.keeps fun b u e => I2.bk b u e
  have sz2 : ∀ b ∈ fp, b < s2.heap.objs.size := fun b hb => by
    obtain ⟨o, e, _⟩ := T.obj _ _ st2 b hb
    exact Heap.lt_size e
  have nfP : ∀ b ∈ fp, b ≠ P := fun b hb z => by
    have q := (f2 b hb).1
    rw [z, hP] at q
    cases q
  -- behind the table
  have cont : ∀ (code : Value) (h3 : Heap) (tk : Nat) (more : Array Value), s2.heap.objs.size ≤ h3.objs.size → (∀ b o, b ≠ P → s2.heap.get? b = some o → h3.get? b = some o) → h3.get? P = some { cls := .none, data := .fields (ps ++ more) } → TriplesOk (ps ++ more).toList →
      wpAny (model X.prog X.w) X.A (builtinsFor X.env.globals X.env.builtins) (fun bi s4 => ∀ h', h'.Ns s4.heap.objs.size (fun y => if y = ".0" then some (.ref it) else none) → Heap.SameBut s4.heap.objs.size (s4.heap.push { cls := .type "frame", data := .dict #[] }) h' →
        wpAny (model X.prog X.w) X.A (spliced (backTo pos (starEach [] X.env))) (fun vs s5 => wpAny (model X.prog X.w) X.A (call (.builtin "all") (.ref h'.objs.size :: vs)) (EP X pins σ Q) X.xe s5) X.xe { s4 with
            gens := s4.gens.push (.fresh (.compStart (.GeneratorExp elt [⟨tg, iter, [], 0⟩] scope gpos) 0 (.ref it) .none (genEnv scope (cloFrom X.env.cells scope.names []) s4.heap.objs.size code bi X.env))), toks := s4.toks + 1 + 1 + 1,
            heap := h'.push { cls := .type "generator", data := .fields #[.int s4.gens.size 0, .str "<genexpr>" (s4.toks + 1), .str (X.env.qual ++ "<genexpr>") (s4.toks + 1 + 1)] } }) X.xe { s2 with heap := h3, toks := tk } := by
    intro code h3 tk more hle3 hk3 hP3 ht3
    have I3 : Inv X pins σ (upd H2 P (.tbl (ps ++ more))) { s2 with heap := h3, gens := s2.gens, drawn := s2.drawn, toks := tk } := GxR.inv_tab I2 hP hk3 hP3 I2.bare
    have tab3 : GxR.Tabbed P H2 (upd H2 P (.tbl (ps ++ more))) := ⟨⟨_, upd_same, ht3⟩, fun b hb => upd_ne hb⟩
    have st3 : tn 0 h3 := T.keep _ _ _ st2 fun b hb o e => hk3 b o (nfP b hb) e
    have f3 : ∀ b ∈ fp, FpOk X pins (upd H2 P (.tbl (ps ++ more))) b := fun b hb => ⟨by rw [upd_ne (nfP b hb)]; exact (f2 b hb).1, (f2 b hb).2⟩
    generalize upd H2 P (.tbl (ps ++ more)) = H3 at I3 tab3 f3
    obtain ⟨m0, hw0⟩ := w0 H3 tab3
    have sz3 : ∀ b ∈ fp, b < h3.objs.size := fun b hb => Nat.lt_of_lt_of_le (sz2 b hb) hle3
    have hs3 : ({ s2 with heap := h3, gens := s2.gens, drawn := s2.drawn, toks := tk } : Shared) = { s2 with heap := h3, toks := tk } := rfl
    rw [hs3] at I3
    generalize hsh : ({ s2 with heap := h3, toks := tk } : Shared) = s3 at I3 ⊢
    have eh : h3 = s3.heap := by rw [← hsh]
    rw [eh] at st3 sz3
    clear hsh hs3 eh hP3 hk3 hle3
    obtain ⟨bm, ob, e1, e2, e3, e4, e5, e6, e7, e8⟩ := TB.bm
    refine wpAny_builtinsFor (m := X.mg) (by rw [I3.ok.glob]; exact I3.mod.glob.keeps I3.bk) e1 e2 (I3.bk _ _ e5) e6 e7 e8 ?_
    intro h' hn' hs'
    refine Calls.spliced_nil ?_
    have hsz : h'.objs.size = s3.heap.objs.size + 1 := by rw [hs'.1, Heap.size_push]
    generalize hgo : ({ cls := .type "generator", data := .fields #[.int s3.gens.size 0, .str "<genexpr>" (s3.toks + 1), .str (X.env.qual ++ "<genexpr>") (s3.toks + 1 + 1)] } : Obj) = go
    have kp5 : ∀ b o, s3.heap.get? b = some o → (h'.push go).get? b = some o := fun b o e => Heap.get?_push_of_some _ (hs'.extBut b o (Nat.ne_of_lt (Heap.lt_size e)) (Heap.get?_push_of_some _ e))
    generalize hce : genEnv scope (cloFrom X.env.cells scope.names []) s3.heap.objs.size code builtinsNs X.env = ce
    have hhA : (X.A.in1.in1.over (.compLoop (.GeneratorExp elt [⟨tg, iter, [], 0⟩] scope gpos) 0 (.ref it) .none ce) []).handled = none := hh
    have hFr : (X.A.in1.in1.over (.compLoop (.GeneratorExp elt [⟨tg, iter, [], 0⟩] scope gpos) 0 (.ref it) .none ce) []).frames = some (ce :: X.stack) := by
      show pushEnvs [ce] (pushEnvs [] X.A.frames) = _
      rw [I3.ok.frames]
      rfl
    have hRm : Room k (X.A.in1.in1.over (.compLoop (.GeneratorExp elt [⟨tg, iter, [], 0⟩] scope gpos) 0 (.ref it) .none ce) []) := by
      have z1 := hr.dp
      have z2 := hr.un
      refine ⟨hhA, ?_, ?_⟩
      · show X.A.depth + 0 + 1 + 3 * k + 5 < recursionLimit
        omega
      · show X.A.units + 1 + 1 + 0 + 3 + 16 * k + 200 < cLine
        omega
    generalize hAg : X.A.in1.in1.over (.compLoop (.GeneratorExp elt [⟨tg, iter, [], 0⟩] scope gpos) 0 (.ref it) .none ce) [] = Ag at hhA hFr hRm
    have I5 : Inv (gX X s3 H3 Ag ce fp) [(h'.objs.size, go)] (wipe σ (own.map (·.2))) H3 { s3 with heap := h'.push go, gens := s3.gens.push (.fresh (.compStart (.GeneratorExp elt [⟨tg, iter, [], 0⟩] scope gpos) 0 (.ref it) .none ce)), toks := s3.toks + 1 + 1 + 1 } := by
      have q := gen_start (code := code) (A' := Ag) (h5 := h'.push go) (g5 := s3.gens.push (.fresh (.compStart (.GeneratorExp elt [⟨tg, iter, [], 0⟩] scope gpos) 0 (.ref it) .none ce))) (t5 := s3.toks + 1 + 1 + 1) (go := go) I3 ok gk hN (fun b hb => ⟨f3 b hb, sz3 b hb⟩) hhA (by rw [hce]; exact hFr) kp5 (hn'.push _)
        (fun x hx => if_neg hx) hdN (I3.bare.push rfl) (a := h'.objs.size) (by omega) (Heap.get?_push_size _ (by rw [← hgo]; rfl)) (by rw [← hgo]; intro v z; cases z)
      rw [hce] at q
      exact q
    have st5 : tn 0 (h'.push go) := T.keep _ _ _ st3 fun b _ o e => kp5 b o e
    have nfp : ∀ b ∈ fp, H3 b = none := fun b hb => (f3 b hb).1
    have pg := hg s3 H3 Ag s3.heap.objs.size (cloFrom X.env.cells scope.names []) code fp
    have pe := he s3 H3 Ag s3.heap.objs.size (cloFrom X.env.cells scope.names []) code fp hRm
    rw [hce] at pg pe
    have cCo : ce.scope.isCoroutine = false := by rw [← hce]; exact gk.co
    clear hn' hs' kp5 w0 hce
    -- back in the def's context
    have back : ∀ {σ' : L2.St} {H' : Hp} {s' : Shared} {pl : List (Addr × Obj)}, Inv (gX X s3 H3 Ag ce fp) pl σ' H' s' → Inv X pins σ H' s' := fun {σ' H' s' pl} J => I3.call' (ch := fp) J.os J.base J.hok J.bare fun b hb =>
      ⟨(f3 b hb).2.2.2.1, (f3 b hb).2.1, (f3 b hb).2.2.2.2.1, (f3 b hb).2.2.2.2.2⟩
    have stat : ∀ {σ' : L2.St} {H' : Hp} {s' : Shared}, Inv (gX X s3 H3 Ag ce fp) [(h'.objs.size, go)] σ' H' s' → (∀ b ∈ fp, H' b = none) → ∀ b ∈ fp, FpOk (gX X s3 H3 Ag ce fp) [(h'.objs.size, go)] H' b := fun {σ' H' s'} J hn b hb =>
      ⟨hn b hb, (J.ok.exf b hb).1, J.ok.exfs b hb, .inl hb, fun x c e => (J.ok.exf b hb).2 x c e, fun p hp => by
        have hp : p = (h'.objs.size, go) := by simpa using hp
        rw [hp]
        exact Nat.ne_of_gt (Nat.lt_trans (sz3 b hb) (by rw [hsz]; exact Nat.lt_succ_self _))⟩
    have gen : ∀ {σ' : L2.St} {H' : Hp} {s' : Shared} {pl : List (Addr × Obj)}, Inv (gX X s3 H3 Ag ce fp) ([(h'.objs.size, go)] ++ pl) σ' H' s' → s'.heap.IsGen h'.objs.size s3.gens.size := fun {σ' H' s' pl} J => by
      have q := (J.pin (h'.objs.size, go) (by simp)).1
      exact ⟨go, _, _, q, by rw [← hgo], by rw [← hgo], by rw [← hgo]⟩
    -- the turns
    have loop : ∀ (m n i : Nat) (s₀ s : Shared) (H : Hp), m < n → W i m H → Inv (gX X s3 H3 Ag ce fp) [(h'.objs.size, go)] (wipe σ (own.map (·.2))) H s → tn i s.heap → (∀ b ∈ fp, H b = none) → s3.gens.size + 1 ≤ s.gens.size →
        Seg (model X.prog X.w) X.A.in1.in1 (fun n s₀ r s₁ => r = .ok .next ∧ gR (fun s => ∃ H', Inv X pins σ H' s ∧ Q (.bl true) H') n s₀ s₁) (gY s3.gens.size h'.objs.size false fun s => ∃ H', Inv X pins σ H' s ∧ Q (.bl false) H') n s₀
          (.compLoop (.GeneratorExp elt [⟨tg, iter, [], 0⟩] scope gpos) 0 (.ref it) .none ce) ((model X.prog X.w).den (.compLoop (.GeneratorExp elt [⟨tg, iter, [], 0⟩] scope gpos) 0 (.ref it) .none ce)) [] s := by
      intro m
      induction m using Nat.strongRecOn with
      | ind m ih =>
        intro n i s₀ s H hmn w J st nf hz
        show Seg (model X.prog X.w) _ _ _ n s₀ _ ((compTurn (.GeneratorExp elt [⟨tg, iter, [], 0⟩] scope gpos) 0 (.ref it) .none ce).onRaise (leaving ce)) [] s
        rw [compTurn_gen]
        rw [Sem.onRaise_eq_wrap]
        refine seg_bind_wrap (wpAny_standAt (seg_bind_wrap ?_))
        rw [hAg]
        rcases turn i m H w with ⟨stp, qq⟩ | ⟨go', Nx, hNx, step⟩
        · refine thnF (T.done (gX X s3 H3 Ag ce fp) rfl rfl rfl hc i _ s _ H (fun _ _ => False) J (stat J nf) st stp) fun r s6 ⟨hr6, J6⟩ => ?_
          subst hr6
          exact seg_end (.ok .next) ⟨rfl, J6.bare, H, back J6, qq⟩
        · refine GenW.wpAny_gsz hz (thnF (T.item (gX X s3 H3 Ag ce fp) rfl rfl rfl hc i _ s _ H (fun _ _ => False) J (stat J nf) st go') fun r s6 ⟨u, hr6, h6⟩ hz6 => ?_)
          subst hr6
          refine seg_bind_wrap ?_
          rw [hAg]
          refine GenW.wpAny_gsz hz6 (thnF h6 fun _ s7 ⟨x, H7, J7, r7, y7, st7, n7⟩ hz7 => ?_)
          have J7' := J7.pinned (stat J7 n7) (T.obj _ _ st7)
          refine seg_bind_wrap ?_
          rw [hAg]
          refine GenW.wpAny_gsz hz7 (thnF (pg.run _ s7 _ H7 x u _ J7' r7 (step x H7 y7)) fun _ s8 ⟨σ8, H8, J8, hw8, q8⟩ hz8 => ?_)
          simp only [List.forIn_nil]
          refine seg_bind_wrap (wpAny_pure ?_)
          simp only [if_true]
          have hy : ∀ v, yieldOut ce v = yieldValue v := fun v => by simp only [yieldOut, cCo, Bool.false_eq_true, if_false]
          simp only [hy]
          rw [Sem.bind_eq_wrap', Sem.bind_eq_wrap']
          rw [Sem.wrap_wrap, Sem.wrap_wrap]
          refine seg_wrap ?_
          rw [hAg]
          refine GenW.wpAny_gsz hz8 (thnF (pe.run _ s8 σ8 H8 _ J8 q8) fun z s9 ⟨yv, H9, J9, r9, b, eb, qb⟩ hz9 => ?_)
          subst eb
          obtain rfl : z = Value.bool b := r9
          obtain ⟨n', rfl⟩ : ∃ n', n = n' + 1 := ⟨n - 1, by omega⟩
          refine seg_at (seg_yield rfl rfl rfl ⟨b, rfl, gen J9, J9.nolimit, J9.bare, hz9, fun e => ?_, fun e s' r => ?_⟩)
          · subst e
            exact ⟨H9, back J9, qb⟩
          · have e : b = true := by
              cases b with
              | true => rfl
              | false => exact absurd rfl e
            subst e
            rw [if_pos rfl] at qb
            obtain ⟨m', hm', w'⟩ := hNx H9 qb
            have pin' : ∀ b ∈ fp, ∀ o, s7.heap.get? b = some o → s9.heap.get? b = some o ∧ H9 b = none := fun b hb o e =>
              let z := J9.pin (b, o) (List.mem_append_right _ (List.mem_append_right _ (mem_pinsAt hb e)))
              ⟨z.1, z.2.1⟩
            have hl : (wipe σ (own.map (·.2))).length = σ8.length := by rw [← hw8, wipe_length]
            have K9 : Inv (gX X s3 H3 Ag ce fp) [(h'.objs.size, go)] (wipe σ (own.map (·.2))) H9 s9 := J9.unpinned.weak hl fun j v e => by
              rw [← hw8] at e
              exact (wipe_some e).1
            refine seg_again rfl (ih m' hm' n' (i + 1) s' s' H9 (by omega) w' (r.inv K9) ?_ (fun b hb => ?_) (Nat.le_trans hz9 r.size))
            · rw [r.heap]
              exact T.keep _ _ _ st7 fun b hb o e => (pin' b hb o e).1
            · obtain ⟨o, e, _⟩ := T.obj _ _ st7 b hb
              exact (pin' b hb o e).2
    have mono : ∀ (b : Bool) (s s' : Shared), (∃ H', Inv X pins σ H' s ∧ Q (.bl b) H') → s'.os = s.os → AllBare s'.gens → (∀ b o, s.heap.get? b = some o → s'.heap.get? b = some o) → ∃ H', Inv X pins σ H' s' ∧ Q (.bl b) H' := fun b s s' ⟨H', J, q⟩ h1 h2 h3 =>
      ⟨H', inv_gens (J.kept (t' := s'.toks) h3) rfl h1 h2, q⟩
    generalize hs5 : ({ s3 with heap := h'.push go, gens := s3.gens.push (.fresh (.compStart (.GeneratorExp elt [⟨tg, iter, [], 0⟩] scope gpos) 0 (.ref it) .none ce)), toks := s3.toks + 1 + 1 + 1 } : Shared) = s5 at I5
    have hg5 : s5.gens[s3.gens.size]? = some (.fresh (.compStart (.GeneratorExp elt [⟨tg, iter, [], 0⟩] scope gpos) 0 (.ref it) .none ce)) := by
      rw [← hs5]
      exact Array.getElem?_push_size ..
    have hz5 : s3.gens.size + 1 ≤ s5.gens.size := by
      rw [← hs5]
      exact Nat.le_of_eq (Array.size_push ..).symm
    have ht5 : tn 0 s5.heap := by rw [← hs5]; exact st5
    have wt : Waits X.prog X.w X.A.in1 s3.gens.size h'.objs.size false (fun s => ∃ H', Inv X pins σ H' s ∧ Q (.bl true) H') (fun s => ∃ H', Inv X pins σ H' s ∧ Q (.bl false) H') (m0 + 1) s5 := by
      refine ⟨gen (pl := []) I5, I5.nolimit, I5.bare, _, hg5, fun s' r => ⟨rfl, ?_⟩⟩
      have lp := loop m0 (m0 + 1) 0 s' s' H3 (Nat.lt_succ_self _) hw0 (r.inv I5) (by rw [r.heap]; exact ht5) nfp (Nat.le_trans hz5 r.size)
      show Seg (model X.prog X.w) _ _ _ _ s' _ ((compStart (.GeneratorExp elt [⟨tg, iter, [], 0⟩] scope gpos) 0 (.ref it) .none ce).onRaise (leaving ce)) [] s'
      unfold compStart
      rw [Sem.onRaise_eq_wrap]
      show Seg (model X.prog X.w) _ _ _ _ s' _ ((ask >>= _).wrap _ _ _ _) [] s'
      refine seg_bind_wrap (wpAny_askSetting ?_)
      have ts : tn 0 s'.heap := by rw [r.heap]; exact ht5
      split
      · exact seg_again rfl lp
      · first
          | exact seg_bind_wrap (wpAny_rule (seg_bind_wrap (wpAny_standAt (seg_bind_wrap (T.self _ 0 s' _ _ ts (seg_again rfl lp))))))
          | (refine seg_bind_wrap (wpAny_rule ?_); show Seg (model X.prog X.w) _ _ _ _ s' _ ((standAt iter.pos >>= _).wrap _ _ _ _) [] s'; exact seg_bind_wrap (wpAny_standAt (seg_bind_wrap (T.self _ 0 s' _ _ ts (seg_again rfl lp)))))
    refine call_function_tree PySem.F.kind_all PySem.F.plain_all PySem.F.entry_all (PySem.F.args_all1 _) ?_
    unfold Builtin.«all»
    refine wpAny_bind (m := oneArg "all" _) (wpAny_pure ?_)
    refine wpAny_bind (wpAny_pyIter_gen (gen (pl := []) I5) ?_)
    refine wpAny_pure ⟨plainId_quiet PySem.F.plain_all_loop _, codeAny_mono (all_loop hh hr.depth (mono true) (mono false) (m0 + 1) s5 wt) fun r s' hq => ?_⟩
    rcases hq with ⟨rfl, H', J, q⟩ | ⟨rfl, H', J, q⟩
    · exact ⟨.bl true, H', J, rfl, q⟩
    · exact ⟨.bl false, H', J, rfl, q⟩
  cases hf : codeAmong gpos ps.toList with
  | none =>
    refine wpAny_genexprCodeX hcode (cd.code hPs ht) (cd.tab hPs) hf fun c' h' tk hx hge hlt hco' _ htab' _ => ?_
    obtain ⟨o1, vs, f1, tf, fl, tg1, inF, tx, tt, op, _, _, _, _, _, _, _, _, _, htr, _⟩ := hco'
    exact cont _ h' tk _ (Nat.le_trans hge (Nat.le_of_lt hlt)) (fun b o hb e => hx b o hb e) htab'.2 htr
  | some cv =>
    refine wpAny_genexprCode_hit hcode (cd.code hPs ht) hf ?_
    have := cont cv s2.heap s2.toks #[] (Nat.le_refl _) (fun _ _ _ e => e) (by rw [hPs]; simp) (by simpa using ht)
    exact this
end
def topS (i : Nat) : Stmt := PySem.Challenge.pw_friendfoe_k61_no_flat_papers.main.body.getD i (.Pass ⟨0, 0, 0, 0⟩)
abbrev s_neighbours : Stmt := topS 4
abbrev N_neighbours : List Str := ["web", "many", "ties", "around", "place", "one", "other", "kind"]
theorem sc_neighbours : FnScope N_neighbours ["web"] (defScope s_neighbours) := ⟨rfl, rfl, rfl, by decide +kernel, rfl, by decide +kernel, by decide +kernel⟩
abbrev s_sides_from : Stmt := topS 5
abbrev N_sides_from : List Str := ["start", "around", "sides", "waiting", "place", "other", "kind"]
theorem sc_sides_from : FnScope N_sides_from ["start", "around"] (defScope s_sides_from) := ⟨rfl, rfl, rfl, by decide +kernel, rfl, by decide +kernel, by decide +kernel⟩
abbrev s_parts_of : Stmt := topS 6
abbrev N_parts_of : List Str := ["web", "around", "parts", "placed", "start", "part"]
theorem sc_parts_of : FnScope N_parts_of ["web"] (defScope s_parts_of) := ⟨rfl, rfl, rfl, by decide +kernel, rfl, by decide +kernel, by decide +kernel⟩
abbrev s_ties_within : Stmt := topS 7
abbrev N_ties_within : List Str := ["web", "part", "number", "tie"]
theorem sc_ties_within : FnScope N_ties_within ["web", "part"] (defScope s_ties_within) := ⟨rfl, rfl, rfl, by decide +kernel, rfl, by decide +kernel, by decide +kernel⟩
abbrev s_is_whole : Stmt := topS 9
abbrev N_is_whole : List Str := ["thing"]
theorem sc_is_whole : FnScope N_is_whole ["thing"] (defScope s_is_whole) := ⟨rfl, rfl, rfl, by decide +kernel, rfl, by decide +kernel, by decide +kernel⟩
abbrev s_is_whole_from : Stmt := topS 10
abbrev N_is_whole_from : List Str := ["low", "thing"]
theorem sc_is_whole_from : FnScope N_is_whole_from ["low", "thing"] (defScope s_is_whole_from) := ⟨rfl, rfl, rfl, by decide +kernel, rfl, by decide +kernel, by decide +kernel⟩
abbrev s_is_whole_below : Stmt := topS 11
abbrev N_is_whole_below : List Str := ["limit", "thing"]
theorem sc_is_whole_below : FnScope N_is_whole_below ["limit", "thing"] (defScope s_is_whole_below) := ⟨rfl, rfl, rfl, by decide +kernel, rfl, by decide +kernel, by decide +kernel⟩
abbrev s_is_tuple_of : Stmt := topS 12
abbrev N_is_tuple_of : List Str := ["length", "thing"]
theorem sc_is_tuple_of : FnScope N_is_tuple_of ["length", "thing"] (defScope s_is_tuple_of) := ⟨rfl, rfl, rfl, by decide +kernel, rfl, by decide +kernel, by decide +kernel⟩
abbrev s_are_rising_below : Stmt := topS 13
abbrev N_are_rising_below : List Str := ["limit", "thing", "number", "following"]
theorem sc_are_rising_below : FnScope N_are_rising_below ["limit", "thing"] (defScope s_are_rising_below) := ⟨rfl, rfl, rfl, by decide +kernel, rfl, by decide +kernel, by decide +kernel⟩
abbrev s_steps_behind : Stmt := topS 15
abbrev N_steps_behind : List Str := ["web", "orders", "behind", "place", "row", "tie", "following", "one", "other", "kind"]
theorem sc_steps_behind : FnScope N_steps_behind ["web", "orders"] (defScope s_steps_behind) := ⟨rfl, rfl, rfl, by decide +kernel, rfl, by decide +kernel, by decide +kernel⟩
abbrev s_face_from : Stmt := topS 16
abbrev N_face_from : List Str := ["first", "behind", "face"]
theorem sc_face_from : FnScope N_face_from ["first", "behind"] (defScope s_face_from) := ⟨rfl, rfl, rfl, by decide +kernel, rfl, by decide +kernel, by decide +kernel⟩
abbrev s_faces_of : Stmt := topS 17
abbrev N_faces_of : List Str := ["web", "orders", "behind", "faces", "placed", "step", "face", "other"]
theorem sc_faces_of : FnScope N_faces_of ["web", "orders"] (defScope s_faces_of) := ⟨rfl, rfl, rfl, by decide +kernel, rfl, by decide +kernel, by decide +kernel⟩
abbrev s_are_flat_faces : Stmt := topS 18
abbrev N_are_flat_faces : List Str := ["web", "faces", "part", "ties", "own", "face"]
theorem sc_are_flat_faces : FnScope N_are_flat_faces ["web", "faces"] (defScope s_are_flat_faces) := ⟨rfl, rfl, rfl, by decide +kernel, rfl, by decide +kernel, by decide +kernel⟩
abbrev s_flat_faces : Stmt := topS 19
abbrev N_flat_faces : List Str := ["web", "orders", "faces"]
theorem sc_flat_faces : FnScope N_flat_faces ["web", "orders"] (defScope s_flat_faces) := ⟨rfl, rfl, rfl, by decide +kernel, rfl, by decide +kernel, by decide +kernel⟩
abbrev s_odd_among : Stmt := topS 20
abbrev N_odd_among : List Str := ["web", "faces", "foes", "tie", "place", "face", "number", "many"]
theorem sc_odd_among : FnScope N_odd_among ["web", "faces"] (defScope s_odd_among) := ⟨rfl, rfl, rfl, by decide +kernel, rfl, by decide +kernel, by decide +kernel⟩
abbrev s_faces_beside : Stmt := topS 21
abbrev N_faces_beside : List Str := ["web", "faces", "found", "number", "face", "step", "tie", "one", "other", "kind"]
theorem sc_faces_beside : FnScope N_faces_beside ["web", "faces"] (defScope s_faces_beside) := ⟨rfl, rfl, rfl, by decide +kernel, rfl, by decide +kernel, by decide +kernel⟩
abbrev s_weight_of : Stmt := topS 23
abbrev N_weight_of : List Str := ["weights", "tie"]
theorem sc_weight_of : FnScope N_weight_of ["weights", "tie"] (defScope s_weight_of) := ⟨rfl, rfl, rfl, by decide +kernel, rfl, by decide +kernel, by decide +kernel⟩
abbrev s_even_choices : Stmt := topS 26
abbrev N_even_choices : List Str := ["faces", "choices", "face", "choice"]
theorem sc_even_choices : FnScope N_even_choices ["faces"] (defScope s_even_choices) := ⟨rfl, rfl, rfl, by decide +kernel, rfl, by decide +kernel, by decide +kernel⟩
abbrev s_without_pair : Stmt := topS 27
abbrev N_without_pair : List Str := ["choice", "other", "face"]
theorem sc_without_pair : FnScope N_without_pair ["choice", "other"] (defScope s_without_pair) := ⟨rfl, rfl, rfl, by decide +kernel, rfl, by decide +kernel, by decide +kernel⟩
abbrev s_layer_holds : Stmt := topS 28
abbrev N_layer_holds : List Str := ["start", "gaps", "many", "thing", "number", "one", "other", "most"]
theorem sc_layer_holds : FnScope N_layer_holds ["start", "gaps", "many", "thing"] (defScope s_layer_holds) := ⟨rfl, rfl, rfl, by decide +kernel, rfl, by decide +kernel, by decide +kernel⟩
abbrev s_is_table : Stmt := topS 29
abbrev N_is_table : List Str := ["choices", "many", "thing", "row"]
theorem sc_is_table : FnScope N_is_table ["choices", "many", "thing"] (defScope s_is_table) := ⟨rfl, rfl, rfl, by decide +kernel, rfl, by decide +kernel, by decide +kernel⟩
abbrev s_row_holds : Stmt := topS 30
abbrev N_row_holds : List Str := ["choice", "layers", "numbers", "layer", "other"]
theorem sc_row_holds : FnScope N_row_holds ["choice", "layers", "numbers"] (defScope s_row_holds) := ⟨rfl, rfl, rfl, by decide +kernel, rfl, by decide +kernel, by decide +kernel⟩
abbrev s_number_shown : Stmt := topS 31
abbrev N_number_shown : List Str := ["odd", "many", "gaps", "thing", "choices", "layers", "table", "face", "layer", "numbers", "choice", "number", "by_face"]
theorem sc_number_shown : FnScope N_number_shown ["odd", "many", "gaps", "thing"] (defScope s_number_shown) := ⟨rfl, rfl, rfl, by decide +kernel, rfl, by decide +kernel, by decide +kernel⟩
abbrev s_flat_paper_holds : Stmt := topS 32
abbrev N_flat_paper_holds : List Str := ["web", "orders", "weights", "number", "thing", "faces", "odd", "gaps", "tie", "one", "other", "shown"]
theorem sc_flat_paper_holds : FnScope N_flat_paper_holds ["web", "orders", "weights", "number", "thing"] (defScope s_flat_paper_holds) := ⟨rfl, rfl, rfl, by decide +kernel, rfl, by decide +kernel, by decide +kernel⟩
abbrev s_l_mixed : Stmt := topS 34
abbrev N_l_mixed : List Str := ["_law_number"]
theorem sc_l_mixed : FnScope N_l_mixed ["_law_number"] (defScope s_l_mixed) := ⟨rfl, rfl, rfl, by decide +kernel, rfl, by decide +kernel, by decide +kernel⟩
abbrev s_l_deck : Stmt := topS 35
abbrev N_l_deck : List Str := ["_law_script", "_law_deck_here", "_law_last", "_law_k"]
theorem sc_l_deck : FnScope N_l_deck ["_law_script"] (defScope s_l_deck) := ⟨rfl, rfl, rfl, by decide +kernel, rfl, by decide +kernel, by decide +kernel⟩
abbrev s_l_take : Stmt := topS 36
abbrev N_l_take : List Str := ["_law_deck_here", "_law_most", "_law_cell"]
theorem sc_l_take : FnScope N_l_take ["_law_deck_here", "_law_most"] (defScope s_l_take) := ⟨rfl, rfl, rfl, by decide +kernel, rfl, by decide +kernel, by decide +kernel⟩
abbrev s_l_corners : Stmt := topS 37
abbrev N_l_corners : List Str := ["_law_ties", "_law_orders", "_law_place", "_law_at", "_law_found", "_law_here", "_law_k", "_law_tie", "_law_there"]
theorem sc_l_corners : FnScope N_l_corners ["_law_ties", "_law_orders", "_law_place", "_law_at"] (defScope s_l_corners) := ⟨rfl, rfl, rfl, by decide +kernel, rfl, by decide +kernel, by decide +kernel⟩
abbrev s_l_grown : Stmt := topS 38
abbrev N_l_grown : List Str := ["_law_deck_here", "_law_most", "_law_many_ties", "_law_orders", "_law_ties", "_law_k", "_law_way", "_law_place", "_law_at", "_law_others", "_law_corner", "_law_other", "_law_there"]
theorem sc_l_grown : FnScope N_l_grown ["_law_deck_here", "_law_most", "_law_many_ties"] (defScope s_l_grown) := ⟨rfl, rfl, rfl, by decide +kernel, rfl, by decide +kernel, by decide +kernel⟩
abbrev s_l_turned : Stmt := topS 39
abbrev N_l_turned : List Str := ["_law_deck_here", "_law_orders", "_law_found", "_law_order", "_law_at"]
theorem sc_l_turned : FnScope N_l_turned ["_law_deck_here", "_law_orders"] (defScope s_l_turned) := ⟨rfl, rfl, rfl, by decide +kernel, rfl, by decide +kernel, by decide +kernel⟩
abbrev s_l_web : Stmt := topS 40
abbrev N_l_web : List Str := ["_law_deck_here", "_law_ties", "_law_places", "_law_found", "_law_one", "_law_other", "_law_kind"]
theorem sc_l_web : FnScope N_l_web ["_law_deck_here", "_law_ties", "_law_places"] (defScope s_l_web) := ⟨rfl, rfl, rfl, by decide +kernel, rfl, by decide +kernel, by decide +kernel⟩
abbrev s_l_behind : Stmt := topS 41
abbrev N_l_behind : List Str := ["_law_web_here", "_law_orders", "_law_step", "_law_one", "_law_other", "_law_kind", "_law_place", "_law_order", "_law_k"]
theorem sc_l_behind : FnScope N_l_behind ["_law_web_here", "_law_orders", "_law_step"] (defScope s_l_behind) := ⟨rfl, rfl, rfl, by decide +kernel, rfl, by decide +kernel, by decide +kernel⟩
abbrev s_l_due : Stmt := topS 42
abbrev N_l_due : List Str := ["_law_web_here", "_law_orders", "_law_steps", "_law_number", "_law_tie", "_law_known", "_law_faces", "_law_step", "_law_face", "_law_here", "_law_k"]
theorem sc_l_due : FnScope N_l_due ["_law_web_here", "_law_orders"] (defScope s_l_due) := ⟨rfl, rfl, rfl, by decide +kernel, rfl, by decide +kernel, by decide +kernel⟩
abbrev s_l_turned_at : Stmt := topS 43
abbrev N_l_turned_at : List Str := ["_law_web_here", "_law_place", "_law_found", "_law_one", "_law_other", "_law_kind"]
theorem sc_l_turned_at : FnScope N_l_turned_at ["_law_web_here", "_law_place"] (defScope s_l_turned_at) := ⟨rfl, rfl, rfl, by decide +kernel, rfl, by decide +kernel, by decide +kernel⟩
abbrev s_l_odd : Stmt := topS 44
abbrev N_l_odd : List Str := ["_law_web_here", "_law_orders", "_law_found", "_law_number", "_law_face", "_law_foes", "_law_tie", "_law_place"]
theorem sc_l_odd : FnScope N_l_odd ["_law_web_here", "_law_orders"] (defScope s_l_odd) := ⟨rfl, rfl, rfl, by decide +kernel, rfl, by decide +kernel, by decide +kernel⟩
abbrev s_l_weights : Stmt := topS 45
abbrev N_l_weights : List Str := ["_law_deck_here", "_law_web_here", "_law_way", "_law_most", "_law_tie"]
theorem sc_l_weights : FnScope N_l_weights ["_law_deck_here", "_law_web_here"] (defScope s_l_weights) := ⟨rfl, rfl, rfl, by decide +kernel, rfl, by decide +kernel, by decide +kernel⟩
abbrev s_l_few_foes : Stmt := topS 46
abbrev N_l_few_foes : List Str := ["_law_deck_here", "_law_web_here", "_law_foes", "_law_k", "_law_found", "_law_number", "_law_one", "_law_other", "_law_kind"]
theorem sc_l_few_foes : FnScope N_l_few_foes ["_law_deck_here", "_law_web_here"] (defScope s_l_few_foes) := ⟨rfl, rfl, rfl, by decide +kernel, rfl, by decide +kernel, by decide +kernel⟩
abbrev s_l_whole : Stmt := topS 47
abbrev N_l_whole : List Str := ["_law_thing"]
theorem sc_l_whole : FnScope N_l_whole ["_law_thing"] (defScope s_l_whole) := ⟨rfl, rfl, rfl, by decide +kernel, rfl, by decide +kernel, by decide +kernel⟩
abbrev s_l_weight_at : Stmt := topS 48
abbrev N_l_weight_at : List Str := ["_law_weights_here", "_law_number"]
theorem sc_l_weight_at : FnScope N_l_weight_at ["_law_weights_here", "_law_number"] (defScope s_l_weight_at) := ⟨rfl, rfl, rfl, by decide +kernel, rfl, by decide +kernel, by decide +kernel⟩
abbrev s_l_where : Stmt := topS 49
abbrev N_l_where : List Str := ["_law_web_here", "_law_orders", "_law_found", "_law_number", "_law_face", "_law_step"]
theorem sc_l_where : FnScope N_l_where ["_law_web_here", "_law_orders"] (defScope s_l_where) := ⟨rfl, rfl, rfl, by decide +kernel, rfl, by decide +kernel, by decide +kernel⟩
abbrev s_l_layers_are : Stmt := topS 50
abbrev N_l_layers_are : List Str := ["_law_web_here", "_law_orders", "_law_weights_here", "_law_odd_here", "_law_thing", "_law_where_here", "_law_many", "_law_face", "_law_layer", "_law_one", "_law_number", "_law_tie", "_law_here", "_law_there"]
theorem sc_l_layers_are : FnScope N_l_layers_are ["_law_web_here", "_law_orders", "_law_weights_here", "_law_odd_here", "_law_thing"] (defScope s_l_layers_are) := ⟨rfl, rfl, rfl, by decide +kernel, rfl, by decide +kernel, by decide +kernel⟩
abbrev s_l_choices : Stmt := topS 51
abbrev N_l_choices : List Str := ["_law_odd_here", "_law_found", "_law_number", "_law_choice", "_law_k", "_law_face"]
theorem sc_l_choices : FnScope N_l_choices ["_law_odd_here"] (defScope s_l_choices) := ⟨rfl, rfl, rfl, by decide +kernel, rfl, by decide +kernel, by decide +kernel⟩
abbrev s_l_table_is : Stmt := topS 52
abbrev N_l_table_is : List Str := ["_law_odd_here", "_law_layers", "_law_thing", "_law_choices_here", "_law_known", "_law_choice", "_law_row", "_law_one", "_law_layer", "_law_face"]
theorem sc_l_table_is : FnScope N_l_table_is ["_law_odd_here", "_law_layers", "_law_thing"] (defScope s_l_table_is) := ⟨rfl, rfl, rfl, by decide +kernel, rfl, by decide +kernel, by decide +kernel⟩
abbrev s_l_is_paper : Stmt := topS 53
abbrev N_l_is_paper : List Str := ["_law_web_here", "_law_orders", "_law_weights_here", "_law_number", "_law_thing", "_law_odd_here", "_law_known"]
theorem sc_l_is_paper : FnScope N_l_is_paper ["_law_web_here", "_law_orders", "_law_weights_here", "_law_number", "_law_thing"] (defScope s_l_is_paper) := ⟨rfl, rfl, rfl, by decide +kernel, rfl, by decide +kernel, by decide +kernel⟩
abbrev s_l_side_by_side : Stmt := topS 54
abbrev N_l_side_by_side : List Str := ["_law_deck_here", "_law_many", "_law_unlike", "_law_kinds", "_law_ties", "_law_k"]
theorem sc_l_side_by_side : FnScope N_l_side_by_side ["_law_deck_here"] (defScope s_l_side_by_side) := ⟨rfl, rfl, rfl, by decide +kernel, rfl, by decide +kernel, by decide +kernel⟩
abbrev s_l_plain : Stmt := topS 55
abbrev N_l_plain : List Str := ["_law_odd_here", "_law_many", "_law_choice"]
theorem sc_l_plain : FnScope N_l_plain ["_law_odd_here", "_law_many"] (defScope s_l_plain) := ⟨rfl, rfl, rfl, by decide +kernel, rfl, by decide +kernel, by decide +kernel⟩
abbrev s_l_things : Stmt := topS 56
abbrev N_l_things : List Str := ["_law_odd_here", "_law_many", "_law_some", "_law_layers", "_law_table"]
theorem sc_l_things : FnScope N_l_things ["_law_odd_here", "_law_many"] (defScope s_l_things) := ⟨rfl, rfl, rfl, by decide +kernel, rfl, by decide +kernel, by decide +kernel⟩
abbrev s_l_right : Stmt := topS 57
abbrev N_l_right : List Str := ["_law_web_here", "_law_orders", "_law_weights_here", "_law_odd_here", "_law_thing", "_law_number", "_law_found", "_law_due_here"]
theorem sc_l_right : FnScope N_l_right ["_law_web_here", "_law_orders", "_law_weights_here"] (defScope s_l_right) := ⟨rfl, rfl, rfl, by decide +kernel, rfl, by decide +kernel, by decide +kernel⟩
abbrev s_law : Stmt := topS 58
abbrev N_law : List Str := ["_law_script", "_law_deck_here", "_law_turn", "_law_web_here", "_law_orders", "_law_order", "_law_weights_here", "_law_ties"]
theorem sc_law : FnScope N_law ["_law_script"] (defScope s_law) := ⟨rfl, rfl, rfl, by decide +kernel, rfl, by decide +kernel, by decide +kernel⟩
/-! ### own rules: a list against [] -/
section
variable {X : Cx}
def rEqE (K : PySem.W.Frag) : R2 := fun x y H Q => ∃ (a b : Addr) (xs : List V), x = .ref a ∧ y = .ref b ∧ SqL K H a xs ∧ SqL K H b [] ∧ Q (.bl xs.isEmpty) H
def rNeE (K : PySem.W.Frag) : R2 := fun x y H Q => ∃ (a b : Addr) (xs : List V), x = .ref a ∧ y = .ref b ∧ SqL K H a xs ∧ SqL K H b [] ∧ Q (.bl (!xs.isEmpty)) H
theorem op_eqE (hu : X.A.units < cLine) : OpR X (compareOp .Eq) (rEqE X.K) := by
  intro pins s σ H x y v u Q I rx ry h
  obtain ⟨a, b, xs, rfl, rfl, ha, hb, q⟩ := h
  obtain rfl : v = Value.ref a := rx
  obtain rfl : u = Value.ref b := ry
  obtain ⟨its, r1, p1, _⟩ := I.list ha
  obtain ⟨its2, r2, p2, _⟩ := I.list hb
  cases r2
  cases xs with
  | nil =>
    cases r1
    exact SeqAt.eq_listAt (e := fun _ => true) p1.isList p2.isList rfl hu (fun j h1 _ => absurd h1 (by simp)) ⟨.bl true, H, I, rfl, q⟩
  | cons z zs =>
    cases r1 with
    | cons r t => exact SeqAt.eq_list_lengthsAt p1.isList p2.isList (by simp) hu ⟨.bl false, H, I, rfl, q⟩
theorem op_neE (hu : X.A.units < cLine) : OpR X (compareOp .NotEq) (rNeE X.K) := by
  intro pins s σ H x y v u Q I rx ry h
  obtain ⟨a, b, xs, rfl, rfl, ha, hb, q⟩ := h
  obtain rfl : v = Value.ref a := rx
  obtain rfl : u = Value.ref b := ry
  obtain ⟨its, r1, p1, _⟩ := I.list ha
  obtain ⟨its2, r2, p2, _⟩ := I.list hb
  cases r2
  cases xs with
  | nil =>
    cases r1
    exact SeqAt.RcNeAt.lists (e := fun _ => true) p1.isList p2.isList rfl hu (fun j h1 _ => absurd h1 (by simp)) _ _ _ _ ⟨.bl false, H, I, rfl, q⟩
  | cons z zs =>
    cases r1 with
    | cons r t => exact SeqAt.RcNeAt.lists_lengths p1.isList p2.isList (by simp) hu _ _ _ _ ⟨.bl true, H, I, rfl, q⟩
end
section
variable {P : Program} {w : World} {K : PySem.W.Frag} {mg : Str → Option Value} {base : Heap}
/-! ### webs -/
structure Tie where
  one : Int
  other : Int
  foe : Bool
def kindS : Bool → Str
  | true => "foe"
  | false => "friend"
def TieV (H : Hp) (v : V) (t : Tie) : Prop := ∃ a, v = .ref a ∧ H a = some (.tup [.int t.one, .int t.other, .str (kindS t.foe)])
def TieOk (n : Int) (t : Tie) : Prop := 0 ≤ t.one ∧ t.one < n ∧ 0 ≤ t.other ∧ t.other < n ∧ t.one ≠ t.other
def WebAt (H : Hp) (v : V) (n : Int) (ts : List Tie) : Prop := ∃ a b vs, v = .ref a ∧ H a = some (.tup [.int n, .ref b]) ∧ H b = some (.tup vs) ∧ Paired (TieV H) vs ts
structure WebOk (n : Int) (ts : List Tie) : Prop where
  lo : 1 ≤ n
  hi : n ≤ 40
  few : ts.length ≤ 120
  ok : ∀ t ∈ ts, TieOk n t
/-- tuples stay -/
def Tk (H H' : Hp) : Prop := ∀ b xs, H b = some (.tup xs) → H' b = some (.tup xs)
theorem Tk.trans {H H1 H2 : Hp} (a : Tk H H1) (b : Tk H1 H2) : Tk H H2 := fun x xs h => b x xs (a x xs h)
theorem Same.tk {H H' : Hp} (s : Same H H') : Tk H H' := fun b xs h => s b _ h
theorem tk_lst {H : Hp} {l : Addr} {xs ys : List V} (h : H l = some (.lst xs)) : Tk H (upd H l (.lst ys)) := fun b zs e => by
  rw [upd_ne (ne_of e h (by intro z; cases z))]
  exact e
theorem TieV.tk {H H' : Hp} (k : Tk H H') {v : V} {t : Tie} (h : TieV H v t) : TieV H' v t := by
  obtain ⟨a, rfl, e⟩ := h
  exact ⟨a, rfl, k _ _ e⟩
theorem ties_tk {H H' : Hp} (k : Tk H H') {vs : List V} {ts : List Tie} (h : Paired (TieV H) vs ts) : Paired (TieV H') vs ts := Paired.mono (fun _ _ x => x.tk k) h
theorem WebAt.tk {H H' : Hp} (k : Tk H H') {v : V} {n : Int} {ts : List Tie} (h : WebAt H v n ts) : WebAt H' v n ts := by
  obtain ⟨a, b, vs, rfl, h1, h2, h3⟩ := h
  exact ⟨a, b, vs, rfl, k _ _ h1, k _ _ h2, ties_tk k h3⟩
theorem Kp.mut {d c l : Addr} {H H' : Hp} {o : HO} (k : Kp d c H H') (h : H l = none) : Kp d c H (upd H' l o) := fun b u h1 h2 e => by
  rw [upd_ne (ne_of_none e h)]
  exact k b u h1 h2 e
theorem Paired.at {α β : Type} {F : α → β → Prop} : ∀ {l : List α} {m : List β} {i : Nat} {a : α}, Paired F l m → l[i]? = some a → ∃ b, m[i]? = some b ∧ F a b
  | _, _, _, _, .nil, e => by simp at e
  | _, _, 0, _, .cons r _, e => by simp at e; subst e; exact ⟨_, rfl, r⟩
  | _, _, i + 1, a, .cons _ t, e => by
    obtain ⟨u, h1, h2⟩ := Paired.at (i := i) (a := a) t (by simpa using e)
    exact ⟨u, by simpa using h1, h2⟩
theorem Paired.at' {α β : Type} {F : α → β → Prop} : ∀ {l : List α} {m : List β} {i : Nat} {b : β}, Paired F l m → m[i]? = some b → ∃ a, l[i]? = some a ∧ F a b
  | _, _, _, _, .nil, e => by simp at e
  | _, _, 0, _, .cons r _, e => by simp at e; subst e; exact ⟨_, rfl, r⟩
  | _, _, i + 1, b, .cons _ t, e => by
    obtain ⟨u, h1, h2⟩ := Paired.at' (i := i) (b := b) t (by simpa using e)
    exact ⟨u, by simpa using h1, h2⟩
theorem getI {α : Type} {xs : List α} {i : Int} (h0 : 0 ≤ i) (h1 : i < (xs.length : Int)) : ∃ v, atI xs i = some v ∧ xs[i.toNat]? = some v := by
  obtain ⟨j, rfl⟩ : ∃ j : Nat, i = (j : Int) := ⟨i.toNat, by omega⟩
  have h2 : j < xs.length := by omega
  exact ⟨xs[j], atI_nat (List.getElem?_eq_getElem h2), by rw [Int.toNat_natCast]; exact List.getElem?_eq_getElem h2⟩
theorem other_ne {n a b : Int} (h0 : 0 ≤ a) (h1 : a < n) (g0 : 0 ≤ b) (g1 : b < n - 1) : a ≠ (a + 1 + b) % n := by
  by_cases h : a + 1 + b < n
  · rw [Int.emod_eq_of_lt (by omega) h]
    omega
  · have e : a + 1 + b = (a + 1 + b - n) + 1 * n := by omega
    rw [e, Int.add_mul_emod_self_right, Int.emod_eq_of_lt (by omega) (by omega)]
    omega
theorem pick2 {α : Type} (a b : α) (k : Bool) : atI [a, b] (if k then 1 else 0) = some (if k then b else a) := by
  cases k <;> rfl
theorem Kp.free {d c l : Addr} {H H' : Hp} (k : Kp d c H H') (h : H' l = none) (h1 : l ≠ d) (h2 : l ≠ c) : H l = none := by
  cases e : H l with
  | none => rfl
  | some o =>
    rw [k l o h1 h2 e] at h
    cases h
theorem atI_of {xs : List V} {i : Int} {v : V} (h0 : 0 ≤ i) (e : xs[i.toNat]? = some v) : atI xs i = some v := by
  obtain ⟨j, rfl⟩ : ∃ j : Nat, i = (j : Int) := ⟨i.toNat, by omega⟩
  exact atI_nat (by rw [Int.toNat_natCast] at e; exact e)
theorem atI_ints {xs : List Int} {i : Int} (h0 : 0 ≤ i) (h1 : i < xs.length) : ∃ x ∈ xs, xs[i.toNat]? = some x ∧ atI (xs.map V.int) i = some (.int x) := by
  have h : i.toNat < xs.length := by omega
  exact ⟨xs[i.toNat], List.getElem_mem h, List.getElem?_eq_getElem h, atI_of h0 (by rw [List.getElem?_map, List.getElem?_eq_getElem h]; rfl)⟩
end
/-! ### tuples cut and put together -/
section
variable {X : Cx}
theorem cutV_whole {xs : List V} {lo hi : Option Int} (h : HT.sIx xs.length 0 lo = 0 ∧ HT.sIx xs.length xs.length hi = xs.length) : cutV xs lo hi = xs := by
  unfold cutV
  rw [h.1, h.2]
  simp
def rSlU : V → Option Int → Option Int → Hp → VK → Prop := fun x lo hi H Q => ∃ a xs, x = .ref a ∧ H a = some (.tup xs) ∧ ∀ r H', Same H H' → H' r = some (.tup (cutV xs lo hi)) → Q (.ref r) H'
theorem sl_tupU : SlR X rSlU := by
  intro pins s σ H x v vl vu lo hi sl Q I rx hs pl pu h
  obtain ⟨a, xs, rfl, hx, q⟩ := h
  refine sl_tupA pins s σ H _ v vl vu lo hi sl Q I rx hs pl pu ⟨a, xs, rfl, SqT.of hx, fun hw => ?_, fun _ p np => ?_⟩
  · exact q a H (Same.refl H) (by rw [cutV_whole hw]; exact hx)
  · exact q p _ (same_new np) upd_same
def rCatU : R2 := fun x y H Q => ∃ a b xs ys, x = .ref a ∧ y = .ref b ∧ H a = some (.tup xs) ∧ H b = some (.tup ys) ∧ xs.length + ys.length ≤ 100000 ∧ ∀ r H', Same H H' → H' r = some (.tup (xs ++ ys)) → Q (.ref r) H'
theorem op_catU : OpR X (binaryOp .Add) rCatU := by
  intro pins s σ H x y v u Q I rx ry h
  obtain ⟨a, b, xs, ys, rfl, rfl, ha, hb, hz, q⟩ := h
  refine op_catA pins s σ H _ _ v u Q I rx ry ⟨a, b, xs, ys, rfl, rfl, SqT.of ha, SqT.of hb, Evl.sz_of hz, fun e => ?_, fun _ e => ?_, fun _ _ p np => ?_⟩
  · subst e
    exact q b H (Same.refl H) hb
  · subst e
    exact q a H (Same.refl H) (by rw [List.append_nil]; exact ha)
  · exact q p _ (same_new np) upd_same
end
/-! ### things of any kind -/
def NoD (H : Hp) (p : Addr) (xs : List V) : Prop := ∃ o : Obj, o.dict = none ∧ H p = some (.frz o (.tup xs))
theorem NoD.same {H H' : Hp} {p : Addr} {xs : List V} (h : NoD H p xs) (s : Same H H') : NoD H' p xs := by
  obtain ⟨o, h1, h2⟩ := h
  exact ⟨o, h1, s _ _ h2⟩
theorem NoD.sq {K : PySem.W.Frag} {H : Hp} {p : Addr} {xs : List V} (h : NoD H p xs) : SqT K H p xs := by
  obtain ⟨o, h1, h2⟩ := h
  exact .inl (.inr ⟨o, h2⟩)
/-- a tuple -/
def TupA (H : Hp) (a : Addr) (xs : List V) : Prop := H a = some (.tup xs) ∨ NoD H a xs
theorem TupA.same {H H' : Hp} {p : Addr} {xs : List V} (h : TupA H p xs) (s : Same H H') : TupA H' p xs := h.elim (fun h => .inl (s _ _ h)) (fun h => .inr (h.same s))
theorem TupA.sq {K : PySem.W.Frag} {H : Hp} {p : Addr} {xs : List V} (h : TupA H p xs) : SqT K H p xs := h.elim SqT.of NoD.sq
theorem TupA.tyx {K : PySem.W.Frag} {H : Hp} {p : Addr} {xs : List V} (h : TupA H p xs) : TyX K H (.ref p) (.type "tuple") := by
  rcases h with h | ⟨o, _, h⟩
  · exact .base (.tup h)
  · exact .fTuple h
/-- a dict, whatever its keys -/
def isDct : HO → Prop
  | .dK _ => True
  | .dT _ => True
  | _ => False
theorem isDct_ty {K : PySem.W.Frag} {H : Hp} {a : Addr} {o : HO} (h : H a = some o) (d : isDct o) : TyX K H (.ref a) (.type "dict") := by
  cases o with
  | dK kvs => exact .base (.dK h)
  | dT kvs => exact .base (.dT h)
  | _ => exact d.elim
/-- its kind is known -/
def Kn (H : Hp) : V → Prop
  | .non => True
  | .bl _ => True
  | .int _ => True
  | .str _ => True
  | .ref a => (∃ xs, H a = some (.lst xs)) ∨ (∃ xs, TupA H a xs) ∨ ∃ o, H a = some o ∧ isDct o
  | _ => False
def isI : V → Bool
  | .int _ => true
  | .bl _ => true
  | _ => false
def isB : V → Bool
  | .bl _ => true
  | _ => false
def isW : V → Bool
  | .int _ => true
  | _ => false
def isT (H : Hp) : V → Bool
  | .ref a => match H a with
    | some (.tup _) => true
    | some (.frz o (.tup _)) => o.dict.isNone
    | _ => false
  | _ => false
section
variable {K : PySem.W.Frag} {H : Hp}
theorem kn_int {v : V} (h : Kn H v) : ∃ t, TyX K H v t ∧ PySem.W.kitOne K t (.type "int") = some (isI v) := by
  cases v with
  | non => exact ⟨_, .base .non, kit_ty (r := false) (by decide +kernel)⟩
  | bl b => exact ⟨_, .base (.bl b), kit_ty (r := true) (by decide +kernel)⟩
  | int i => exact ⟨_, .base (.int i), kit_ty (r := true) (by decide +kernel)⟩
  | str x => exact ⟨_, .base (.str x), kit_ty (r := false) (by decide +kernel)⟩
  | ref a =>
    rcases h with ⟨xs, h⟩ | ⟨xs, h⟩ | ⟨xs, h⟩
    · exact ⟨_, .base (.lst h), kit_ty (r := false) (by decide +kernel)⟩
    · exact ⟨_, h.tyx, kit_ty (r := false) (by decide +kernel)⟩
    · exact ⟨_, isDct_ty h.1 h.2, kit_ty (r := false) (by decide +kernel)⟩
  | byt b => exact h.elim
  | flt b => exact h.elim
  | ty n => exact h.elim
theorem kn_bool {v : V} (h : Kn H v) : ∃ t, TyX K H v t ∧ PySem.W.kitOne K t (.type "bool") = some (isB v) := by
  cases v with
  | non => exact ⟨_, .base .non, kit_ty (r := false) (by decide +kernel)⟩
  | bl b => exact ⟨_, .base (.bl b), kit_ty (r := true) (by decide +kernel)⟩
  | int i => exact ⟨_, .base (.int i), kit_ty (r := false) (by decide +kernel)⟩
  | str x => exact ⟨_, .base (.str x), kit_ty (r := false) (by decide +kernel)⟩
  | ref a =>
    rcases h with ⟨xs, h⟩ | ⟨xs, h⟩ | ⟨xs, h⟩
    · exact ⟨_, .base (.lst h), kit_ty (r := false) (by decide +kernel)⟩
    · exact ⟨_, h.tyx, kit_ty (r := false) (by decide +kernel)⟩
    · exact ⟨_, isDct_ty h.1 h.2, kit_ty (r := false) (by decide +kernel)⟩
  | byt b => exact h.elim
  | flt b => exact h.elim
  | ty n => exact h.elim
theorem kn_tup {v : V} (h : Kn H v) : ∃ t, TyX K H v t ∧ PySem.W.kitOne K t (.type "tuple") = some (isT H v) := by
  cases v with
  | non => exact ⟨_, .base .non, kit_ty (r := false) (by decide +kernel)⟩
  | bl b => exact ⟨_, .base (.bl b), kit_ty (r := false) (by decide +kernel)⟩
  | int i => exact ⟨_, .base (.int i), kit_ty (r := false) (by decide +kernel)⟩
  | str x => exact ⟨_, .base (.str x), kit_ty (r := false) (by decide +kernel)⟩
  | ref a =>
    unfold isT
    rcases h with ⟨xs, h⟩ | ⟨xs, h⟩ | ⟨xs, h⟩
    · exact ⟨_, .base (.lst h), by simp only [h]; exact kit_ty (r := false) (by decide +kernel)⟩
    · rcases h with h | ⟨o, od, h⟩
      · exact ⟨_, .base (.tup h), by simp only [h]; exact kit_ty (r := true) (by decide +kernel)⟩
      · exact ⟨_, .fTuple h, by simp only [h, od, Option.isNone]; exact kit_ty (r := true) (by decide +kernel)⟩
    · refine ⟨_, isDct_ty h.1 h.2, ?_⟩
      obtain ⟨h, d⟩ := h
      cases xs with
      | dK kvs => simp only [h]; exact kit_ty (r := false) (by decide +kernel)
      | dT kvs => simp only [h]; exact kit_ty (r := false) (by decide +kernel)
      | _ => exact d.elim
  | byt b => exact h.elim
  | flt b => exact h.elim
  | ty n => exact h.elim
theorem isT_at {v : V} (h : isT H v = true) : ∃ a xs, v = .ref a ∧ TupA H a xs := by
  cases v with
  | ref a =>
    unfold isT at h
    cases e : H a with
    | none => simp only [e] at h; cases h
    | some o =>
      cases o with
      | tup xs => exact ⟨a, xs, rfl, .inl e⟩
      | frz o u =>
        cases u with
        | tup xs =>
          simp only [e] at h
          cases od : o.dict with
          | none => exact ⟨a, xs, rfl, .inr ⟨o, od, e⟩⟩
          | some d => rw [od] at h; cases h
        | _ => simp only [e] at h; cases h
      | _ => simp only [e] at h; cases h
  | _ => cases h
theorem isT_of {a : Addr} {xs : List V} (h : TupA H a xs) : isT H (.ref a) = true := by
  unfold isT
  rcases h with h | ⟨o, od, h⟩
  · simp only [h]
  · simp only [h, od, Option.isNone]
end
section
variable {P : Program} {w : World} {K : PySem.W.Frag} {mg : Str → Option Value} {base : Heap}
def spWhole : Sp := fun vs H Q _ => ∃ v, vs = [v] ∧ Kn H v ∧ Q (.bl (isW v)) H
theorem and_whole {v : V} : (isI v && !isB v) = isW v := by cases v <;> rfl
/-! ### tuples cut and put together: those that are known to have no dict stay so -/
section
variable {X : Cx}
def rSlQ : V → Option Int → Option Int → Hp → VK → Prop := fun x lo hi H Q => ∃ a xs, x = .ref a ∧ TupA H a xs ∧ ∀ r H', Same H H' → TupA H' r (cutV xs lo hi) → (NoD H a xs → NoD H' r (cutV xs lo hi)) → Q (.ref r) H'
theorem sl_tupQ : SlR X rSlQ := by
  intro pins s σ H x v vl vu lo hi sl Q I rx hs pl pu h
  obtain ⟨a, xs, rfl, hx, q⟩ := h
  cases rx
  obtain ⟨its, r, ht, hz⟩ := I.tuple (hx.sq (K := X.K))
  have hlen : its.toArray.size = xs.length := by rw [List.size_toArray]; exact r.length.symm
  by_cases hw : HT.sIx xs.length 0 lo = 0 ∧ HT.sIx xs.length xs.length hi = xs.length
  · refine ⟨"tuple", _, PyProof.Rows.slot_tuple_getitem.lookup, ht.typeIs, ?_⟩
    have e := cutV_whole hw
    exact getItem_tuple_whole ht hs pl pu (by rw [hlen]; exact hw) ⟨.ref a, H, I, rfl, q a H (Same.refl H) (by rw [e]; exact hx) (fun z => by rw [e]; exact z)⟩
  · refine ⟨"tuple", _, PyProof.Rows.slot_tuple_getitem.lookup, ht.typeIs, ?_⟩
    refine HT.getItem_tuple_cut ht hs pl pu (by rw [hlen]; exact hw) ?_ (by rw [hlen]; exact hz)
    rw [hlen]
    refine ⟨.ref s.heap.objs.size, upd H s.heap.objs.size (.frz _ (.tup (cutV xs lo hi))), I.laid (t' := s.toks) (o := .frz _ (.tup (cutV xs lo hi))) (fun b ob q => Heap.get?_push_of_some _ q) (Nat.le_refl _) ⟨Heap.get?_push_size _ rfl, Nat.le_trans (cutV_length xs lo hi) hz, _, (r.drop (HT.sIx xs.length 0 lo)).take (HT.sIx xs.length xs.length hi - HT.sIx xs.length 0 lo), IsTup.new _ _⟩, rfl, q _ _ (same_new (I.hok.fresh (Nat.le_refl _))) (.inr ⟨_, ?_, upd_same⟩) (fun _ => ⟨_, ?_, upd_same⟩)⟩
    · rfl
    · rfl
def rCatQ : R2 := fun x y H Q => ∃ a b xs ys, x = .ref a ∧ y = .ref b ∧ TupA H a xs ∧ TupA H b ys ∧ xs.length + ys.length ≤ 100000 ∧ ∀ r H', Same H H' → TupA H' r (xs ++ ys) → (NoD H a xs → NoD H b ys → NoD H' r (xs ++ ys)) → Q (.ref r) H'
theorem op_catQ : OpR X (binaryOp .Add) rCatQ := by
  intro pins s σ H x y v u Q I rx ry h
  obtain ⟨a, b, xs, ys, rfl, rfl, ha, hb, hz, q⟩ := h
  cases rx
  cases ry
  have hz := Evl.sz_of hz
  obtain ⟨its, r1, p1, _⟩ := I.tuple (ha.sq (K := X.K))
  obtain ⟨its2, r2, p2, _⟩ := I.tuple (hb.sq (K := X.K))
  by_cases hx : xs = []
  · subst hx
    cases r1
    exact cat_tup0 p1 p2 ⟨.ref b, H, I, rfl, q b H (Same.refl H) hb (fun _ z => z)⟩
  · refine HT.cat_tup p1 p2 (fun z => hx (r1.nil_iff.mp z)) (fun z => ?_) (fun z => ?_) (by rw [← r1.length, ← r2.length]; exact hz)
    · obtain rfl := r2.nil_iff.mp z
      exact ⟨.ref a, H, I, rfl, q a H (Same.refl H) (by rw [List.append_nil]; exact ha) (fun z _ => by rw [List.append_nil]; exact z)⟩
    · refine ⟨.ref s.heap.objs.size, upd H s.heap.objs.size (.frz _ (.tup (xs ++ ys))), I.laid (t' := s.toks) (o := .frz _ (.tup (xs ++ ys))) (fun b ob q => Heap.get?_push_of_some _ q) (Nat.le_refl _) ⟨Heap.get?_push_size _ rfl, by rw [List.length_append]; exact hz, _, r1.append r2, IsTup.new _ _⟩, rfl, q _ _ (same_new (I.hok.fresh (Nat.le_refl _))) (.inr ⟨_, ?_, upd_same⟩) (fun _ _ => ⟨_, ?_, upd_same⟩)⟩
      · rfl
      · rfl
end
theorem ok_is_whole {f : Addr} {fd : FuncData} (F : Fun K "is_whole" "is_whole" s_is_whole f fd) (M : Free mg) : FnOk P w K mg base CX0 1 f fd ["thing"] spWhole := by
  refine F.ok sc_is_whole (fun vs H Q E h => ?_) (fun cdv A outer s H vs Q E hr h => ?_)
  · obtain ⟨v, rfl, _⟩ := h
    rfl
  · obtain ⟨v, rfl, hk, q⟩ := h
    refine ⟨_, (pss_one (ps_ret (pe_and (pe_callB call_isi (by rfl) M.isinstance (by decide +kernel) (pa_cons (pv 0) (pa_cons (pe_bltn (v := .ty "int") (by rfl) M.int (by decide +kernel) rfl) pa_nil))) (pe_one (pe_not (pe_callB call_isi (by rfl) M.isinstance (by decide +kernel) (pa_cons (pv 0) (pa_cons (pe_bltn (v := .ty "bool") (by rfl) M.bool (by decide +kernel) rfl) pa_nil)))))))), ?_⟩
    obtain ⟨t1, h1, e1⟩ := kn_int (K := K) hk
    obtain ⟨t2, h2, e2⟩ := kn_bool (K := K) hk
    refine ⟨v, rfl, v, _, t1, _, _, rfl, .ty "int", h1, e1, _, rfl, ?_⟩
    rw [← and_whole] at q
    cases hi : isI v with
    | false =>
      rw [hi] at q
      exact q
    | true =>
      rw [hi] at q
      exact ⟨v, rfl, v, _, t2, _, _, rfl, .ty "bool", h2, e2, _, rfl, q⟩
def wfrom (lo : Int) : V → Bool
  | .int i => decide (lo ≤ i)
  | _ => false
def spFrom : Sp := fun vs H Q _ => ∃ lo v, vs = [.int lo, v] ∧ Kn H v ∧ Q (.bl (wfrom lo v)) H
theorem ok_is_whole_from {f : Addr} {fd : FuncData} (F : Fun K "is_whole_from" "is_whole_from" s_is_whole_from f fd) (Dw : Df P w K mg base 1 "is_whole" ["thing"] spWhole) : FnOk P w K mg base CX0 2 f fd ["low", "thing"] spFrom := by
  obtain ⟨fW, fdW, GW, gW, kW, bW⟩ := Dw
  refine F.ok sc_is_whole_from (fun vs H Q E h => ?_) (fun cdv A outer s H vs Q E hr h => ?_)
  · obtain ⟨lo, v, rfl, _⟩ := h
    rfl
  · obtain ⟨lo, v, rfl, hk, q⟩ := h
    refine ⟨_, (pss_one (ps_ret (pe_and (pe_call GW hr (by rfl) gW kW bW .nil pass0 (pa_cons (pv 1) pa_nil)) (pe_one (pe_cmpR op_ge (pv 1) (pv 0) (nomark _)))))), ?_⟩
    refine ⟨v, rfl, v, rfl, hk, _, rfl, ?_⟩
    cases v with
    | int i => exact ⟨.int i, rfl, .int lo, rfl, i, lo, rfl, rfl, q⟩
    | _ => exact q
def parts (H : Hp) : V → Option (List V)
  | .ref a => match H a with
    | some (.tup xs) => some xs
    | some (.frz o (.tup xs)) => if o.dict.isNone then some xs else none
    | _ => none
  | _ => none
theorem parts_of' {H : Hp} {a : Addr} {xs : List V} (h : TupA H a xs) : parts H (.ref a) = some xs := by
  unfold parts
  rcases h with h | ⟨o, od, h⟩
  · simp only [h]
  · simp only [h, od, Option.isNone, if_true]
theorem parts_none {H : Hp} {v : V} (h : isT H v = false) : parts H v = none := by
  cases v with
  | ref a =>
    unfold isT at h
    unfold parts
    cases e : H a with
    | none => simp only [e]
    | some o =>
      cases o with
      | tup xs => simp only [e] at h; cases h
      | frz o u =>
        cases u with
        | tup xs =>
          simp only [e] at h ⊢
          rw [if_neg (by rw [h]; decide)]
        | _ => simp only [e]
      | _ => simp only [e]
  | _ => rfl
def lenIs (H : Hp) (v : V) (n : Int) : Bool := match parts H v with
  | some xs => decide ((xs.length : Int) = n)
  | none => false
def spTupleOf : Sp := fun vs H Q _ => ∃ n v, vs = [.int n, v] ∧ Kn H v ∧ Q (.bl (lenIs H v n)) H
theorem dec_int (a b : Int) : decide (V.int a = V.int b) = decide (a = b) := by
  by_cases h : a = b
  · rw [decide_eq_true h, h, decide_eq_true rfl]
  · rw [decide_eq_false h, decide_eq_false (fun z => h (V.int.inj z))]
theorem ok_is_tuple_of {f : Addr} {fd : FuncData} (F : Fun K "is_tuple_of" "is_tuple_of" s_is_tuple_of f fd) (M : Free mg) : FnOk P w K mg base CX0 1 f fd ["length", "thing"] spTupleOf := by
  refine F.ok sc_is_tuple_of (fun vs H Q E h => ?_) (fun cdv A outer s H vs Q E hr h => ?_)
  · obtain ⟨n, v, rfl, _⟩ := h
    rfl
  · obtain ⟨n, v, rfl, hk, q⟩ := h
    refine ⟨_, (pss_one (ps_ret (pe_and (pe_callB call_isi (by rfl) M.isinstance (by decide +kernel) (pa_cons (pv 1) (pa_cons (pe_bltn (v := .ty "tuple") (by rfl) M.tuple (by decide +kernel) rfl) pa_nil))) (pe_one (pe_cmpR op_eq (pe_callB call_len_seq (by rfl) M.len PySem.boot_len (pa_cons (pv 1) pa_nil)) (pv 0) (nomark _)))))), ?_⟩
    obtain ⟨t1, h1, e1⟩ := kn_tup (K := K) hk
    refine ⟨v, rfl, v, _, t1, _, _, rfl, .ty "tuple", h1, e1, _, rfl, ?_⟩
    unfold lenIs at q
    cases hi : isT H v with
    | false =>
      rw [parts_none hi] at q
      exact q
    | true =>
      obtain ⟨a, xs, rfl, e⟩ := isT_at hi
      rw [parts_of' e] at q
      refine ⟨.ref a, rfl, a, xs, rfl, .inr (e.sq), .int n, rfl, rfl, ?_⟩
      rw [dec_int]
      exact q
/-! ### a def whose code object stands at c: its own table is at Pt -/
structure FunC (K : PySem.W.Frag) (x qual : Str) (st : Stmt) (f : Addr) (fd : FuncData) (c : Addr) : Prop where
  ex : ∃ (oc : Value) (od : Option Addr) (kV doc pm : Value) (an : Option Addr) (ct : Value) (osl : Array (Option Value)),
    fd = PySem.W.fnOf x qual (defArgs st) (defBody st) (defScope st) .none kV doc pm an (.ref c) ct ∧ K.lookup f = some ⟨oc, od, .func fd, osl⟩ ∧ PySem.W.codeIn K (.ref c) qual = true
  kp : PySem.W.keepIn K (.ref f) = true
theorem FunC.ok {x qual : Str} {st : Stmt} {f c : Addr} {fd : FuncData} {N ps : List Str} {k : Nat} {sp : Sp} (F : FunC K x qual st f fd c) (S : FnScope N ps (defScope st)) (len : ∀ vs H Q E, sp vs H Q E → vs.length = ps.length)
    (hbody : ∀ (A : Around) (outer : List Env) (s : Shared) (H : Hp) (vs : List V) (Q : VK) (E : XK), Room k (A.deeper (envOfC qual (defScope st) s.heap.objs.size f (.ref c))) → sp vs H Q E →
      ∃ t, PSs (cxOf CX0 P w K mg base N qual (defScope st) f (.ref c) A outer s H E).nox (defBody st) t ∧ t { nx := fun _ H' => Q .non H', rt := Q } (start N vs) H) : FnOk P w K mg base CX0 (k + 1) f fd ps sp := by
  obtain ⟨oc, od, kV, doc, pm, an, ct, osl, rfl, lk, hcd⟩ := F.ex
  refine fn_of lk hcd S len fun A outer s H vs Q E hr hsp => ?_
  obtain ⟨t, h, q⟩ := hbody A outer s H vs Q E hr hsp
  exact ⟨t, h.nox, q⟩
theorem FunC.fn {x qual : Str} {st : Stmt} {f c : Addr} {fd : FuncData} (F : FunC K x qual st f fd c) : Fun K x qual st f fd := by
  obtain ⟨oc, od, kV, doc, pm, an, ct, osl, rfl, lk, hcd⟩ := F.ex
  exact ⟨⟨oc, od, kV, doc, pm, an, _, ct, osl, rfl, lk, hcd⟩, F.kp⟩
theorem parts_at {H : Hp} {v : V} {xs : List V} (h : parts H v = some xs) : ∃ a, v = .ref a ∧ TupA H a xs := by
  cases v with
  | ref a =>
    unfold parts at h
    cases e : H a with
    | none => simp only [e] at h; cases h
    | some o =>
      cases o with
      | tup ys => simp only [e] at h; cases h; exact ⟨a, rfl, .inl e⟩
      | frz o u =>
        cases u with
        | tup ys =>
          simp only [e] at h
          cases od : o.dict with
          | none => rw [od] at h; cases h; exact ⟨a, rfl, .inr ⟨o, od, e⟩⟩
          | some d => rw [od] at h; cases h
        | _ => simp only [e] at h; cases h
      | _ => simp only [e] at h; cases h
  | _ => cases h
end
/-! ### all but the tables is kept -/
structure Kt (Ps : List Addr) (H H' : Hp) : Prop where
  tab : ∀ P ∈ Ps, GxR.TabG H' P
  keep : ∀ b o, b ∉ Ps → H b = some o → H' b = some o
def Tabs (Ps : List Addr) (H : Hp) : Prop := ∀ P ∈ Ps, GxR.TabG H P
theorem Kt.refl {Ps : List Addr} {H : Hp} (h : Tabs Ps H) : Kt Ps H H := ⟨h, fun _ _ _ e => e⟩
theorem Kt.trans {Ps : List Addr} {H H1 H2 : Hp} (a : Kt Ps H H1) (b : Kt Ps H1 H2) : Kt Ps H H2 := ⟨b.tab, fun x o h e => b.keep x o h (a.keep x o h e)⟩
theorem Kt.same {Ps : List Addr} {H H' : Hp} (h : Tabs Ps H) (s : Same H H') : Kt Ps H H' := ⟨fun P hP => by obtain ⟨ps, e, t⟩ := h P hP; exact ⟨ps, s _ _ e, t⟩, fun b o _ e => s b o e⟩
theorem Kt.tabbed {Ps : List Addr} {P : Addr} {H H' : Hp} (h : Tabs Ps H) (hP : P ∈ Ps) (t : GxR.Tabbed P H H') : Kt Ps H H' := by
  refine ⟨fun Q hQ => ?_, fun b o hb e => ?_⟩
  · by_cases e : Q = P
    · rw [e]
      exact t.1
    · obtain ⟨ps, e1, t1⟩ := h Q hQ
      exact ⟨ps, by rw [t.2 Q e]; exact e1, t1⟩
  · rw [t.2 b (fun z => hb (by rw [z]; exact hP))]
    exact e
theorem Tabs.out {Ps : List Addr} {H : Hp} {a : Addr} {o : HO} (t : Tabs Ps H) (h : H a = some o) (no : ∀ ps, o ≠ .tbl ps) : a ∉ Ps := fun z => by
  obtain ⟨ps, e, _⟩ := t a z
  rw [e] at h
  cases h
  exact no _ rfl
theorem Kt.tup {Ps : List Addr} {a : Addr} {H H' : Hp} {xs : List V} (k : Kt Ps H H') (t : Tabs Ps H) (h : H a = some (.tup xs)) : H' a = some (.tup xs) := k.keep a _ (t.out h fun _ z => by cases z) h
theorem Kt.lst {Ps : List Addr} {a : Addr} {H H' : Hp} {xs : List V} (k : Kt Ps H H') (t : Tabs Ps H) (h : H a = some (.lst xs)) : H' a = some (.lst xs) := k.keep a _ (t.out h fun _ z => by cases z) h
theorem Kt.dct {Ps : List Addr} {a : Addr} {H H' : Hp} {xs : List (Key × V)} (k : Kt Ps H H') (t : Tabs Ps H) (h : H a = some (.dK xs)) : H' a = some (.dK xs) := k.keep a _ (t.out h fun _ z => by cases z) h
theorem Kt.tk {Ps : List Addr} {H H' : Hp} (k : Kt Ps H H') (t : Tabs Ps H) : Tk H H' := fun _ _ e => k.tup t e
theorem NoD.kt {Ps : List Addr} {H H' : Hp} {p : Addr} {xs : List V} (h : NoD H p xs) (k : Kt Ps H H') (t : Tabs Ps H) : NoD H' p xs := by
  obtain ⟨o, h1, h2⟩ := h
  exact ⟨o, h1, k.keep _ _ (t.out h2 fun _ z => by cases z) h2⟩
theorem TupA.kt {Ps : List Addr} {H H' : Hp} {p : Addr} {xs : List V} (h : TupA H p xs) (k : Kt Ps H H') (t : Tabs Ps H) : TupA H' p xs := h.elim (fun h => .inl (k.tup t h)) (fun h => .inr (h.kt k t))
theorem Kt.dctA {Ps : List Addr} {a : Addr} {H H' : Hp} {o : HO} (k : Kt Ps H H') (t : Tabs Ps H) (h : H a = some o) (d : isDct o) : H' a = some o := k.keep a _ (t.out h fun _ z => by rw [z] at d; exact d) h
theorem Kt.kn {Ps : List Addr} {H H' : Hp} (k : Kt Ps H H') (t : Tabs Ps H) {v : V} (h : Kn H v) : Kn H' v := by
  cases v with
  | ref a =>
    rcases h with ⟨xs, h⟩ | ⟨xs, h⟩ | ⟨xs, h⟩
    · exact .inl ⟨xs, k.lst t h⟩
    · exact .inr (.inl ⟨xs, h.kt k t⟩)
    · exact .inr (.inr ⟨xs, k.dctA t h.1 h.2, h.2⟩)
  | _ => exact h
theorem Tabs.same {Ps : List Addr} {H H' : Hp} (t : Tabs Ps H) (s : Same H H') : Tabs Ps H' := (Kt.same t s).tab
theorem Tabs.new {Ps : List Addr} {H : Hp} {a : Addr} {o : HO} (t : Tabs Ps H) (h : H a = none) : Tabs Ps (upd H a o) := t.same (same_new h)
/-! ### x in t of data of any depth -/
def rInT (K : PySem.W.Frag) : R2 := fun x y H Q => ∃ d ds, Dp K H x d ∧ Dp K H y (.tuple ds) ∧ SeqAt.shaped d = true ∧ SeqAt.shaped (.tuple ds) = true ∧ Q (.bl (ds.any fun z => PyData.eqv z d)) H
theorem op_inTup {X : Cx} (hu : X.A.units + 65 < cLine) : OpR X (compareOp .In) (rInT X.K) := by
  intro pins s σ H x y v u Q I rx ry want
  obtain ⟨d, ds, hd, he, sd, se, q⟩ := want
  obtain ⟨as, r1⟩ := Dp.reads I d x v hd rx
  obtain ⟨bs, r2⟩ := Dp.reads I (.tuple ds) y u he ry
  have lay : PyData.canLayAll0 ds = true := by
    have z := SeqAt.canLay_of_shaped se
    rw [PyData.canLay0] at z
    exact z
  have deep := SeqAt.depth_of_shaped sd
  exact SeqAt.in_tuple_reads r2 r1 lay (SeqAt.canLay_of_shaped sd) (by omega) ⟨.bl _, H, I, rfl, q⟩
/-! ### ties, walks, parts: the mathematics -/
def Adj (ts : List Tie) (a b : Int) (foe : Bool) : Prop := ∃ t ∈ ts, t.foe = foe ∧ ((t.one = a ∧ t.other = b) ∨ (t.one = b ∧ t.other = a))
theorem Adj.symm {ts : List Tie} {a b : Int} {k : Bool} (h : Adj ts a b k) : Adj ts b a k := by
  obtain ⟨t, ht, e, h⟩ := h
  exact ⟨t, ht, e, h.symm⟩
/-- a walk with so many foes, even or odd -/
inductive RP (ts : List Tie) (a : Int) : Int → Bool → Prop
  | nil : RP ts a a false
  | step {b c : Int} {p k : Bool} : RP ts a b p → Adj ts b c k → RP ts a c (p ^^ k)
def Rch (ts : List Tie) (a b : Int) : Prop := ∃ p, RP ts a b p
theorem RP.trans {ts : List Tie} {a b c : Int} {p q : Bool} (h : RP ts a b p) (g : RP ts b c q) : RP ts a c (p ^^ q) := by
  induction g with
  | nil =>
    rw [Bool.xor_false]
    exact h
  | step _ k ih =>
    rw [← Bool.xor_assoc]
    exact ih.step k
theorem RP.one {ts : List Tie} {a b : Int} {k : Bool} (h : Adj ts a b k) : RP ts a b k := by
  have q := RP.nil.step h
  rw [Bool.false_xor] at q
  exact q
theorem RP.symm {ts : List Tie} {a b : Int} {p : Bool} (h : RP ts a b p) : RP ts b a p := by
  induction h with
  | nil => exact .nil
  | step _ k ih =>
    have q := (RP.one k.symm).trans ih
    rw [Bool.xor_comm] at q
    exact q
theorem Rch.refl {ts : List Tie} {a : Int} : Rch ts a a := ⟨_, .nil⟩
theorem Rch.symm {ts : List Tie} {a b : Int} (h : Rch ts a b) : Rch ts b a := by
  obtain ⟨p, h⟩ := h
  exact ⟨p, h.symm⟩
theorem Rch.trans {ts : List Tie} {a b c : Int} (h : Rch ts a b) (g : Rch ts b c) : Rch ts a c := by
  obtain ⟨p, h⟩ := h
  obtain ⟨q, g⟩ := g
  exact ⟨_, h.trans g⟩
theorem Rch.adj {ts : List Tie} {a b : Int} {k : Bool} (h : Adj ts a b k) : Rch ts a b := ⟨_, RP.one h⟩
theorem Rch.ind {ts : List Tie} {a b : Int} (C : Int → Prop) (h : Rch ts a b) (h0 : C a) (hs : ∀ x y k, C x → Adj ts x y k → C y) : C b := by
  obtain ⟨p, h⟩ := h
  induction h with
  | nil => exact h0
  | step _ k ih => exact hs _ _ _ ih k
theorem Adj.rng {ts : List Tie} {n a b : Int} {k : Bool} (ok : ∀ t ∈ ts, TieOk n t) (h : Adj ts a b k) : 0 ≤ b ∧ b < n := by
  obtain ⟨t, ht, _, h⟩ := h
  obtain ⟨h1, h2, h3, h4, _⟩ := ok t ht
  rcases h with ⟨e1, e2⟩ | ⟨e1, e2⟩
  · omega
  · omega
theorem Rch.rng {ts : List Tie} {n a b : Int} (ok : ∀ t ∈ ts, TieOk n t) (ha : 0 ≤ a ∧ a < n) (h : Rch ts a b) : 0 ≤ b ∧ b < n := h.ind (fun x => 0 ≤ x ∧ x < n) ha fun _ _ _ _ k => k.rng ok
def leader (ts : List Tie) (s : Int) : Prop := ∀ q, Rch ts s q → s ≤ q
/-- rising lists of the same numbers are one -/
theorem rising_ext : ∀ {xs ys : List Int}, xs.Pairwise (· < ·) → ys.Pairwise (· < ·) → (∀ z, z ∈ xs ↔ z ∈ ys) → xs = ys
  | [], [], _, _, _ => rfl
  | [], y :: ys, _, _, h => by have := (h y).mpr (by simp); simp at this
  | x :: xs, [], _, _, h => by have := (h x).mp (by simp); simp at this
  | x :: xs, y :: ys, hx, hy, h => by
    rw [List.pairwise_cons] at hx hy
    have e : x = y := by
      have h1 := (h x).mp (by simp)
      have h2 := (h y).mpr (by simp)
      rcases List.mem_cons.mp h1 with e | e
      · exact e
      · rcases List.mem_cons.mp h2 with e' | e'
        · exact e'.symm
        · have := hx.1 y e'
          have := hy.1 x e
          omega
    subst e
    rw [rising_ext hx.2 hy.2 fun z => ?_]
    constructor
    · intro hz
      rcases List.mem_cons.mp ((h z).mp (List.mem_cons_of_mem _ hz)) with e | e
      · have := hx.1 z hz
        omega
      · exact e
    · intro hz
      rcases List.mem_cons.mp ((h z).mpr (List.mem_cons_of_mem _ hz)) with e | e
      · have := hy.1 z hz
        omega
      · exact e
/-- 0, 1, .., n - 1 -/
def rng (n : Nat) : List Int := (List.range n).map fun (i : Nat) => (i : Int)
theorem mem_rng {n : Nat} {z : Int} : z ∈ rng n ↔ 0 ≤ z ∧ z < n := by
  unfold rng
  rw [List.mem_map]
  constructor
  · rintro ⟨i, hi, rfl⟩
    have := List.mem_range.mp hi
    omega
  · rintro ⟨h1, h2⟩
    exact ⟨z.toNat, List.mem_range.mpr (by omega), by omega⟩
theorem rng_rising (n : Nat) : (rng n).Pairwise (· < ·) := by
  unfold rng
  rw [List.pairwise_map]
  exact List.pairwise_lt_range.imp (by intro a b h; omega)
theorem rng_succ (n : Nat) : rng (n + 1) = rng n ++ [(n : Int)] := by
  unfold rng
  rw [List.range_succ, List.map_append]
  rfl
theorem rng_length (n : Nat) : (rng n).length = n := by
  unfold rng
  rw [List.length_map, List.length_range]
open Classical in
/-- the part of s -/
noncomputable def partOf (ts : List Tie) (n : Nat) (s : Int) : List Int := (rng n).filter fun p => decide (Rch ts s p)
open Classical in
/-- the parts by their first places, below i -/
noncomputable def partsTo (ts : List Tie) (n i : Nat) : List (List Int) := ((rng i).filter fun s => decide (leader ts s)).map (partOf ts n)
open Classical in
theorem partsTo_succ (ts : List Tie) (n i : Nat) : partsTo ts n (i + 1) = partsTo ts n i ++ (if leader ts i then [partOf ts n i] else []) := by
  unfold partsTo
  rw [rng_succ, List.filter_append, List.map_append]
  congr 1
  by_cases h : leader ts (i : Int)
  · rw [if_pos h, List.filter_cons, if_pos (decide_eq_true h)]
    rfl
  · rw [if_neg h, List.filter_cons, if_neg (by simpa using h)]
    rfl
theorem part_rising (ts : List Tie) (n : Nat) (s : Int) : (partOf ts n s).Pairwise (· < ·) := (rng_rising n).filter _
theorem mem_part {ts : List Tie} {n : Nat} {s z : Int} : z ∈ partOf ts n s ↔ (0 ≤ z ∧ z < n) ∧ Rch ts s z := by
  unfold partOf
  rw [List.mem_filter, mem_rng]
  simp
/-! ### the least place that each comes to, gone over again and again -/
def relax (f : Int → Int) (t : Tie) : Int → Int := fun x => if x = t.one ∨ x = t.other then min (f t.one) (f t.other) else f x
def rounds (ts : List Tie) : Nat → Int → Int
  | 0 => fun x => x
  | r + 1 => ts.foldl relax (rounds ts r)
theorem relax_le (f : Int → Int) (t : Tie) (x : Int) : relax f t x ≤ f x := by
  unfold relax
  split
  · rename_i h
    rcases h with rfl | rfl <;> omega
  · exact Int.le_refl _
theorem fold_le : ∀ (l : List Tie) (f : Int → Int) (x : Int), l.foldl relax f x ≤ f x
  | [], _, _ => Int.le_refl _
  | t :: l, f, x => Int.le_trans (fold_le l (relax f t) x) (relax_le f t x)
theorem fold_tie : ∀ (l : List Tie) (f : Int → Int) (t : Tie), t ∈ l → l.foldl relax f t.one ≤ min (f t.one) (f t.other) ∧ l.foldl relax f t.other ≤ min (f t.one) (f t.other)
  | t' :: l, f, t, h => by
    rcases List.mem_cons.mp h with e | e
    · subst e
      have h1 := fold_le l (relax f t) t.one
      have h2 := fold_le l (relax f t) t.other
      have e1 : relax f t t.one = min (f t.one) (f t.other) := by unfold relax; rw [if_pos (.inl rfl)]
      have e2 : relax f t t.other = min (f t.one) (f t.other) := by unfold relax; rw [if_pos (.inr rfl)]
      rw [e1] at h1
      rw [e2] at h2
      exact ⟨h1, h2⟩
    · have ih := fold_tie l (relax f t') t e
      have h1 := relax_le f t' t.one
      have h2 := relax_le f t' t.other
      exact ⟨Int.le_trans ih.1 (by omega), Int.le_trans ih.2 (by omega)⟩
theorem fold_rch {ts : List Tie} : ∀ (l : List Tie) (f : Int → Int), (∀ t ∈ l, t ∈ ts) → (∀ x, Rch ts x (f x)) → ∀ x, Rch ts x (l.foldl relax f x)
  | [], _, _, h => h
  | t :: l, f, hl, h => fold_rch l (relax f t) (fun t' ht => hl t' (List.mem_cons_of_mem _ ht)) fun x => by
    have ad : Rch ts t.one t.other := Rch.adj (k := t.foe) ⟨t, hl t (by simp), rfl, .inl ⟨rfl, rfl⟩⟩
    unfold relax
    split
    · rename_i hx
      have key : Rch ts x t.one ∧ Rch ts x t.other := by
        rcases hx with e | e <;> subst e
        · exact ⟨Rch.refl, ad⟩
        · exact ⟨ad.symm, Rch.refl⟩
      rcases Int.le_total (f t.one) (f t.other) with q | q
      · rw [Int.min_eq_left q]
        exact key.1.trans (h _)
      · rw [Int.min_eq_right q]
        exact key.2.trans (h _)
    · exact h x
theorem rounds_rch (ts : List Tie) : ∀ (r : Nat) (x : Int), Rch ts x (rounds ts r x)
  | 0, _ => Rch.refl
  | r + 1, x => fold_rch ts _ (fun _ h => h) (rounds_rch ts r) x
theorem filter_lt {p q : Int → Bool} : ∀ {l : List Int}, (∀ x ∈ l, q x = true → p x = true) → (∃ x ∈ l, p x = true ∧ q x = false) → (l.filter q).length < (l.filter p).length
  | [], _, ⟨x, hx, _⟩ => by simp at hx
  | y :: l, hi, ⟨x, hx, hp, hq⟩ => by
    have mono : (l.filter q).length ≤ (l.filter p).length := by
      have hi' : ∀ x ∈ l, q x = true → p x = true := fun x h => hi x (List.mem_cons_of_mem _ h)
      clear hi hx hp hq
      induction l with
      | nil => exact Nat.le_refl _
      | cons z l ih =>
        have ih := ih fun x h => hi' x (List.mem_cons_of_mem _ h)
        rw [List.filter_cons, List.filter_cons]
        have hz := hi' z (by simp)
        cases h1 : q z <;> cases h2 : p z <;> simp_all <;> omega
    rw [List.filter_cons, List.filter_cons]
    rcases List.mem_cons.mp hx with e | e
    · subst e
      rw [hq, hp]
      simp
      omega
    · have ih := filter_lt (l := l) (fun x h => hi x (List.mem_cons_of_mem _ h)) ⟨x, e, hp, hq⟩
      have hy := hi y (by simp)
      cases h1 : q y <;> cases h2 : p y <;> simp_all <;> omega
open Classical in
/-- behind as many rounds as there are places each has its part's least place -/
theorem rounds_least {ts : List Tie} {n : Nat} (ok : ∀ t ∈ ts, TieOk n t) {m p : Int} (hm : leader ts m) (h0 : 0 ≤ m ∧ m < n) (hp : Rch ts m p) : rounds ts n p = m := by
  have ge : ∀ r x, Rch ts m x → m ≤ rounds ts r x := fun r x hx => hm _ (hx.trans (rounds_rch ts r x))
  have mono : ∀ r x, rounds ts (r + 1) x ≤ rounds ts r x := fun r x => fold_le ts _ x
  have atm : ∀ r, rounds ts r m = m := fun r => by
    have h1 := ge r m Rch.refl
    have h2 : rounds ts r m ≤ m := by
      induction r with
      | zero => exact Int.le_refl _
      | succ r ih => exact Int.le_trans (mono r m) (ih (ge r m Rch.refl))
    omega
  have cnt : ∀ r, ((rng n).filter fun x => decide (Rch ts m x ∧ rounds ts r x ≠ m)).length ≤ n - r := fun r => by
    induction r with
    | zero =>
      refine Nat.le_trans (List.length_filter_le _ _) ?_
      rw [rng_length]
      omega
    | succ r ih =>
      by_cases hex : ∃ x, Rch ts m x ∧ rounds ts r x ≠ m
      · obtain ⟨x, hx, hne⟩ := hex
        -- an edge over which it comes
        have edge : ∃ a b k, Rch ts m a ∧ rounds ts r a = m ∧ Adj ts a b k ∧ rounds ts r b ≠ m := by
          by_cases hn : ∃ a b k, Rch ts m a ∧ rounds ts r a = m ∧ Adj ts a b k ∧ rounds ts r b ≠ m
          · exact hn
          · exfalso
            refine hne (hx.ind (fun y => Rch ts m y ∧ rounds ts r y = m) ⟨Rch.refl, atm r⟩ fun a b k ha k' => ⟨ha.1.trans (Rch.adj k'), ?_⟩).2
            by_cases hb : rounds ts r b = m
            · exact hb
            · exact absurd ⟨a, b, k, ha.1, ha.2, k', hb⟩ hn
        obtain ⟨a, b, k, ha, ha2, hab, hb⟩ := edge
        have hmb : Rch ts m b := ha.trans (Rch.adj hab)
        have hb' : rounds ts (r + 1) b = m := by
          have h1 := ge (r + 1) b hmb
          obtain ⟨t, ht, _, h⟩ := hab
          have ft := fold_tie ts (rounds ts r) t ht
          have h2 : rounds ts (r + 1) b ≤ m := by
            rcases h with ⟨e1, e2⟩ | ⟨e1, e2⟩
            · have q := ft.2
              rw [e1, e2, ha2] at q
              exact Int.le_trans q (by omega)
            · have q := ft.1
              rw [e1, e2, ha2] at q
              exact Int.le_trans q (by omega)
          omega
        have lt := filter_lt (p := fun x => decide (Rch ts m x ∧ rounds ts r x ≠ m)) (q := fun x => decide (Rch ts m x ∧ rounds ts (r + 1) x ≠ m)) (l := rng n) (fun x _ hq => by
          have hq := of_decide_eq_true hq
          refine decide_eq_true ⟨hq.1, fun z => hq.2 ?_⟩
          have h1 := ge (r + 1) x hq.1
          have h2 := mono r x
          omega) ⟨b, mem_rng.mpr (hmb.rng ok h0), decide_eq_true ⟨hmb, hb⟩, decide_eq_false fun z => z.2 hb'⟩
        omega
      · have e : (rng n).filter (fun x => decide (Rch ts m x ∧ rounds ts (r + 1) x ≠ m)) = [] := by
          rw [List.filter_eq_nil_iff]
          intro x _ hq
          have hq := of_decide_eq_true hq
          refine hex ⟨x, hq.1, fun z => hq.2 ?_⟩
          have h1 := ge (r + 1) x hq.1
          have h2 := mono r x
          omega
        rw [e]
        exact Nat.zero_le _
  have c := cnt n
  rw [Nat.sub_self] at c
  have e := List.eq_nil_of_length_eq_zero (Nat.le_zero.mp c)
  by_cases hne : rounds ts n p = m
  · exact hne
  · rw [List.filter_eq_nil_iff] at e
    exact absurd (decide_eq_true ⟨hp, hne⟩) (e p (mem_rng.mpr (hp.rng ok h0)))
open Classical in
/-- each has a least place -/
theorem has_leader {ts : List Tie} {n : Nat} (ok : ∀ t ∈ ts, TieOk n t) {p : Int} (h0 : 0 ≤ p ∧ p < n) : ∃ m, leader ts m ∧ (0 ≤ m ∧ m < n) ∧ Rch ts m p := by
  have key : ∀ (k : Nat) (x : Int), x = k → Rch ts p x → ∃ m, leader ts m ∧ (0 ≤ m ∧ m < n) ∧ Rch ts m p := by
    intro k
    induction k using Nat.strongRecOn with
    | ind k ih =>
      intro x hx hr
      have hxr := hr.rng ok h0
      by_cases hl : leader ts x
      · exact ⟨x, hl, hxr, hr.symm⟩
      · have hl' : ∃ q, Rch ts x q ∧ q < x := by
          by_cases h : ∃ q, Rch ts x q ∧ q < x
          · exact h
          · exfalso
            refine hl fun q hq => ?_
            by_cases h' : q < x
            · exact absurd ⟨q, hq, h'⟩ h
            · omega
        obtain ⟨q, hq, hlt⟩ := hl'
        have hqr := hq.rng ok hxr
        exact ih q.toNat (by omega) q (by omega) (hr.trans hq)
  exact key p.toNat p (by omega) Rch.refl
/-! ### rows of numbers as data -/
def IntsV (H : Hp) (v : V) (xs : List Int) : Prop := ∃ b, v = .ref b ∧ H b = some (.tup (xs.map V.int))
theorem IntsV.tk {H H' : Hp} (k : Tk H H') {v : V} {xs : List Int} (h : IntsV H v xs) : IntsV H' v xs := by
  obtain ⟨a, rfl, e⟩ := h
  exact ⟨a, rfl, k _ _ e⟩
def intsD (xs : List Int) : PyData := .tuple (xs.map PyData.int)
section
variable {K : PySem.W.Frag} {H : Hp}
theorem dp_ints : ∀ (xs : List Int), DpAll K H (xs.map V.int) (xs.map PyData.int)
  | [] => .nil
  | x :: xs => .cons (.int x) (dp_ints xs)
theorem IntsV.dp {v : V} {xs : List Int} (h : IntsV H v xs) : Dp K H v (intsD xs) := by
  obtain ⟨b, rfl, e⟩ := h
  exact .tup (SqT.of e) (dp_ints xs)
end
theorem lay_ints : ∀ xs : List Int, PyData.canLayAll0 (xs.map PyData.int) = true
  | [] => by simp [PyData.canLayAll0]
  | x :: xs => by simp [PyData.canLayAll0, PyData.canLay0, lay_ints xs]
theorem deep_ints : ∀ xs : List Int, PyData.depthAll (xs.map PyData.int) = 0
  | [] => by simp [PyData.depthAll]
  | x :: xs => by simp [PyData.depthAll, PyData.depth, deep_ints xs]
theorem lay_intsD (xs : List Int) : (intsD xs).canLay0 = true := by
  unfold intsD
  rw [PyData.canLay0]
  exact lay_ints xs
theorem deep_intsD (xs : List Int) : (intsD xs).depth = 1 := by
  unfold intsD
  rw [PyData.depth, deep_ints]
theorem shaped_intsD (xs : List Int) : SeqAt.shaped (intsD xs) = true := by
  unfold SeqAt.shaped
  rw [lay_intsD, deep_intsD]
  rfl
theorem eqv_nil (xs : List Int) : PyData.eqv (intsD xs) (intsD []) = xs.isEmpty := by
  unfold intsD
  rw [PyData.eqv]
  cases xs <;> rfl
theorem Same.mut {H H' : Hp} {a : Addr} {o : HO} (s : Same H H') (h : H a = none) : Same H (upd H' a o) := fun b x e => by
  rw [upd_ne (ne_of_none e h)]
  exact s b x e
theorem at0 {α : Type} (x : α) (xs : List α) : atI (x :: xs) 0 = some x := atI_nat (j := 0) rfl
/-! ### stems (mathematics) -/
theorem Rch.mono {ts ts' : List Tie} (h : ∀ t ∈ ts, t ∈ ts') {a b : Int} (r : Rch ts a b) : Rch ts' a b :=
  r.ind (fun x => Rch ts' a x) .refl fun x y k hx ad => by
    obtain ⟨t, ht, e⟩ := ad
    exact hx.trans (Rch.adj (k := k) ⟨t, h t ht, e⟩)
theorem rch_pq {ts : List Tie} {t : Tie} {p q : Int} (h : (p = t.one ∧ q = t.other) ∨ (p = t.other ∧ q = t.one)) : Rch (ts ++ [t]) p q := by
  refine Rch.adj (k := t.foe) ⟨t, List.mem_append_right _ (by simp), rfl, ?_⟩
  rcases h with ⟨h1, h2⟩ | ⟨h1, h2⟩
  · exact .inl ⟨h1.symm, h2.symm⟩
  · exact .inr ⟨h2.symm, h1.symm⟩
theorem rch_snoc {ts : List Tie} {t : Tie} {p q : Int} (h : (p = t.one ∧ q = t.other) ∨ (p = t.other ∧ q = t.one)) {a b : Int} : Rch (ts ++ [t]) a b ↔ Rch ts a b ∨ (Rch ts a p ∧ Rch ts q b) ∨ (Rch ts a q ∧ Rch ts p b) := by
  have up : ∀ {x y : Int}, Rch ts x y → Rch (ts ++ [t]) x y := fun r => r.mono fun t ht => List.mem_append_left _ ht
  constructor
  · intro r
    refine r.ind (fun x => Rch ts a x ∨ (Rch ts a p ∧ Rch ts q x) ∨ (Rch ts a q ∧ Rch ts p x)) (.inl .refl) fun x y k hx ad => ?_
    obtain ⟨t', ht, e1, e2⟩ := ad
    rcases List.mem_append.mp ht with ht | ht
    · have st : Rch ts x y := Rch.adj (k := k) ⟨t', ht, e1, e2⟩
      rcases hx with h1 | ⟨h1, h2⟩ | ⟨h1, h2⟩
      · exact .inl (h1.trans st)
      · exact .inr (.inl ⟨h1, h2.trans st⟩)
      · exact .inr (.inr ⟨h1, h2.trans st⟩)
    · rw [List.mem_singleton] at ht
      subst ht
      have xy : (x = p ∧ y = q) ∨ (x = q ∧ y = p) := by
        rcases e2 with ⟨e2, e3⟩ | ⟨e2, e3⟩ <;> rcases h with ⟨h1, h2⟩ | ⟨h1, h2⟩
        · exact .inl ⟨by omega, by omega⟩
        · exact .inr ⟨by omega, by omega⟩
        · exact .inr ⟨by omega, by omega⟩
        · exact .inl ⟨by omega, by omega⟩
      rcases xy with ⟨rfl, rfl⟩ | ⟨rfl, rfl⟩
      · rcases hx with h1 | ⟨h1, h2⟩ | ⟨h1, h2⟩
        · exact .inr (.inl ⟨h1, .refl⟩)
        · exact .inr (.inl ⟨h1, .refl⟩)
        · exact .inl h1
      · rcases hx with h1 | ⟨h1, h2⟩ | ⟨h1, h2⟩
        · exact .inr (.inr ⟨h1, .refl⟩)
        · exact .inl h1
        · exact .inr (.inr ⟨h1, .refl⟩)
  · rintro (h1 | ⟨h1, h2⟩ | ⟨h1, h2⟩)
    · exact up h1
    · exact (up h1).trans ((rch_pq h).trans (up h2))
    · exact (up h1).trans ((rch_pq h).symm.trans (up h2))
theorem rch_nil {a b : Int} (h : Rch [] a b) : a = b := h.ind (fun x => a = x) rfl fun x y k _ ad => by
  obtain ⟨t, ht, _⟩ := ad
  simp at ht
def tieN (ts : List Tie) (k : Nat) : Tie := ts.getD k ⟨0, 0, false⟩
theorem tieN_of {ts : List Tie} {k : Nat} {t : Tie} (h : ts[k]? = some t) : tieN ts k = t := by
  unfold tieN
  rw [List.getD_eq_getElem?_getD, h]
  rfl
open Classical in
noncomputable def stemB (ts : List Tie) (k : Nat) : Bool := decide (¬ Rch (ts.take k) (tieN ts k).one (tieN ts k).other)
noncomputable def stemsTo (ts : List Tie) (k : Nat) : List Int := (rng k).filter fun i => stemB ts i.toNat
theorem stemsTo_succ (ts : List Tie) (k : Nat) : stemsTo ts (k + 1) = stemsTo ts k ++ (if stemB ts k = true then [(k : Int)] else []) := by
  unfold stemsTo
  rw [rng_succ, List.filter_append, List.filter_cons, Int.toNat_natCast]
  rfl
theorem stemsTo_len (ts : List Tie) (k : Nat) : (stemsTo ts k).length ≤ k := by
  unfold stemsTo
  have := List.length_filter_le (fun i => stemB ts i.toNat) (rng k)
  rw [rng_length] at this
  exact this
open Classical in
theorem stem_iff {ts : List Tie} {k : Nat} {t : Tie} (h : ts[k]? = some t) : stemB ts k = true ↔ ¬ Rch (ts.take k) t.one t.other := by
  unfold stemB
  rw [tieN_of h]
  exact decide_eq_true_iff
theorem take_snoc {α : Type} {ts : List α} {k : Nat} {t : α} (h : ts[k]? = some t) : ts.take (k + 1) = ts.take k ++ [t] := by
  rw [List.take_add_one, h]
  rfl
/-- labels: alike just where ties lead -/
def Lab (ts : List Tie) (n : Nat) (g : Int → Int) : Prop := ∀ i j : Int, 0 ≤ i → i < n → 0 ≤ j → j < n → (g i = g j ↔ Rch ts i j)
def mrg (g : Int → Int) (old new : Int) : Int → Int := fun x => if g x = old then new else g x
theorem lab_nil (n : Nat) : Lab [] n (fun i => i) := fun i j _ _ _ _ => ⟨fun h => by rw [show i = j from h]; exact .refl, fun h => rch_nil h⟩
theorem lab_same {ts : List Tie} {n : Nat} {g : Int → Int} {t : Tie} (h : Lab ts n g) (ok : TieOk n t) (e : g t.one = g t.other) : Lab (ts ++ [t]) n g := fun i j i0 i1 j0 j1 => by
  obtain ⟨o1, o2, o3, o4, _⟩ := ok
  have r : Rch ts t.one t.other := (h _ _ o1 o2 o3 o4).mp e
  rw [rch_snoc (.inl ⟨rfl, rfl⟩), h i j i0 i1 j0 j1]
  constructor
  · exact .inl
  · rintro (h1 | ⟨h1, h2⟩ | ⟨h1, h2⟩)
    · exact h1
    · exact h1.trans (r.trans h2)
    · exact h1.trans (r.symm.trans h2)
theorem lab_step {ts : List Tie} {n : Nat} {g : Int → Int} {t : Tie} {p q : Int} (h : Lab ts n g) (ok : TieOk n t) (e : (p = t.one ∧ q = t.other) ∨ (p = t.other ∧ q = t.one)) : Lab (ts ++ [t]) n (mrg g (g p) (g q)) := fun i j i0 i1 j0 j1 => by
  have pr : (0 ≤ p ∧ p < n) ∧ (0 ≤ q ∧ q < n) := by
    obtain ⟨o1, o2, o3, o4, _⟩ := ok
    rcases e with ⟨rfl, rfl⟩ | ⟨rfl, rfl⟩
    · exact ⟨⟨o1, o2⟩, o3, o4⟩
    · exact ⟨⟨o3, o4⟩, o1, o2⟩
  obtain ⟨⟨p0, p1⟩, q0, q1⟩ := pr
  rw [rch_snoc e]
  unfold mrg
  have ip := h i p i0 i1 p0 p1
  have jp := h j p j0 j1 p0 p1
  have iq := h i q i0 i1 q0 q1
  have jq := h j q j0 j1 q0 q1
  have ij := h i j i0 i1 j0 j1
  by_cases hi : g i = g p <;> by_cases hj : g j = g p
  · rw [if_pos hi, if_pos hj]
    exact ⟨fun _ => .inl (ij.mp (hi.trans hj.symm)), fun _ => rfl⟩
  · rw [if_pos hi, if_neg hj]
    constructor
    · intro z
      exact .inr (.inl ⟨ip.mp hi, (jq.mp z.symm).symm⟩)
    · rintro (z | ⟨_, z⟩ | ⟨_, z⟩)
      · exact absurd ((ij.mpr z).symm.trans hi) hj
      · exact (jq.mpr z.symm).symm
      · exact absurd (jp.mpr z.symm) hj
  · rw [if_neg hi, if_pos hj]
    constructor
    · intro z
      exact .inr (.inr ⟨iq.mp z, (jp.mp hj).symm⟩)
    · rintro (z | ⟨z, _⟩ | ⟨z, _⟩)
      · exact absurd ((ij.mpr z).trans hj) hi
      · exact absurd (ip.mpr z) hi
      · exact iq.mpr z
  · rw [if_neg hi, if_neg hj]
    constructor
    · intro z
      exact .inl (ij.mp z)
    · rintro (z | ⟨z, _⟩ | ⟨_, z⟩)
      · exact ij.mpr z
      · exact absurd (ip.mpr z) hi
      · exact absurd (jp.mpr z.symm) hj
/-- heads: labels that are places of their own; how many -/
structure Heads (ts : List Tie) (n i : Nat) (g : Int → Int) : Prop where
  lab : Lab (ts.take i) n g
  rng : ∀ x : Int, 0 ≤ x → x < n → 0 ≤ g x ∧ g x < n
  idem : ∀ x : Int, 0 ≤ x → x < n → g (g x) = g x
  cnt : ((FF.rng n).filter fun x => decide (g x = x)).length + (stemsTo ts i).length = n
theorem heads_nil (ts : List Tie) (n : Nat) : Heads ts n 0 (fun i => i) := by
  refine ⟨by rw [List.take_zero]; exact lab_nil n, fun x h0 h1 => ⟨h0, h1⟩, fun x _ _ => rfl, ?_⟩
  have e : ((FF.rng n).filter fun x => decide (x = x)) = FF.rng n := by
    rw [List.filter_eq_self]
    intro x _
    exact decide_eq_true rfl
  show ((FF.rng n).filter fun x => decide (x = x)).length + 0 = n
  rw [e, rng_length, Nat.add_zero]
theorem filter_drop {p q : Int → Bool} {h : Int} : ∀ {l : List Int}, l.Nodup → h ∈ l → p h = true → (∀ x ∈ l, q x = (p x && decide (x ≠ h))) → (l.filter q).length + 1 = (l.filter p).length
  | x :: l, nd, hm, hp, hq => by
    rw [List.nodup_cons] at nd
    have hx := hq x (by simp)
    rw [List.filter_cons, List.filter_cons, hx]
    by_cases e : x = h
    · subst e
      have same : l.filter q = l.filter p := List.filter_congr fun y hy => by
        rw [hq y (List.mem_cons_of_mem _ hy), decide_eq_true (show y ≠ x from fun z => nd.1 (by rw [← z]; exact hy)), Bool.and_true]
      rw [same, hp]
      simp
    · have hm' : h ∈ l := (List.mem_cons.mp hm).elim (fun z => absurd z.symm e) id
      have ih := filter_drop (l := l) nd.2 hm' hp fun y hy => hq y (List.mem_cons_of_mem _ hy)
      rw [decide_eq_true (show x ≠ h from e), Bool.and_true]
      cases p x
      · simpa using ih
      · simp
        omega
theorem heads_same {ts : List Tie} {n i : Nat} {g : Int → Int} {t : Tie} (h : Heads ts n i g) (et : ts[i]? = some t) (ok : TieOk n t) (e : g t.one = g t.other) : Heads ts n (i + 1) g := by
  refine ⟨by rw [take_snoc et]; exact lab_same h.lab ok e, h.rng, h.idem, ?_⟩
  have no : ¬ stemB ts i = true := fun z => (stem_iff et).mp z ((h.lab _ _ ok.1 ok.2.1 ok.2.2.1 ok.2.2.2.1).mp e)
  rw [stemsTo_succ, if_neg no, List.append_nil]
  exact h.cnt
theorem heads_step {ts : List Tie} {n i : Nat} {g : Int → Int} {t : Tie} {p q : Int} (h : Heads ts n i g) (et : ts[i]? = some t) (ok : TieOk n t) (e : (p = t.one ∧ q = t.other) ∨ (p = t.other ∧ q = t.one)) (ne : g p ≠ g q) : Heads ts n (i + 1) (mrg g (g p) (g q)) := by
  have pr : (0 ≤ p ∧ p < n) ∧ (0 ≤ q ∧ q < n) := by
    obtain ⟨o1, o2, o3, o4, _⟩ := ok
    rcases e with ⟨rfl, rfl⟩ | ⟨rfl, rfl⟩
    · exact ⟨⟨o1, o2⟩, o3, o4⟩
    · exact ⟨⟨o3, o4⟩, o1, o2⟩
  obtain ⟨⟨p0, p1⟩, q0, q1⟩ := pr
  have gp := h.rng p p0 p1
  have gq := h.rng q q0 q1
  have ip := h.idem p p0 p1
  have iq := h.idem q q0 q1
  refine ⟨by rw [take_snoc et]; exact lab_step h.lab ok e, fun x x0 x1 => ?_, fun x x0 x1 => ?_, ?_⟩
  · unfold mrg
    split
    · exact gq
    · exact h.rng x x0 x1
  · have ix := h.idem x x0 x1
    by_cases hx : g x = g p
    · have e1 : mrg g (g p) (g q) x = g q := if_pos hx
      rw [e1]
      show (if g (g q) = g p then g q else g (g q)) = g q
      rw [iq, if_neg (Ne.symm ne)]
    · have e1 : mrg g (g p) (g q) x = g x := if_neg hx
      rw [e1]
      show (if g (g x) = g p then g q else g (g x)) = g x
      rw [ix, if_neg hx]
  · have yes : stemB ts i = true := (stem_iff et).mpr fun z => by
      have hl := (h.lab _ _ ok.1 ok.2.1 ok.2.2.1 ok.2.2.2.1).mpr z
      rcases e with ⟨rfl, rfl⟩ | ⟨rfl, rfl⟩
      · exact ne hl
      · exact ne hl.symm
    have drop := filter_drop (p := fun x => decide (g x = x)) (q := fun x => decide (mrg g (g p) (g q) x = x)) (h := g p) (l := FF.rng n) ((rng_rising n).imp fun h => by omega) (mem_rng.mpr gp) (decide_eq_true ip) (fun x hx => ?_)
    · rw [stemsTo_succ, if_pos yes, List.length_append]
      have := h.cnt
      simp only [List.length_cons, List.length_nil]
      omega
    · have xr := mem_rng.mp hx
      rw [Bool.eq_iff_iff, Bool.and_eq_true, decide_eq_true_iff, decide_eq_true_iff, decide_eq_true_iff]
      show (if g x = g p then g q else g x) = x ↔ _
      by_cases hx : g x = g p
      · rw [if_pos hx]
        constructor
        · intro z
          exact absurd (by rw [← z, iq] at hx; exact hx.symm) ne
        · rintro ⟨z1, z2⟩
          exact absurd (z1.symm.trans hx) z2
      · rw [if_neg hx]
        exact ⟨fun z => ⟨z, fun y => hx (by rw [y]; exact ip)⟩, fun z => z.1⟩
/-- stems are told by the places of the ties alone -/
theorem rch_frames : ∀ {ts us : List Tie}, ts.length = us.length → (∀ (i : Nat) t u, ts[i]? = some t → us[i]? = some u → (u.one = t.one ∧ u.other = t.other) ∨ (u.one = t.other ∧ u.other = t.one)) → ∀ {a b : Int}, Rch ts a b → Rch us a b := by
  intro ts us hl h a b r
  refine r.ind (fun x => Rch us a x) .refl fun x y k hx ad => ?_
  obtain ⟨t, ht, _, e⟩ := ad
  obtain ⟨i, hi, rfl⟩ := List.getElem_of_mem ht
  have hu : us[i]? = some us[i] := List.getElem?_eq_getElem (by omega)
  have w := h i _ _ (List.getElem?_eq_getElem hi) hu
  refine hx.trans (Rch.adj (k := us[i].foe) ⟨us[i], List.getElem_mem _, rfl, ?_⟩)
  rcases w with ⟨w1, w2⟩ | ⟨w1, w2⟩ <;> rcases e with ⟨e1, e2⟩ | ⟨e1, e2⟩
  · exact .inl ⟨by omega, by omega⟩
  · exact .inr ⟨by omega, by omega⟩
  · exact .inr ⟨by omega, by omega⟩
  · exact .inl ⟨by omega, by omega⟩
def Framed (ts us : List Tie) : Prop := ts.length = us.length ∧ ∀ (i : Nat) t u, ts[i]? = some t → us[i]? = some u → (u.one = t.one ∧ u.other = t.other) ∨ (u.one = t.other ∧ u.other = t.one)
theorem Framed.symm {ts us : List Tie} (h : Framed ts us) : Framed us ts := ⟨h.1.symm, fun i u t e1 e2 => by
  rcases h.2 i t u e2 e1 with ⟨w1, w2⟩ | ⟨w1, w2⟩
  · exact .inl ⟨w1.symm, w2.symm⟩
  · exact .inr ⟨w2.symm, w1.symm⟩⟩
theorem Framed.take {ts us : List Tie} (h : Framed ts us) (k : Nat) : Framed (ts.take k) (us.take k) := by
  refine ⟨by rw [List.length_take, List.length_take, h.1], fun i t u e1 e2 => ?_⟩
  by_cases hk : i < k
  · rw [List.getElem?_take_of_lt hk] at e1 e2
    exact h.2 i t u e1 e2
  · rw [List.getElem?_take] at e1
    rw [if_neg hk] at e1
    cases e1
theorem Framed.map {ts : List Tie} {f : Tie → Tie} (h : ∀ t ∈ ts, ((f t).one = t.one ∧ (f t).other = t.other) ∨ ((f t).one = t.other ∧ (f t).other = t.one)) : Framed ts (ts.map f) := by
  refine ⟨by rw [List.length_map], fun i t u e1 e2 => ?_⟩
  rw [List.getElem?_map, e1] at e2
  cases e2
  exact h t (List.mem_of_getElem? e1)
theorem stems_framed {ts us : List Tie} (h : Framed ts us) : stemsTo us us.length = stemsTo ts ts.length := by
  unfold stemsTo
  rw [← h.1]
  refine List.filter_congr fun i hi => ?_
  have ir := mem_rng.mp hi
  have e1 : ts[i.toNat]? = some ts[i.toNat] := List.getElem?_eq_getElem (by omega)
  have l := h.1
  have e2 : us[i.toNat]? = some us[i.toNat] := List.getElem?_eq_getElem (by omega)
  have ht := h.take i.toNat
  rw [Bool.eq_iff_iff, stem_iff e1, stem_iff e2]
  have both : ∀ a b : Int, Rch (ts.take i.toNat) a b ↔ Rch (us.take i.toNat) a b := fun a b => ⟨fun r => rch_frames ht.1 ht.2 r, fun r => rch_frames ht.symm.1 ht.symm.2 r⟩
  rcases h.2 _ _ _ e1 e2 with ⟨w1, w2⟩ | ⟨w1, w2⟩
  · rw [w1, w2, both]
  · rw [w1, w2, both]
    exact ⟨fun z y => z y.symm, fun z y => z y.symm⟩
theorem stemsTo_rising (ts : List Tie) (k : Nat) : (stemsTo ts k).Pairwise (· < ·) := (rng_rising k).filter _
theorem stemsTo_mem {ts : List Tie} {k : Nat} {i : Int} : i ∈ stemsTo ts k ↔ (0 ≤ i ∧ i < k) ∧ stemB ts i.toNat = true := by
  unfold stemsTo
  rw [List.mem_filter, mem_rng]
theorem stems_own (ts : List Tie) : stemsTo ((stemsTo ts ts.length).map fun i => tieN ts i.toNat) (stemsTo ts ts.length).length = rng (stemsTo ts ts.length).length := by
  generalize hS : stemsTo ts ts.length = S
  unfold stemsTo
  rw [List.filter_eq_self]
  intro j hj
  have jr := mem_rng.mp hj
  have hjl : j.toNat < S.length := by omega
  have ej : (S.map fun i => tieN ts i.toNat)[j.toNat]? = some (tieN ts S[j.toNat].toNat) := by
    rw [List.getElem?_map, List.getElem?_eq_getElem hjl]
    rfl
  have hm : S[j.toNat] ∈ stemsTo ts ts.length := by rw [hS]; exact List.getElem_mem _
  obtain ⟨⟨m0, m1⟩, mb⟩ := stemsTo_mem.mp hm
  have et : ts[S[j.toNat].toNat]? = some (tieN ts S[j.toNat].toNat) := by
    have h : S[j.toNat].toNat < ts.length := by omega
    rw [List.getElem?_eq_getElem h, tieN_of (List.getElem?_eq_getElem h)]
  rw [stem_iff ej]
  rw [stem_iff et] at mb
  refine fun r => mb (r.mono fun t ht => ?_)
  rw [← List.map_take, List.mem_map] at ht
  obtain ⟨x, hx, rfl⟩ := ht
  obtain ⟨a, ha, rfl⟩ := List.getElem_of_mem hx
  rw [List.length_take] at ha
  rw [List.getElem_take]
  have hx' : S[a] ∈ stemsTo ts ts.length := by rw [hS]; exact List.getElem_mem _
  obtain ⟨⟨x0, x1⟩, _⟩ := stemsTo_mem.mp hx'
  have rise : S.Pairwise (· < ·) := by rw [← hS]; exact stemsTo_rising _ _
  have lt : S[a] < S[j.toNat] := List.pairwise_iff_getElem.mp rise a j.toNat (by omega) hjl (by omega)
  have h : S[a].toNat < ts.length := by omega
  rw [tieN_of (List.getElem?_eq_getElem h)]
  rw [List.mem_iff_getElem]
  exact ⟨S[a].toNat, by rw [List.length_take]; omega, by rw [List.getElem_take]⟩
/-! ### neighbours, and what a walk has come to (mathematics) -/
abbrev Nb := Int × Bool
def nb1 (t : Tie) (i : Int) : List Nb := (if i = t.one then [(t.other, t.foe)] else []) ++ (if i = t.other then [(t.one, t.foe)] else [])
def nbs (ts : List Tie) (i : Int) : List Nb := ts.flatMap fun t => nb1 t i
theorem nbs_snoc (ts : List Tie) (t : Tie) (i : Int) : nbs (ts ++ [t]) i = nbs ts i ++ nb1 t i := by
  unfold nbs
  rw [List.flatMap_append]
  simp
theorem nb1_len (t : Tie) (i : Int) : (nb1 t i).length ≤ 2 := by
  unfold nb1
  rw [List.length_append]
  split <;> split <;> simp
theorem nbs_len (ts : List Tie) (i : Int) : (nbs ts i).length ≤ 2 * ts.length := by
  induction ts with
  | nil => simp [nbs]
  | cons t ts ih =>
    have h := nb1_len t i
    unfold nbs at ih ⊢
    rw [List.flatMap_cons, List.length_append, List.length_cons]
    omega
theorem mem_nbs {ts : List Tie} {i : Int} {p : Nb} : p ∈ nbs ts i ↔ Adj ts i p.1 p.2 := by
  unfold nbs Adj nb1
  rw [List.mem_flatMap]
  constructor
  · rintro ⟨t, ht, h⟩
    refine ⟨t, ht, ?_⟩
    rcases List.mem_append.mp h with h | h
    · split at h
      · rename_i e
        rw [List.mem_singleton] at h
        subst h
        exact ⟨rfl, .inl ⟨e.symm, rfl⟩⟩
      · simp at h
    · split at h
      · rename_i e
        rw [List.mem_singleton] at h
        subst h
        exact ⟨rfl, .inr ⟨rfl, e.symm⟩⟩
      · simp at h
  · rintro ⟨t, ht, e, h⟩
    refine ⟨t, ht, List.mem_append.mpr ?_⟩
    obtain ⟨p1, p2⟩ := p
    simp only at e h
    rcases h with ⟨h1, h2⟩ | ⟨h1, h2⟩
    · left
      rw [if_pos h1.symm, List.mem_singleton, ← e, ← h2]
    · right
      rw [if_pos h2.symm, List.mem_singleton, ← e, ← h1]
theorem pigeon : ∀ (n : Nat) (xs : List Int), xs.Nodup → (∀ x ∈ xs, 0 ≤ x ∧ x < n) → xs.length ≤ n
  | 0, xs, _, h => by
    cases xs with
    | nil => simp
    | cons x r =>
      have := h x (by simp)
      omega
  | n + 1, xs, nd, h => by
    have q := pigeon n (xs.erase (n : Int)) (nd.erase _) fun x hx => by
      have h1 := h x (List.mem_of_mem_erase hx)
      have h2 : x ≠ n := (List.Nodup.mem_erase_iff nd).mp hx |>.1
      omega
    have l := List.length_erase (a := (n : Int)) (l := xs)
    split at l
    · omega
    · omega
structure SF (ts : List Tie) (s : Int) (ks : List Nb) (wl ex : List Int) : Prop where
  nd : (ks.map (·.1)).Nodup
  rp : ∀ p ∈ ks, RP ts s p.1 p.2
  st : s ∈ ks.map (·.1)
  sub : ∀ x ∈ wl, x ∈ ks.map (·.1)
  le : wl.length ≤ ks.length
  cl : ∀ x ∈ ks.map (·.1), x ∉ wl → x ∉ ex → ∀ y k, Adj ts x y k → y ∈ ks.map (·.1)
theorem SF.keys {ts : List Tie} {s : Int} {ks : List Nb} {wl ex : List Int} (h : SF ts s ks wl ex) {x : Int} (hx : x ∈ ks.map (·.1)) : ∃ b, (x, b) ∈ ks ∧ RP ts s x b := by
  obtain ⟨p, hp, rfl⟩ := List.mem_map.mp hx
  exact ⟨p.2, hp, h.rp p hp⟩
theorem SF.few {ts : List Tie} {n : Nat} {s : Int} {ks : List Nb} {wl ex : List Int} (h : SF ts s ks wl ex) (ok : ∀ t ∈ ts, TieOk n t) (hs : 0 ≤ s ∧ s < n) : ks.length ≤ n := by
  have q := pigeon n (ks.map (·.1)) h.nd fun x hx => by
    obtain ⟨b, _, hb⟩ := h.keys hx
    exact Rch.rng ok hs ⟨b, hb⟩
  rw [List.length_map] at q
  exact q
theorem SF.all {ts : List Tie} {s : Int} {ks : List Nb} (h : SF ts s ks [] []) (z : Int) : z ∈ ks.map (·.1) ↔ Rch ts s z := by
  constructor
  · intro hz
    obtain ⟨b, _, hb⟩ := h.keys hz
    exact ⟨b, hb⟩
  · intro hz
    exact hz.ind (fun x => x ∈ ks.map (·.1)) h.st fun x y k hx ad => h.cl x hx (by simp) (by simp) y k ad
theorem SF.pop {ts : List Tie} {s p : Int} {ks : List Nb} {wl : List Int} (h : SF ts s ks (wl ++ [p]) []) : SF ts s ks wl [p] :=
  ⟨h.nd, h.rp, h.st, fun x hx => h.sub x (List.mem_append_left _ hx), by have := h.le; rw [List.length_append] at this; omega, fun x hx h1 h2 => h.cl x hx (fun z => by
    rcases List.mem_append.mp z with z | z
    · exact h1 z
    · exact h2 z) (by simp)⟩
theorem SF.push {ts : List Tie} {s p y : Int} {b f : Bool} {ks : List Nb} {wl : List Int} (h : SF ts s ks wl [p]) (hp : RP ts s p b) (ad : Adj ts p y f) (hy : y ∉ ks.map (·.1)) : SF ts s (ks ++ [(y, b ^^ f)]) (wl ++ [y]) [p] := by
  have em : (ks ++ [(y, b ^^ f)]).map (·.1) = ks.map (·.1) ++ [y] := by rw [List.map_append]; rfl
  refine ⟨?_, fun q hq => ?_, ?_, fun x hx => ?_, ?_, fun x hx h1 h2 z k hz => ?_⟩
  · rw [em, List.nodup_append]
    refine ⟨h.nd, by simp, fun x hx z hz e => ?_⟩
    rw [List.mem_singleton] at hz
    subst hz
    subst e
    exact hy hx
  · rcases List.mem_append.mp hq with q1 | q1
    · exact h.rp q q1
    · rw [List.mem_singleton] at q1
      subst q1
      exact hp.step ad
  · rw [em]
    exact List.mem_append_left _ h.st
  · rw [em]
    rcases List.mem_append.mp hx with q1 | q1
    · exact List.mem_append_left _ (h.sub x q1)
    · exact List.mem_append_right _ q1
  · rw [List.length_append, List.length_append]
    have := h.le
    simp
    omega
  · rw [em] at hx ⊢
    rcases List.mem_append.mp hx with q1 | q1
    · exact List.mem_append_left _ (h.cl x q1 (fun q2 => h1 (List.mem_append_left _ q2)) h2 z k hz)
    · exact absurd (List.mem_append_right _ q1) h1
theorem SF.done {ts : List Tie} {s p : Int} {ks : List Nb} {wl : List Int} (h : SF ts s ks wl [p]) (hp : ∀ q ∈ nbs ts p, q.1 ∈ ks.map (·.1)) : SF ts s ks wl [] :=
  ⟨h.nd, h.rp, h.st, h.sub, h.le, fun x hx h1 _ y k ad => by
    by_cases e : x = p
    · subst e
      exact hp (y, k) (mem_nbs.mpr ad)
    · exact h.cl x hx h1 (fun z => e (List.mem_singleton.mp z)) y k ad⟩
theorem room1 {k : Nat} {A : PySem.Around} (r : Room k A) : A.units + 1 < cLine := by have := r.un; omega
/-! ### the law: the least place that each comes to -/
def lf (f : Int → Int) (n : Nat) : List V := (rng n).map fun i => V.int (f i)
theorem lf_len (f : Int → Int) (n : Nat) : (lf f n).length = n := by unfold lf; rw [List.length_map, rng_length]
theorem lf_get? (f : Int → Int) {n j : Nat} (h : j < n) : (lf f n)[j]? = some (.int (f j)) := by
  unfold lf rng
  rw [List.map_map, List.getElem?_map, List.getElem?_range h]
  rfl
theorem lf_at (f : Int → Int) {n : Nat} {i : Int} (h0 : 0 ≤ i) (h1 : i < n) : atI (lf f n) i = some (.int (f i)) := by
  have e : ((i.toNat : Nat) : Int) = i := by omega
  refine atI_of h0 ?_
  rw [lf_get? f (by omega), e]
theorem lf_set (f : Int → Int) {n : Nat} {i y : Int} (h0 : 0 ≤ i) (h1 : i < n) : (lf f n).set i.toNat (.int y) = lf (fun x => if x = i then y else f x) n := by
  refine List.ext_getElem? fun j => ?_
  rw [List.getElem?_set]
  by_cases hj : j < n
  · by_cases e : i.toNat = j
    · rw [if_pos e, if_pos (by rw [lf_len]; omega), lf_get? _ hj, if_pos (by omega)]
    · rw [if_neg e, lf_get? _ hj, lf_get? _ hj, if_neg (by omega)]
  · have e : i.toNat ≠ j := by omega
    rw [if_neg e, List.getElem?_eq_none (by rw [lf_len]; omega), List.getElem?_eq_none (by rw [lf_len]; omega)]
theorem ixN_of {n : Nat} {i : Int} (h0 : 0 ≤ i) (h1 : i < n) : ixN n i = some i.toNat := by
  unfold ixN
  rw [if_pos (by omega), if_pos (by omega)]
/-! ### enumerate of a tuple -/
set_option maxHeartbeats 1000000 in
theorem meets_enumOne {v : Value} {o : Obj} {S : Heap → Prop} (B : Begins v o S) : Meets (Builtin.«enumerate.__new__» ⟨[.type "enumerate", v], []⟩) (fun _ R s => S s.heap ∧
      R (.ok (.ret (.ref (s.heap.push o).objs.size))) { s with heap := (s.heap.push o).push { cls := .type "enumerate", data := .fields #[.none, .bool false, .ref s.heap.objs.size, rawInt 0, .none, .none] } }) :=
  .of_wp fun prog w A R s h => by
    obtain ⟨hp, g, d, tk, os⟩ := s
    obtain ⟨h1, h⟩ := h
    have sub0 := sub_enumerate
    have begun : ∀ {A' : PySem.Around} {E : Value → Shared → Prop} {Q : Value → Shared → Prop}, Q (.ref hp.objs.size) ⟨hp.push o, g, d, tk, os⟩ → wpAny (model prog w) A' (pyIter v) Q E ⟨hp, g, d, tk, os⟩ := fun q => B.iter prog w _ _ ⟨hp, g, d, tk, os⟩ _ h1 q
    wp_walk using begun
    refine wpAny_stack_any fun st => wpAny_pure ?_
    split
    · rename_i c _ _ _ _ _
      cases (c == Value.type "enumerate")
      all_goals
        wp_walk using begun
        exact ⟨_, rfl, h⟩
    · wp_walk using begun
      exact ⟨_, rfl, h⟩
theorem call_enumT {P : Program} {w : World} {A : PySem.Around} {E : Value → Shared → Prop} {s : Shared} {t : Addr} {items : Array Value} {Q : Value → Shared → Prop} (ht : s.heap.IsTuple t items)
    (h : ∀ h', IsEnum h' (s.heap.objs.size + 1) s.heap.objs.size 0 .none → h'.IsTupleIter s.heap.objs.size t 0 → (∀ b o, s.heap.get? b = some o → h'.get? b = some o) → Q (.ref (s.heap.objs.size + 1)) { s with heap := h' }) : wpAny (model P w) A (call (.type "enumerate") [.ref t]) Q E s := by
  refine callType_new PySem.F.called_enumerate (by decide) (PySem.F.typeCall_enumerate_1 _) (PySem.F.newCall_enumerate_1 _) (fun ob => PySem.F.args_object_init_2 ob _) PySem.F.entry_enumerate_new (meets_enumOne (begins_tuple t items)) ⟨ht, ?_⟩
  have size1 := Heap.size_push s.heap { cls := .type "tuple_iterator", data := .fields #[.ref t, .int 0 0] }
  have en := Heap.get?_push_size (s.heap.push { cls := .type "tuple_iterator", data := .fields #[.ref t, .int 0 0] }) (o := { cls := .type "enumerate", data := .fields #[.none, .bool false, .ref s.heap.objs.size, rawInt 0, .none, .none] }) rfl
  rw [size1] at en
  show _ ∧ _
  rw [size1]
  exact ⟨⟨_, en, rfl⟩, h _ en ⟨_, Heap.get?_push_of_some _ (Heap.get?_push_size _ rfl), rfl, rfl⟩ fun b o e => Heap.get?_push_of_some _ (Heap.get?_push_of_some _ e)⟩
/-- the turns: a new pair each, of the number and the part -/
def ItN (K : PySem.W.Frag) (a : Addr) : It where
  go := fun i H => ∃ (xs : List V) (x : V), SqT K H a xs ∧ xs[i]? = some x
  yld := fun i H v H' => ∃ T x, v = .ref T ∧ H T = none ∧ H' = upd H T (.tup [.int (i : Nat), x]) ∧ ∀ xs, SqT K H a xs → xs[i]? = some x
  stop := fun i H => ∃ xs : List V, SqT K H a xs ∧ xs.length ≤ i
theorem turn_enumT {P : Program} {w : World} {K : PySem.W.Frag} {elts : List Expr} {kk : Nat} {tpos : Pos} (a e it : Addr) (n1 : e ≠ it) (n2 : a ≠ it) (n3 : e ≠ a) :
    Turn P w K (.Tuple elts kk tpos) (ItN K a) [e, it] e (fun i h => (∃ old, IsEnum h e it ((i : Nat) : Int) old) ∧ h.IsTupleIter it a i) where
  mem := List.mem_cons_self
  obj := by
    rintro i h ⟨⟨old, he⟩, o, ho, hc, hd⟩ b hb
    rcases List.mem_cons.mp hb with rfl | hb
    · exact ⟨_, he, fun v q => nomatch q⟩
    · rw [List.mem_singleton.mp hb]
      exact ⟨o, ho, fun v q => by rw [hd] at q; cases q⟩
  keep := by
    rintro i h h' ⟨⟨old, he⟩, hit⟩ kp
    exact ⟨⟨old, kp e (by simp) _ he⟩, hit.at fun o q => kp it (by simp) o q⟩
  item := by
    intro X hP hw hK hc i pins s σ H E I hf st hg
    subst hP hw hK
    obtain ⟨⟨old, he⟩, hit⟩ := st
    obtain ⟨xs, x, hq, hx⟩ := hg
    obtain ⟨its, rv, tup, _⟩ := I.tuple hq
    obtain ⟨u, hu, ru⟩ := rv.get hx
    have le := Heap.lt_size he
    have li : it < s.heap.objs.size := let ⟨_, q, _⟩ := hit; Heap.lt_size q
    have lt : i < its.toArray.size := by simpa using (List.getElem?_eq_some_iff.mp hu).1
    refine wpAny_pyNext_enum_itemD (Draws.tuple (A := X.A.in1) (I.ok.hd hc) it a n2 its.toArray) he ⟨hit, tup⟩ lt n1 (by simp [n1, n3]) fun x' h' tk ex out st' new _ kp => ?_
    obtain rfl : u = x' := Option.some.inj (((by simpa using hu) : its.toArray[i]? = some u).symm.trans ex)
    refine ⟨_, rfl, wpAny_letOwnedTupleGo_enum (s := { s with heap := h', toks := tk + 1 }) out fun h2 he2 sb => ?_⟩
    have new2 : h2.get? s.heap.objs.size = some { cls := .type "tuple", data := .seq #[.int i tk, u] } := (sb.2 _ (Nat.ne_of_gt le)).trans new
    have objT : ObjOk X.prog X.w (upd H s.heap.objs.size (.tup [.int (i : Nat), x])) h2 s.heap.objs.size (.tup [.int (i : Nat), x]) := ⟨by show 2 ≤ sizeLine; decide, [.int i tk, u], .cons ⟨_, rfl⟩ (.cons ru .nil), ⟨_, new2, rfl, _, rfl⟩⟩
    have J : Inv X pins σ (upd H s.heap.objs.size (.tup [.int (i : Nat), x])) { s with heap := h2, toks := tk + 1 } := I.turnedNew (ch := [e, it]) (fun b ob hb q => by
      simp only [List.mem_cons, List.not_mem_nil, or_false, not_or] at hb
      exact (sb.2 b hb.1).trans (kp b ob hb.1 hb.2 q)) hf (Nat.le_refl _) objT
    refine ⟨.ref s.heap.objs.size, _, J, rfl, ⟨_, x, rfl, I.hok.fresh (Nat.le_refl _), rfl, fun ys hy => by rw [I.tuple_inj hy hq]; exact hx⟩, ⟨⟨u, ?_⟩, st'.1.at fun o q => (sb.2 it (Ne.symm n1)).trans q⟩, fun b hb => ?_⟩
    · rw [show ((i + 1 : Nat) : Int) = (i : Int) + 1 from by omega]
      exact he2
    · have lb : b < s.heap.objs.size := by
        rcases List.mem_cons.mp hb with rfl | hb
        · exact le
        · rw [List.mem_singleton.mp hb]
          exact li
      rw [upd_ne (Nat.ne_of_lt lb)]
      exact (hf b hb).1
  done := by
    intro X hP hw hK hc i pins s σ H E I hf st hg
    subst hP hw hK
    obtain ⟨⟨old, he⟩, hit⟩ := st
    obtain ⟨xs, hq, hx⟩ := hg
    obtain ⟨its, rv, tup, _⟩ := I.tuple hq
    have hl := rv.length
    obtain ⟨f0, f1, f2, f3, f4, f5⟩ := hf it (by simp)
    have D : Draws X.prog X.w X.A.in1 it [it, a] i (fun _ _ => False) (fun j h => j = i ∧ h.IsTupleIter it a i ∧ h.IsTuple a its.toArray) := {
      live := fun j h z => let ⟨_, ⟨o, q, _⟩, _⟩ := z; ⟨o, q⟩
      frame := fun j h h' z kp => ⟨z.1, z.2.1.at fun o q => kp it (by simp) o q, z.2.2.at fun o q => kp a (by simp) o q⟩
      item := fun j s' Q E' hj z => absurd z.1 (Nat.ne_of_lt hj)
      done := fun s' Q E' z fin => wpAny_nextOf_tuple_end (I.ok.hd hc) z.2.1 z.2.2 (by simp; omega) fin }
    exact wpAny_pyNext_enum_endD D he ⟨rfl, hit, tup⟩ fun h' eb => ⟨rfl, I.turned (t' := s.toks) (fun b o hb q => eb b o hb q) f0 f1 f3 f4 f5⟩
  self := fun A i s Q E st h => let ⟨⟨_, he⟩, _⟩ := st; wpAny_pyIter_enum he h
def iEnT (K : PySem.W.Frag) (ta : TA) : TI := fun σ H R => ta σ H fun vs H1 => ∃ a xs, vs = [.ref a] ∧ SqT K H1 a xs ∧ R (ItN K a) H1
theorem pi_enumT {X : Cx} {e : Expr} {ta : TA} {p pos tpos : Pos} {elts : List Expr} {kk : Nat} (hg : Gl X "enumerate") (hm : X.mg "enumerate" = none) (ha : PA X [e] ta) (hs : starEach [e] X.env = [(false, eval e X.env)] := by rfl) :
    PI X (.Tuple elts kk tpos) (.Call (.Name "enumerate" p) [e] [] pos) (iEnT X.K ta) := by
  refine ⟨fun pins s σ H R I want => Call_ (ld_blt I hg hm boot_enumerate (PyProof.Rows.callWith_type1 (thn (ha.run pos pins s σ H _ I want) fun us s1 got => ?_) hs rfl))⟩
  obtain ⟨vs, H1, J, rel, a, xs, ex, hq, q⟩ := got
  subst ex
  obtain ⟨u, eu, r1⟩ := vals1 rel
  subst eu
  obtain rfl : u = Value.ref a := r1
  obtain ⟨its, rv, tup, _⟩ := J.tuple hq
  have la : a < s1.heap.objs.size := let ⟨_, q, _⟩ := tup; Heap.lt_size q
  refine call_enumT (items := its.toArray) tup fun h' he hit kp => wpAny_pyIter_enum he ?_
  have J2 : Inv X pins σ H1 { s1 with heap := h' } := J.kept (t' := s1.toks) kp
  refine ⟨s1.heap.objs.size + 1, [s1.heap.objs.size + 1, s1.heap.objs.size], _, _, H1, rfl, J2, turn_enumT a (s1.heap.objs.size + 1) s1.heap.objs.size (Nat.succ_ne_self _) (Nat.ne_of_lt la) (Nat.ne_of_gt (Nat.lt_succ_of_lt la)), ⟨⟨.none, he⟩, hit⟩, fun b hb => ?_, q⟩
  have lb : s1.heap.objs.size ≤ b := by
    rcases List.mem_cons.mp hb with rfl | hb
    · exact Nat.le_succ _
    · rw [List.mem_singleton.mp hb]
      exact Nat.le_refl _
  exact J.fpOk lb (J.hok.fresh lb)
theorem walk_enumT {K : PySem.W.Frag} {a : Addr} {xs : List V} : Walk (ItN K a) xs.length (fun H => SqT K H a xs) (YPair (fun i => some (.int (i : Nat))) (fun i => xs[i]?)) :=
  ⟨fun i H hi h => ⟨xs, xs[i], h, List.getElem?_eq_getElem hi⟩, fun H h => ⟨xs, h, Nat.le_refl _⟩, fun i H x H' hi h y => by
    obtain ⟨T, z, e1, e2, e3, e4⟩ := y
    exact ⟨T, _, z, e1, e2, e3, rfl, e4 xs h⟩⟩
/-! ### zip of three tuples of one length -/
def ItZ (K : PySem.W.Frag) (a b c : Addr) : It where
  go := fun i H => ∃ (xs ys zs : List V), (SqT K H a xs ∧ SqT K H b ys ∧ SqT K H c zs) ∧ i < xs.length ∧ ys.length = xs.length ∧ zs.length = xs.length
  yld := fun i H v H' => ∃ T x y z, v = .ref T ∧ H T = none ∧ H' = upd H T (.tup [x, y, z]) ∧ (∀ xs, SqT K H a xs → xs[i]? = some x) ∧ (∀ ys, SqT K H b ys → ys[i]? = some y) ∧ ∀ zs, SqT K H c zs → zs[i]? = some z
  stop := fun i H => ∃ (xs ys zs : List V), (SqT K H a xs ∧ SqT K H b ys ∧ SqT K H c zs) ∧ xs.length = i ∧ ys.length = i ∧ zs.length = i
theorem turn_zip3 {P : Program} {w : World} {K : PySem.W.Frag} {elts : List Expr} {kk : Nat} {tpos : Pos} {a b c z TI TO i1 i2 i3 : Addr} (S : ZipSep3 z TI TO i1 i2 i3 [i1, a] [i2, b] [i3, c]) (n1 : a ≠ i1) (n2 : b ≠ i2) (n3 : c ≠ i3) :
    Turn P w K (.Tuple elts kk tpos) (ItZ K a b c) [z, TI, TO, i1, i2, i3] z (fun i h => IsZip h z TI TO .none ∧ IsTupOf3 h TI (.ref i1) (.ref i2) (.ref i3) ∧ (∃ a1 a2 a3, IsTupOf3 h TO a1 a2 a3) ∧ h.IsTupleIter i1 a i ∧ h.IsTupleIter i2 b i ∧ h.IsTupleIter i3 c i) where
  mem := List.mem_cons_self
  obj := by
    rintro i h ⟨hz, hTI, ⟨a1, a2, a3, hTO⟩, ⟨o1, e1, _, d1⟩, ⟨o2, e2, _, d2⟩, ⟨o3, e3, _, d3⟩⟩ q hq
    simp only [List.mem_cons, List.not_mem_nil, or_false] at hq
    rcases hq with rfl | rfl | rfl | rfl | rfl | rfl
    · exact ⟨_, hz, fun v y => nomatch y⟩
    · exact ⟨_, hTI, fun v y => nomatch y⟩
    · exact ⟨_, hTO, fun v y => nomatch y⟩
    · exact ⟨o1, e1, fun v y => by rw [d1] at y; cases y⟩
    · exact ⟨o2, e2, fun v y => by rw [d2] at y; cases y⟩
    · exact ⟨o3, e3, fun v y => by rw [d3] at y; cases y⟩
  keep := by
    rintro i h h' ⟨hz, hTI, ⟨a1, a2, a3, hTO⟩, t1, t2, t3⟩ kp
    exact ⟨kp z (by simp) _ hz, kp TI (by simp) _ hTI, ⟨a1, a2, a3, kp TO (by simp) _ hTO⟩, t1.at fun o q => kp i1 (by simp) o q, t2.at fun o q => kp i2 (by simp) o q, t3.at fun o q => kp i3 (by simp) o q⟩
  item := by
    intro X hP hw hK hc i pins s σ H E I hf st hg
    subst hP hw hK
    obtain ⟨hz, hTI, hTO, t1, t2, t3⟩ := st
    obtain ⟨xs, ys, zs, ⟨qx, qy, qz⟩, hi, ly, lz⟩ := hg
    obtain ⟨us, ru, tu, _⟩ := I.tuple qx
    obtain ⟨vs, rv, tv, _⟩ := I.tuple qy
    obtain ⟨ws, rw', tw, _⟩ := I.tuple qz
    have lu := ru.length
    have lv := rv.length
    have lw := rw'.length
    obtain ⟨u, hu, eu⟩ := ru.get (List.getElem?_eq_getElem hi)
    obtain ⟨v, hv, ev⟩ := rv.get (List.getElem?_eq_getElem (show i < ys.length by omega))
    obtain ⟨w', hw, ew⟩ := rw'.get (List.getElem?_eq_getElem (show i < zs.length by omega))
    have W := WalksT.zipD3 (A := X.A) S (Draws.tuple (prog := X.prog) (w := X.w) (A := X.A.in1) (I.ok.hd hc) i1 a n1 us.toArray) (Draws.tuple (prog := X.prog) (w := X.w) (A := X.A.in1) (I.ok.hd hc) i2 b n2 vs.toArray) (Draws.tuple (prog := X.prog) (w := X.w) (A := X.A.in1) (I.ok.hd hc) i3 c n3 ws.toArray)
    refine W.item i s _ _ (by simp only [List.size_toArray]; omega) ⟨hz, hTI, hTO, ⟨t1, tu⟩, ⟨t2, tv⟩, ⟨t3, tw⟩⟩ fun T vals h' tk hp newT isT mid kp => ?_
    obtain ⟨y1, y2, y3, p1, p2, p3, rfl⟩ := hp
    have apart := W.apart i T h' mid
    obtain rfl : u = y1 := Option.some.inj (((by simpa using hu) : us.toArray[i]? = some u).symm.trans p1)
    obtain rfl : v = y2 := Option.some.inj (((by simpa using hv) : vs.toArray[i]? = some v).symm.trans p2)
    obtain rfl : w' = y3 := Option.some.inj (((by simpa using hw) : ws.toArray[i]? = some w').symm.trans p3)
    refine ⟨_, rfl, W.go elts kk tpos i T { s with heap := h', toks := tk } _ _ mid fun h2 st2 kp2 => ?_⟩
    obtain ⟨g1, g2, g3, ⟨g4, _⟩, ⟨g5, _⟩, ⟨g6, _⟩⟩ := st2
    have objT : ObjOk X.prog X.w (upd H T (.tup [xs[i], ys[i], zs[i]])) h2 T (.tup [xs[i], ys[i], zs[i]]) := by
      obtain ⟨ot, et, ct, nt, dt⟩ := isT
      exact ⟨by show 3 ≤ sizeLine; decide, [u, v, w'], .cons eu (.cons ev (.cons ew .nil)), ⟨ot, kp2 _ _ apart et, ct, nt, dt⟩⟩
    have J : Inv X pins σ (upd H T (.tup [xs[i], ys[i], zs[i]])) { s with heap := h2, toks := tk } := I.turnedNew (ch := [z, TI, TO, i1, i2, i3]) (fun q ob hq e => by
      simp only [List.mem_cons, List.not_mem_nil, or_false, not_or] at hq
      have nw : q ∉ [z, TO, i1, i2, i3] := by simp [hq]
      exact kp2 q ob nw (kp q ob nw e)) hf newT objT
    refine ⟨.ref T, _, J, rfl, ⟨T, _, _, _, rfl, I.hok.fresh newT, rfl, fun l hl => by rw [I.tuple_inj hl qx]; exact List.getElem?_eq_getElem hi, fun l hl => by rw [I.tuple_inj hl qy]; exact List.getElem?_eq_getElem _, fun l hl => by rw [I.tuple_inj hl qz]; exact List.getElem?_eq_getElem _⟩, ⟨g1, g2, g3, g4, g5, g6⟩, fun q hq => ?_⟩
    have lq : q < s.heap.objs.size := by
      obtain ⟨_, _, ⟨a1, a2, a3, hTO⟩⟩ := (⟨hz, hTI, hTO⟩ : _ ∧ _ ∧ _)
      obtain ⟨o1, e1, _⟩ := t1
      obtain ⟨o2, e2, _⟩ := t2
      obtain ⟨o3, e3, _⟩ := t3
      simp only [List.mem_cons, List.not_mem_nil, or_false] at hq
      rcases hq with rfl | rfl | rfl | rfl | rfl | rfl
      · exact Heap.lt_size hz
      · exact Heap.lt_size hTI
      · exact Heap.lt_size hTO
      · exact Heap.lt_size e1
      · exact Heap.lt_size e2
      · exact Heap.lt_size e3
    rw [upd_ne (Nat.ne_of_lt (Nat.lt_of_lt_of_le lq newT))]
    exact (hf q hq).1
  done := by
    intro X hP hw hK hc i pins s σ H E I hf st hg
    subst hP hw hK
    obtain ⟨hz, hTI, hTO, t1, t2, t3⟩ := st
    obtain ⟨xs, ys, zs, ⟨qx, qy, qz⟩, lx, ly, lz⟩ := hg
    obtain ⟨us, ru, tu, _⟩ := I.tuple qx
    obtain ⟨vs, rv, tv, _⟩ := I.tuple qy
    obtain ⟨ws, rw', tw, _⟩ := I.tuple qz
    have lu := ru.length
    have lv := rv.length
    have lw := rw'.length
    have W := WalksT.zipD3 (A := X.A) S (Draws.tuple (prog := X.prog) (w := X.w) (A := X.A.in1) (I.ok.hd hc) i1 a n1 us.toArray) (Draws.tuple (prog := X.prog) (w := X.w) (A := X.A.in1) (I.ok.hd hc) i2 b n2 vs.toArray) (Draws.tuple (prog := X.prog) (w := X.w) (A := X.A.in1) (I.ok.hd hc) i3 c n3 ws.toArray)
    have en : min (min us.toArray.size vs.toArray.size) ws.toArray.size = i := by simp only [List.size_toArray]; omega
    refine W.done s _ _ ?_ fun h' tk kp => ⟨rfl, ?_⟩
    · rw [en]
      exact ⟨hz, hTI, hTO, ⟨t1, tu⟩, ⟨t2, tv⟩, ⟨t3, tw⟩⟩
    · refine I.turnedL (ch := [z, TI, TO, i1, i2, i3]) (fun q ob hq e => ?_) hf
      simp only [List.mem_cons, List.not_mem_nil, or_false, not_or] at hq
      exact kp q ob (by simp [hq]) e
  self := by
    rintro A i s Q E ⟨hz, _⟩ h
    exact wpAny_pyIter_zip hz h
def iZip3 (K : PySem.W.Frag) (ta : TA) : TI := fun σ H R => ta σ H fun vs H1 => ∃ a b c xs ys zs, vs = [.ref a, .ref b, .ref c] ∧ SqT K H1 a xs ∧ SqT K H1 b ys ∧ SqT K H1 c zs ∧ R (ItZ K a b c) H1
theorem pi_zip3 {X : Cx} {e e2 e3 : Expr} {ta : TA} {p pos tpos : Pos} {elts : List Expr} {kk : Nat} (hg : Gl X "zip") (hm : X.mg "zip" = none) (ha : PA X [e, e2, e3] ta) (hs : starEach [e, e2, e3] X.env = (false, eval e X.env) :: starEach [e2, e3] X.env := by rfl)
    (hpl : (backTo pos (starEach [e2, e3] X.env)).any (·.1) = false := by rfl) : PI X (.Tuple elts kk tpos) (.Call (.Name "zip" p) [e, e2, e3] [] pos) (iZip3 X.K ta) := by
  refine ⟨fun pins s σ H R I want => Call_ (ld_blt I hg hm PyProof.Rows.boot_zip (PyProof.Rows.callWith_type1 (thn (ha.run pos pins s σ H _ I want) fun us s1 got => ?_) hs hpl))⟩
  obtain ⟨vs, H1, J, rel, a, b, c, xs, ys, zs, ex, qa, qb, qc, q⟩ := got
  subst ex
  cases rel with
  | cons r1 rel =>
    cases rel with
    | cons r2 rel =>
      cases rel with
      | cons r3 rel =>
        cases rel
        cases r1
        cases r2
        cases r3
        obtain ⟨u1, _, t1, _⟩ := J.tuple qa
        obtain ⟨u2, _, t2, _⟩ := J.tuple qb
        obtain ⟨u3, _, t3, _⟩ := J.tuple qc
        have la : a < s1.heap.objs.size := let ⟨_, y, _⟩ := t1; Heap.lt_size y
        have lb : b < s1.heap.objs.size := let ⟨_, y, _⟩ := t2; Heap.lt_size y
        have lc : c < s1.heap.objs.size := let ⟨_, y, _⟩ := t3; Heap.lt_size y
        refine zip_begins3 (begins_tuple a u1.toArray) (begins_tuple b u2.toArray) (begins_tuple c u3.toArray) t1 t2 t3 fun h' hz hTI hTO g1 g2 g3 _ kp => wpAny_pyIter_zip hz ?_
        have J2 : Inv X pins σ H1 { s1 with heap := h' } := J.kept (t' := s1.toks) kp
        have S := zip_sep3 (N := s1.heap.objs.size) (fp1 := [a]) (fp2 := [b]) (fp3 := [c]) (fun y hy => by rw [List.mem_singleton.mp hy]; exact la) (fun y hy => by rw [List.mem_singleton.mp hy]; exact lb) (fun y hy => by rw [List.mem_singleton.mp hy]; exact lc)
        refine ⟨s1.heap.objs.size + 5, [s1.heap.objs.size + 5, s1.heap.objs.size + 3, s1.heap.objs.size + 4, s1.heap.objs.size, s1.heap.objs.size + 1, s1.heap.objs.size + 2], _, _, H1, rfl, J2, turn_zip3 S (Nat.ne_of_lt la) (Nat.ne_of_lt (Nat.lt_succ_of_lt lb)) (Nat.ne_of_lt (Nat.lt_succ_of_lt (Nat.lt_succ_of_lt lc))), ⟨hz, hTI, ⟨_, _, _, hTO⟩, ⟨_, g1, rfl, rfl⟩, ⟨_, g2, rfl, rfl⟩, ⟨_, g3, rfl, rfl⟩⟩, fun y hy => ?_, q⟩
        have ly : s1.heap.objs.size ≤ y := by
          simp only [List.mem_cons, List.not_mem_nil, or_false] at hy
          rcases hy with rfl | rfl | rfl | rfl | rfl | rfl
          · exact Nat.le_add_right _ _
          · exact Nat.le_add_right _ _
          · exact Nat.le_add_right _ _
          · exact Nat.le_refl _
          · exact Nat.le_add_right _ _
          · exact Nat.le_add_right _ _
        exact J.fpOk ly (J.hok.fresh ly)
/-! ### len(set(t)) of a tuple of ints -/
theorem sub_len : ∀ {ks ns : List Int}, ks.Nodup → (∀ x ∈ ks, x ∈ ns) → ks.length ≤ ns.length
  | [], _, _, _ => Nat.zero_le _
  | k :: ks, ns, nd, h => by
    rw [List.nodup_cons] at nd
    have hk := h k (by simp)
    have q := sub_len (ks := ks) (ns := ns.erase k) nd.2 fun x hx => (List.mem_erase_of_ne (fun z => nd.1 (by rw [← z]; exact hx))).mpr (h x (List.mem_cons_of_mem _ hx))
    rw [List.length_erase_of_mem hk] at q
    have : 0 < ns.length := List.length_pos_of_mem hk
    rw [List.length_cons]
    omega
theorem twice : ∀ {ns : List Int}, ¬ ns.Nodup → ∃ x, x ∈ ns ∧ x ∈ ns.erase x
  | [], h => absurd List.nodup_nil h
  | y :: l, h => by
    by_cases hy : y ∈ l
    · exact ⟨y, by simp, by rw [List.erase_cons_head]; exact hy⟩
    · have hl : ¬ l.Nodup := fun z => h (List.nodup_cons.mpr ⟨hy, z⟩)
      obtain ⟨x, h1, h2⟩ := twice hl
      refine ⟨x, List.mem_cons_of_mem _ h1, ?_⟩
      have ne : y ≠ x := fun z => hy (by rw [z]; exact h1)
      rw [List.erase_cons_tail (by simpa using ne)]
      exact List.mem_cons_of_mem _ h2
theorem many_iff {ks ns : List Int} (nd : ks.Nodup) (h : ∀ x, x ∈ ns ↔ x ∈ ks) : ks.length = ns.length ↔ ns.Nodup := by
  constructor
  · intro e
    by_cases hn : ns.Nodup
    · exact hn
    · obtain ⟨x, h1, h2⟩ := twice hn
      have q := sub_len (ns := ns.erase x) nd fun y hy => by
        by_cases e2 : y = x
        · rw [e2]
          exact h2
        · exact (List.mem_erase_of_ne e2).mpr ((h y).mpr hy)
      rw [List.length_erase_of_mem h1] at q
      have : 0 < ns.length := List.length_pos_of_mem h1
      omega
  · intro hn
    have q1 := sub_len nd fun y hy => (h y).mpr hy
    have q2 := sub_len hn fun y hy => (h y).mp hy
    omega
def tLenSet (K : PySem.W.Frag) (ta : TE) : TE := fun σ H Q => ta σ H fun x H1 => ∃ (l : Addr) (ns : List Int), x = .ref l ∧ SqT K H1 l (ns.map V.int) ∧ ns.length ≤ 4000 ∧ ∀ c : Nat, (c = ns.length ↔ ns.Nodup) → Q (.int c) H1
theorem pe_lenSetT {X : Cx} {a : Expr} {ta : TE} {p p2 q pos : Pos} (hg : Gl X "len") (hm : X.mg "len" = none) (hg2 : Gl X "set") (hm2 : X.mg "set" = none) (ha : PE X a ta) (hc : X.calm = true := by rfl)
    (na : starEach [a] X.env = (false, eval a X.env) :: starEach [] X.env := by rfl) : PE X (.Call (.Name "len" p) [.Call (.Name "set" p2) [a] [] q] [] pos) (tLenSet X.K ta) := by
  refine ⟨fun pins s σ H Q I want => Call_ (ld_blt I hg hm PySem.boot_len (PyProof.Rows.callWith_builtin1 (PyProof.Rows.args_cons (Call_ (ld_blt I hg2 hm2 PyProof.Rows.boot_set (PyProof.Rows.callWith_type1 (PyProof.Rows.args_cons (thn (ha.run pins s σ H _ I want) fun v s1 got => PyProof.Rows.args_nil ?_) na) na rfl))) rfl) rfl rfl))⟩
  obtain ⟨x, H1, J, r1, l, ns, ex, hq, hl, q1⟩ := got
  subst ex
  obtain rfl : v = Value.ref l := r1
  obtain ⟨its, rel, tup, _⟩ := J.tuple hq
  refine call_set_tupI ns (J.ok.hd hc) tup (by simpa using rel.ints) (by unfold scanBound; omega) fun h' tk c hS hcl kp => PyProof.Rows.args_nil ?_
  obtain ⟨o, es, ep, t, ho, hex, hd, _, nd, mem, _, hf, hn, _⟩ := hS
  have J2 : Inv X pins σ H1 { s1 with heap := h', toks := tk } := J.kept kp
  have len : (es.toList.map keyOf).length = c := by rw [List.length_map, Array.length_toList, hn]
  have key : c = ns.length ↔ ns.Nodup := by
    rw [← len]
    refine many_iff nd fun y => ?_
    rw [← mem y, decide_eq_true_iff]
  exact call_len_set ho hex hd hf (by omega) ⟨.int c, H1, J2.tok _, ⟨_, by rw [hn]⟩, q1 c key⟩
/-! ### flats: the deck -/
def FDk (H : Hp) (d : Addr) : Prop := ∃ ns : List Int, H d = some (.lst (ns.map V.int)) ∧ ns.length ≤ 800
theorem FDk.same {H H' : Hp} {d : Addr} (h : FDk H d) (s : Same H H') : FDk H' d := by
  obtain ⟨ns, h1, h2⟩ := h
  exact ⟨ns, s _ _ h1, h2⟩
theorem FDk.kp {H H' : Hp} {d e : Addr} (h : FDk H d) (k : Kp e e H H') (ne : d ≠ e) : FDk H' d := by
  obtain ⟨ns, h1, h2⟩ := h
  exact ⟨ns, k _ _ ne ne h1, h2⟩
theorem FDk.ned {H : Hp} {d p : Addr} (h : FDk H d) (np : H p = none) : p ≠ d := by
  obtain ⟨ns, h1, h2⟩ := h
  exact (ne_of_none h1 np).symm
theorem FDk.tk {H H' : Hp} {d : Addr} (h : FDk H d) (k : Kp d d H H') : Tk H H' := fun a xs e => by
  obtain ⟨ns, h1, h2⟩ := h
  have : a ≠ d := fun z => by rw [z, h1] at e; cases e
  exact k _ _ this this e
theorem cutV_ints (ns : List Int) (lo hi : Option Int) : ∃ ms : List Int, cutV (ns.map V.int) lo hi = ms.map V.int ∧ ms.length ≤ ns.length := by
  refine ⟨(ns.drop (HT.sIx ns.length 0 lo)).take (HT.sIx ns.length ns.length hi - HT.sIx ns.length 0 lo), ?_, ?_⟩
  · unfold cutV
    rw [List.length_map, List.map_take, List.map_drop]
  · rw [List.length_take, List.length_drop]
    omega
def spMixed : Sp := fun vs H Q _ => ∃ a : Int, vs = [.int a] ∧ ∀ r, 0 ≤ r → r < 2147483587 → Q (.int r) H
def spDeckF (K : PySem.W.Frag) : Sp := fun vs H Q _ => ∃ (a : Addr) (ns : List Int), vs = [.ref a] ∧ SqL K H a (ns.map V.int) ∧ ns.length ≤ 63 ∧
  ∀ d H', Same H H' → H d = none → FDk H' d → Q (.ref d) H'
def spTake : Sp := fun vs H Q _ => ∃ (d : Addr) (m : Int), vs = [.ref d, .int m] ∧ FDk H d ∧ 0 < m ∧ m < 2 ^ 100 ∧ ∀ v H', 0 ≤ v → v < m → FDk H' d → Kp d d H H' → Q (.int v) H'
section
variable {P : Program} {w : World} {K : PySem.W.Frag} {mg : Str → Option Value} {base : Heap}
theorem ok_l_mixed {f : Addr} {fd : FuncData} (F : Fun K "_law_mixed" "_law_mixed" s_l_mixed f fd)  : FnOk P w K mg base CX0 1 f fd ["_law_number"] spMixed := by
  refine F.ok sc_l_mixed (fun vs H Q E h => ?_) (fun cdv A outer s H vs Q E hr h => ?_)
  · obtain ⟨a, rfl, _⟩ := h
    rfl
  · obtain ⟨a, rfl, q⟩ := h
    refine ⟨_, (pss_cons (ps_set (i := 0) sc_l_mixed.nd rfl (.inl rfl) (pe_op op_mod (pe_op op_add (pe_op op_mul (pe_op op_mod (pv 0) pe_int) pe_int) pe_int) pe_int))
      (pss_cons (ps_set (i := 0) sc_l_mixed.nd rfl (.inl rfl) (pe_op op_mod (pe_op op_add (pe_op op_add (pe_op op_mul (pv 0) (pv 0)) (pe_op op_mul pe_int (pv 0))) pe_int) pe_int))
      (pss_one (ps_ret (pe_op op_mod (pe_op op_add (pe_op op_mul (pv 0) pe_int) pe_int) pe_int))))), ?_⟩
    refine ⟨.int a, rfl, a, _, rfl, rfl, show (0 : Int) < 2147483629 by decide, _, _, rfl, rfl, .inr ⟨by decide, by decide⟩, _, _, rfl, rfl, _, _, rfl, rfl, show (0 : Int) < 2147483647 by decide, ?_⟩
    have r1 := mod_rng (a := a % 2147483629 * 48271 + 7) (m := 2147483647) (by decide)
    refine ⟨_, rfl, _, rfl, (a % 2147483629 * 48271 + 7) % 2147483647, (a % 2147483629 * 48271 + 7) % 2147483647, rfl, rfl, .inr ⟨by omega, by omega⟩, _, rfl, _, (a % 2147483629 * 48271 + 7) % 2147483647, rfl, rfl, .inr ⟨by omega, by omega⟩, _, _, rfl, rfl, _, _, rfl, rfl, _, _, rfl, rfl, show (0 : Int) < 2147483629 by decide, ?_⟩
    refine ⟨.int _, rfl, _, _, rfl, rfl, .inr ⟨by decide, by decide⟩, _, _, rfl, rfl, _, _, rfl, rfl, show (0 : Int) < 2147483587 by decide, ?_⟩
    exact q _ (mod_rng (by decide)).1 (mod_rng (by decide)).2
theorem ok_l_deck {f : Addr} {fd : FuncData} (F : Fun K "_law_deck" "_law_deck" s_l_deck f fd) (M : Free mg) (D_l_mixed : Df P w K mg base 1 "_law_mixed" ["_law_number"] spMixed) : FnOk P w K mg base CX0 2 f fd ["_law_script"] (spDeckF K) := by
  obtain ⟨f_l_mixed, fd_l_mixed, G_l_mixed, g_l_mixed, k_l_mixed, b_l_mixed⟩ := D_l_mixed
  refine F.ok sc_l_deck (fun vs H Q E h => ?_) (fun cdv A outer s H vs Q E hr h => ?_)
  · obtain ⟨a, ns, rfl, _⟩ := h
    rfl
  · obtain ⟨a, ns, rfl, hS, hl, q⟩ := h
    refine ⟨_, (pss_cons (ps_set (i := 1) sc_l_deck.nd rfl (.inl rfl) (pe_callTy call_list_of (by rfl) M.list (by decide +kernel) (pa_cons (pe_slice sl_list (pv 0) po_none (po_some pe_int)) pa_nil)))
      (pss_cons (ps_set (i := 2) sc_l_deck.nd rfl (.inl rfl) (pe_op op_add pe_int (pe_op op_mod (pe_callB (cr_sum rfl) (by rfl) M.sum (by decide +kernel) (pa_cons (pv 1) pa_nil)) pe_int)))
      (pss_cons (ps_for PassesOwn.never rfl (pi_range1 (by rfl) M.range (pa_cons pe_int pa_nil)) (pg_name (i := 3) sc_l_deck.nd rfl (.inl rfl))
        (pss_cons (ps_set (i := 2) sc_l_deck.nd rfl (.inl rfl) (pe_call G_l_mixed (hr.mono (by decide)) (by rfl) g_l_mixed k_l_mixed b_l_mixed .nil pass0 (pa_cons (pe_op op_add (pv 2) (pv 3)) pa_nil)))
        (pss_one (ps_if (pt_cmpR op_gt (pv 3) pe_int (nomark _))
          (pss_one (ps_expr (pe_bm PySem.F.plainAttrs_list PySem.F.slot_list_append PySem.F.type_list_append mt_append (pv 1) (pa_cons (pv 2) pa_nil))))
          pss_nil))))
      (pss_one (ps_ret (pe_revL (pv 1))))))), ?_⟩
    obtain ⟨ms, em, lm⟩ := cutV_ints ns none (some 63)
    refine ⟨.ref a, rfl, 63, rfl, a, _, rfl, hS, fun p1 n1 => ⟨p1, _, rfl, .inl (SqL.of upd_same), fun p2 n2 => ?_⟩⟩
    rw [em] at n2 ⊢
    have s1 : Same H (upd H p1 (.lst (ms.map V.int))) := same_new n1
    have s2 := s1.trans (same_new (o := .lst (ms.map V.int)) n2)
    have h2 : (upd (upd H p1 (.lst (ms.map V.int))) p2 (.lst (ms.map V.int))) p2 = some (.lst (ms.map V.int)) := upd_same
    have f2 : H p2 = none := s1.free n2
    generalize upd (upd H p1 (.lst (ms.map V.int))) p2 (.lst (ms.map V.int)) = H2 at s2 h2
    refine ⟨.ref p2, rfl, p2, ms, rfl, SqL.of h2, _, _, rfl, rfl, show (0 : Int) < 2147483647 by decide, _, _, rfl, rfl, ?_⟩
    refine ⟨700, rfl, by decide, by decide, ?_⟩
    refine for_range (lo := 0) (n := 700) (fun i σ' H' => ∃ (x : Int) (y3 : Option V) (ks : List Int), σ' = [some (.ref a), some (.ref p2), some (.int x), y3] ∧ H' p2 = some (.lst (ks.map V.int)) ∧ ks.length ≤ 63 + i ∧ Same H H') ⟨_, none, ms, rfl, h2, by omega, s2⟩ ?_ ?_
    · rintro i σ' H3 hi ⟨x, y3, ks, rfl, h3, l3, s3⟩
      refine ⟨.int x, rfl, .int (0 + (i : Nat)), rfl, _, _, rfl, rfl, _, rfl, fun r r0 r1 => ?_⟩
      refine ⟨.int (0 + (i : Nat)), rfl, _, _, rfl, rfl, _, rfl, ?_⟩
      refine ite2 (fun _ => ?_) (fun _ => ⟨_, _, ks, rfl, h3, by omega, s3⟩)
      refine ⟨.ref p2, rfl, .inl ⟨rfl, _, SqL.of h3⟩, .int r, rfl, p2, _, _, rfl, rfl, h3, small1000 (by rw [List.length_map]; omega), ?_⟩
      exact ⟨_, _, ks ++ [r], rfl, by rw [upd_same, List.map_append]; rfl, by rw [List.length_append]; show _ + 1 ≤ _; omega, Same.mut s3 f2⟩
    · rintro σ' H3 ⟨x, y3, ks, rfl, h3, l3, s3⟩
      refine ⟨.ref p2, rfl, p2, _, rfl, SqL.of h3, fun D nD => ?_⟩
      refine q D _ (s3.trans (same_new nD)) (s3.free nD) ⟨ks.reverse, by rw [upd_same, List.map_reverse], by rw [List.length_reverse]; omega⟩
theorem ok_l_take {f : Addr} {fd : FuncData} (F : Fun K "_law_take" "_law_take" s_l_take f fd) (D_l_mixed : Df P w K mg base 1 "_law_mixed" ["_law_number"] spMixed) : FnOk P w K mg base CX0 2 f fd ["_law_deck_here", "_law_most"] spTake := by
  obtain ⟨f_l_mixed, fd_l_mixed, G_l_mixed, g_l_mixed, k_l_mixed, b_l_mixed⟩ := D_l_mixed
  refine F.ok sc_l_take (fun vs H Q E h => ?_) (fun cdv A outer s H vs Q E hr h => ?_)
  · obtain ⟨d, m, rfl, _⟩ := h
    rfl
  · obtain ⟨d, m, rfl, hD, m0, m1, q⟩ := h
    refine ⟨_, (pss_cons (ps_if (pt_cmpR (op_eqE hr.units0) (pv 0) (pe_lst pa_nil) (nomark _))
        (pss_one (ps_ret pe_int))
        pss_nil)
      (pss_cons (ps_set (i := 2) sc_l_take.nd rfl (.inl rfl) (pe_bm0 PySem.F.plainAttrs_list PySem.F.slot_list_pop PySem.F.type_list_pop mt_pop (pv 0)))
      (pss_cons (ps_if (pt_cmpR op_ge (pv 2) (pe_op op_pow pe_int pe_int) (nomark _))
        (pss_cons (ps_expr (pe_bm PySem.F.plainAttrs_list PySem.F.slot_list_append PySem.F.type_list_append mt_append (pv 0) (pa_cons (pe_op op_fdivW (pv 2) (pv 1)) pa_nil)))
        (pss_one (ps_ret (pe_op op_mod (pv 2) (pv 1)))))
        pss_nil)
      (pss_one (ps_ret (pe_op op_mod (pe_op op_fdiv (pe_call G_l_mixed (hr.mono (by decide)) (by rfl) g_l_mixed k_l_mixed b_l_mixed .nil pass0 (pa_cons (pv 2) pa_nil)) pe_int) (pv 1))))))), ?_⟩
    obtain ⟨ns, hd, ln⟩ := hD
    refine ⟨.ref d, rfl, Nat.zero_le _, fun Z nZ => ⟨d, Z, _, rfl, rfl, SqL.of (same_new nZ _ _ hd), SqL.of upd_same, _, rfl, ?_⟩⟩
    have sZ := same_new (o := .lst []) nZ
    have hd1 := sZ _ _ hd
    generalize upd H Z (.lst []) = H1 at sZ hd1
    by_cases e : ns = []
    · subst e
      exact q 0 _ (by decide) m0 ⟨[], hd1, by simp⟩ (Same.kp sZ)
    · rw [show (ns.map V.int).isEmpty = false from by cases ns; exact absurd rfl e; rfl]
      have lpos := List.length_pos_iff.mpr e
      obtain ⟨c, ec⟩ : ∃ c, ns[ns.length - 1]? = some c := ⟨_, List.getElem?_eq_getElem (by omega)⟩
      refine ⟨.ref d, rfl, .inl ⟨rfl, _, SqL.of hd1⟩, d, _, .int c, rfl, rfl, hd1, by rw [List.length_map, List.getElem?_map, ec]; rfl, ?_⟩
      have hd2 : (upd H1 d (.lst (ns.map V.int).dropLast)) d = some (.lst (ns.dropLast.map V.int)) := by rw [upd_same, List.map_dropLast]
      have K2 : Kp d d H (upd H1 d (.lst (ns.map V.int).dropLast)) := (Same.kp sZ).trans Kp.at_d
      have l2 : ns.dropLast.length ≤ 799 := by rw [List.length_dropLast]; omega
      generalize upd H1 d (.lst (ns.map V.int).dropLast) = H2 at hd2 K2
      refine ⟨.int c, rfl, 10, 18, rfl, rfl, ⟨by decide, by decide, by decide⟩, _, _, rfl, rfl, _, rfl, ?_⟩
      refine ite2 (fun _ => ?_) (fun _ => ?_)
      · refine ⟨.ref d, rfl, .inl ⟨rfl, _, SqL.of hd2⟩, .int c, rfl, .int m, rfl, _, _, rfl, rfl, ⟨m0, ?_⟩, d, _, _, rfl, rfl, hd2, small1000 (by rw [List.length_map]; omega), ?_⟩
        · have h1 : m.natAbs < 2 ^ 100 := by omega
          have h2 := (Nat.log2_lt (n := m.natAbs) (k := 100) (by omega)).mpr h1
          omega
        · refine ⟨.int c, rfl, .int m, rfl, _, _, rfl, rfl, m0, ?_⟩
          exact q _ _ (mod_rng m0).1 (mod_rng m0).2 ⟨ns.dropLast ++ [c / m], by rw [upd_same, List.map_append]; rfl, by rw [List.length_append]; show _ + 1 ≤ _; omega⟩ (K2.trans Kp.at_d)
      · refine ⟨.int c, rfl, c, rfl, fun r r0 r1 => ⟨_, _, rfl, rfl, ⟨by decide, by decide⟩, .int m, rfl, _, _, rfl, rfl, m0, ?_⟩⟩
        exact q _ _ (mod_rng m0).1 (mod_rng m0).2 ⟨_, hd2, by omega⟩ K2
end
/-! ### flats: orders of ties; _law_corners -/
def PrV (H : Hp) (v : V) (q : Int × Int) : Prop := ∃ a, v = .ref a ∧ H a = some (.tup [.int q.1, .int q.2])
theorem PrV.tk {H H' : Hp} (k : Tk H H') {v : V} {p : Int × Int} (h : PrV H v p) : PrV H' v p := by
  obtain ⟨a, e, h⟩ := h
  exact ⟨a, e, k _ _ h⟩
theorem pr_tk {H H' : Hp} (k : Tk H H') {vs : List V} {qs : List (Int × Int)} (h : Paired (PrV H) vs qs) : Paired (PrV H') vs qs := Paired.mono (fun _ _ x => x.tk k) h
structure Rw (H : Hp) (A : List Addr) (rs : List (List Int)) : Prop where
  nd : A.Nodup
  len : A.length = rs.length
  each : ∀ (j : Nat) (a : Addr), A[j]? = some a → ∃ row, rs[j]? = some row ∧ H a = some (.lst (row.map V.int))
theorem Rw.ext {H H' : Hp} {A : List Addr} {rs : List (List Int)} (h : Rw H A rs) (k : ∀ a ∈ A, ∀ x, H a = some x → H' a = some x) : Rw H' A rs :=
  ⟨h.nd, h.len, fun j a e => by
    obtain ⟨row, e1, e2⟩ := h.each j a e
    exact ⟨row, e1, k a (List.mem_of_getElem? e) _ e2⟩⟩
theorem Rw.more {H : Hp} {p : Addr} {A : List Addr} {rs : List (List Int)} (h : Rw H A rs) (np : H p = none) (row : List Int) : Rw (upd H p (.lst (row.map V.int))) (A ++ [p]) (rs ++ [row]) := by
  have no : p ∉ A := fun z => by
    obtain ⟨j, e⟩ := List.getElem?_of_mem z
    obtain ⟨row, _, e2⟩ := h.each j p e
    rw [np] at e2
    cases e2
  have l := h.len
  refine ⟨List.nodup_append.mpr ⟨h.nd, by simp, fun a ha b hb e => no (by rw [List.mem_singleton.mp hb] at e; exact e ▸ ha)⟩, by simp [l], fun j a e => ?_⟩
  by_cases hj : j < A.length
  · rw [List.getElem?_append_left hj] at e
    obtain ⟨r, e1, e2⟩ := h.each j a e
    exact ⟨r, by rw [List.getElem?_append_left (by omega)]; exact e1, by rw [upd_ne (show a ≠ p from fun z => no (z ▸ List.mem_of_getElem? e))]; exact e2⟩
  · rw [List.getElem?_append_right (by omega)] at e
    have hj2 : j - A.length = 0 := by
      have := (List.getElem?_eq_some_iff.mp e).1
      simp at this
      omega
    rw [hj2] at e
    cases e
    exact ⟨row, by rw [List.getElem?_append_right (by omega), show j - rs.length = 0 by omega]; rfl, upd_same⟩
theorem Rw.put {H : Hp} {a : Addr} {j : Nat} {A : List Addr} {rs : List (List Int)} (h : Rw H A rs) (e : A[j]? = some a) (row : List Int) : Rw (upd H a (.lst (row.map V.int))) A (rs.set j row) := by
  have l := h.len
  refine ⟨h.nd, by simp [l], fun i b eb => ?_⟩
  have hj := (List.getElem?_eq_some_iff.mp e).1
  by_cases ij : j = i
  · subst ij
    rw [e] at eb
    cases eb
    exact ⟨row, by rw [List.getElem?_set_self (by omega)], upd_same⟩
  · obtain ⟨r, e1, e2⟩ := h.each i b eb
    refine ⟨r, by rw [List.getElem?_set_ne ij]; exact e1, ?_⟩
    have hi := (List.getElem?_eq_some_iff.mp eb).1
    rw [upd_ne (fun z => ij ?_)]
    · exact e2
    · have e' := (List.getElem?_eq_some_iff.mp e).2
      have eb' := (List.getElem?_eq_some_iff.mp eb).2
      refine Classical.byContradiction fun ne => ?_
      rcases Nat.lt_or_gt_of_ne ne with lt | lt
      · exact List.pairwise_iff_getElem.mp h.nd j i hj hi lt (by rw [e', eb', z])
      · exact List.pairwise_iff_getElem.mp h.nd i j hi hj lt (by rw [e', eb', z])
/-- rows of tie numbers: each tie in the rows of its two ends, once, and nowhere else -/
structure Ord (rs : List (List Int)) (es : List (Int × Int)) : Prop where
  ends : ∀ e ∈ es, (0 ≤ e.1 ∧ e.1 < (rs.length : Int)) ∧ (0 ≤ e.2 ∧ e.2 < (rs.length : Int)) ∧ e.1 ≠ e.2
  nd : ∀ row ∈ rs, row.Nodup
  mem : ∀ (p : Nat) (row : List Int), rs[p]? = some row → ∀ x : Int, x ∈ row ↔ ∃ (k : Nat) (e : Int × Int), x = (k : Int) ∧ es[k]? = some e ∧ (e.1 = (p : Int) ∨ e.2 = (p : Int))
theorem Ord.row_in {rs : List (List Int)} {es : List (Int × Int)} (h : Ord rs es) {row : List Int} (hr : row ∈ rs) : ∀ x ∈ row, 0 ≤ x ∧ x < (es.length : Int) := fun x hx => by
  obtain ⟨p, hp⟩ := List.getElem?_of_mem hr
  obtain ⟨k, e, rfl, ek, _⟩ := (h.mem p row hp x).mp hx
  have := (List.getElem?_eq_some_iff.mp ek).1
  omega
theorem Ord.row_len {rs : List (List Int)} {es : List (Int × Int)} (h : Ord rs es) {row : List Int} (hr : row ∈ rs) : row.length ≤ es.length :=
  pigeon es.length row (h.nd row hr) (h.row_in hr)
/-! ### flats: grown -/
theorem dec_intF (a b : Int) : decide (V.int a = V.int b) = decide (a = b) := by
  by_cases h : a = b
  · rw [decide_eq_true h, h, decide_eq_true rfl]
  · rw [decide_eq_false h, decide_eq_false (fun z => h (V.int.inj z))]
theorem Ord.start : Ord [[]] [] := ⟨fun e h => (by cases h), fun row h => by rw [List.mem_singleton.mp h]; exact List.nodup_nil, fun p row e x => by
  match p, e with
  | 0, e =>
    cases e
    exact ⟨fun h => (by cases h), fun ⟨k, e, _, h, _⟩ => by simp at h⟩
  | p + 1, e => simp at e⟩
theorem Ord.more {rs : List (List Int)} {es : List (Int × Int)} (h : Ord rs es) : Ord (rs ++ [[]]) es := by
  refine ⟨fun e he => ?_, fun row hr => ?_, fun p row e x => ?_⟩
  · have := h.ends e he
    rw [List.length_append]
    simp only [List.length_singleton]
    push_cast
    omega
  · rcases List.mem_append.mp hr with z | z
    · exact h.nd row z
    · rw [List.mem_singleton.mp z]; exact List.nodup_nil
  · by_cases hp : p < rs.length
    · rw [List.getElem?_append_left hp] at e
      exact h.mem p row e x
    · rw [List.getElem?_append_right (by omega)] at e
      have hp2 : p - rs.length = 0 := by
        have := (List.getElem?_eq_some_iff.mp e).1
        simp at this
        omega
      rw [hp2] at e
      cases e
      refine ⟨fun z => (by cases z), fun ⟨k, e, _, h2, h3⟩ => ?_⟩
      have := h.ends e (List.mem_of_getElem? h2)
      omega
theorem Ord.link {rs rs' : List (List Int)} {es : List (Int × Int)} {p q : Nat} (h : Ord rs es) (hl : rs'.length = rs.length) (hp : p < rs.length) (hq : q < rs.length) (pq : p ≠ q) (each : ∀ (i : Nat) (row' : List Int), rs'[i]? = some row' → ∃ row, rs[i]? = some row ∧ ((i = p ∨ i = q) → (∀ x : Int, x ∈ row' ↔ x ∈ row ∨ x = (es.length : Int)) ∧ row'.Nodup) ∧ (¬ (i = p ∨ i = q) → row' = row)) : Ord rs' (es ++ [((p : Int), (q : Int))]) := by
  refine ⟨fun e he => ?_, fun row hr => ?_, fun i row e x => ?_⟩
  · rw [hl]
    rcases List.mem_append.mp he with z | z
    · exact h.ends e z
    · rw [List.mem_singleton.mp z]
      simp only
      omega
  · obtain ⟨i, hi⟩ := List.getElem?_of_mem hr
    obtain ⟨row0, e0, e1, e2⟩ := each i row hi
    by_cases c : i = p ∨ i = q
    · exact (e1 c).2
    · rw [e2 c]; exact h.nd row0 (List.mem_of_getElem? e0)
  · obtain ⟨row0, e0, e1, e2⟩ := each i row e
    have m0 := h.mem i row0 e0 x
    by_cases c : i = p ∨ i = q
    · rw [(e1 c).1 x, m0]
      constructor
      · rintro (⟨k, e, rfl, ek, he⟩ | rfl)
        · exact ⟨k, e, rfl, by rw [List.getElem?_append_left (List.getElem?_eq_some_iff.mp ek).1]; exact ek, he⟩
        · exact ⟨es.length, ((p : Int), (q : Int)), rfl, by rw [List.getElem?_append_right (Nat.le_refl _), Nat.sub_self]; rfl, c.elim (fun z => .inl (by rw [z])) (fun z => .inr (by rw [z]))⟩
      · rintro ⟨k, e, rfl, ek, he⟩
        by_cases hk : k < es.length
        · rw [List.getElem?_append_left hk] at ek
          exact .inl ⟨k, e, rfl, ek, he⟩
        · have := (List.getElem?_eq_some_iff.mp ek).1
          rw [List.length_append, List.length_singleton] at this
          exact .inr (by omega)
    · rw [e2 c, m0]
      constructor
      · rintro ⟨k, e, rfl, ek, he⟩
        exact ⟨k, e, rfl, by rw [List.getElem?_append_left (List.getElem?_eq_some_iff.mp ek).1]; exact ek, he⟩
      · rintro ⟨k, e, rfl, ek, he⟩
        by_cases hk : k < es.length
        · rw [List.getElem?_append_left hk] at ek
          exact ⟨k, e, rfl, ek, he⟩
        · exfalso
          have hk2 := (List.getElem?_eq_some_iff.mp ek).1
          rw [List.length_append, List.length_singleton] at hk2
          rw [List.getElem?_append_right (by omega), show k - es.length = 0 by omega] at ek
          cases ek
          exact c (he.elim (fun z => .inl (Int.ofNat.inj z).symm) fun z => .inr (Int.ofNat.inj z).symm)
def insR (row : List Int) (i : Nat) (m : Int) : List Int := row.take i ++ [m] ++ row.drop i
theorem insR_map (row : List Int) (i : Nat) (m : Int) : (row.map V.int).take i ++ [V.int m] ++ (row.map V.int).drop i = (insR row i m).map V.int := by
  unfold insR
  rw [List.map_append, List.map_append, List.map_take, List.map_drop]
  rfl
theorem insR_mem {row : List Int} {i : Nat} {m x : Int} : x ∈ insR row i m ↔ x ∈ row ∨ x = m := by
  have e : x ∈ row ↔ x ∈ row.take i ∨ x ∈ row.drop i := by
    rw [← List.mem_append, List.take_append_drop]
  unfold insR
  rw [List.mem_append, List.mem_append, List.mem_singleton, e]
  constructor
  · rintro ((h | h) | h)
    · exact .inl (.inl h)
    · exact .inr h
    · exact .inl (.inr h)
  · rintro ((h | h) | h)
    · exact .inl (.inl h)
    · exact .inr h
    · exact .inl (.inr h)
theorem insR_nd {row : List Int} {i : Nat} {m : Int} (nd : row.Nodup) (h : m ∉ row) : (insR row i m).Nodup := by
  have p : (insR row i m).Perm (m :: row) := by
    unfold insR
    rw [List.append_assoc]
    refine (List.perm_middle (l₁ := row.take i) (l₂ := row.drop i) (a := m)).trans ?_
    rw [List.take_append_drop]
  exact p.nodup_iff.mpr (List.nodup_cons.mpr ⟨h, nd⟩)
/-- what is being grown: all of it new -/
structure Grw (H0 : Hp) (d T O : Addr) (H : Hp) (us : List V) (es : List (Int × Int)) (A : List Addr) (rs : List (List Int)) : Prop where
  hT : H T = some (.lst us)
  hu : Paired (PrV H) us es
  hO : H O = some (.lst (A.map V.ref))
  rw' : Rw H A rs
  TO : T ≠ O
  Td : T ≠ d
  Od : O ≠ d
  T0 : H0 T = none
  O0 : H0 O = none
  aA : ∀ a ∈ A, a ≠ T ∧ a ≠ O ∧ a ≠ d ∧ H0 a = none
  dk : FDk H d
  kp : Kp d d H0 H
section
variable {H0 H H' : Hp} {d T O : Addr} {us : List V} {es : List (Int × Int)} {A : List Addr} {rs : List (List Int)}
theorem Grw.same (g : Grw H0 d T O H us es A rs) (s : Same H H') : Grw H0 d T O H' us es A rs :=
  ⟨s _ _ g.hT, pr_tk (Same.tk s) g.hu, s _ _ g.hO, g.rw'.ext fun _ _ _ h => s _ _ h, g.TO, g.Td, g.Od, g.T0, g.O0, g.aA, g.dk.same s, g.kp.trans (Same.kp s)⟩
theorem Grw.take (g : Grw H0 d T O H us es A rs) (k : Kp d d H H') (D : FDk H' d) : Grw H0 d T O H' us es A rs :=
  ⟨k _ _ g.Td g.Td g.hT, pr_tk (g.dk.tk k) g.hu, k _ _ g.Od g.Od g.hO, g.rw'.ext fun a ha _ h => k _ _ (g.aA a ha).2.2.1 (g.aA a ha).2.2.1 h, g.TO, g.Td, g.Od, g.T0, g.O0, g.aA, D, g.kp.trans k⟩
theorem Grw.dk_ne (g : Grw H0 d T O H us es A rs) {a : Addr} (h : a ≠ d) {o : HO} : FDk (upd H a o) d := by
  obtain ⟨ns, h1, h2⟩ := g.dk
  exact ⟨ns, by rw [upd_ne (Ne.symm h)]; exact h1, h2⟩
theorem Grw.row (g : Grw H0 d T O H us es A rs) {p : Nat} {ra : Addr} (ea : A[p]? = some ra) {row : List Int} (hr : H ra = some (.lst (row.map V.int))) (row' : List Int) : Grw H0 d T O (upd H ra (.lst (row'.map V.int))) us es A (rs.set p row') := by
  have a := g.aA ra (List.mem_of_getElem? ea)
  exact ⟨by rw [upd_ne a.1.symm]; exact g.hT, pr_tk (tk_lst hr) g.hu, by rw [upd_ne a.2.1.symm]; exact g.hO, g.rw'.put ea row', g.TO, g.Td, g.Od, g.T0, g.O0, g.aA, g.dk_ne a.2.2.1, g.kp.mut a.2.2.2⟩
theorem Grw.tie (g : Grw H0 d T O H us es A rs) {c : Addr} {x y : Int} (hc : H c = some (.tup [.int x, .int y])) : Grw H0 d T O (upd H T (.lst (us ++ [.ref c]))) (us ++ [.ref c]) (es ++ [(x, y)]) A rs := by
  have tk := tk_lst (ys := us ++ [.ref c]) g.hT
  exact ⟨upd_same, Paired.snoc (pr_tk tk g.hu) ⟨c, rfl, tk _ _ hc⟩, by rw [upd_ne g.TO.symm]; exact g.hO, g.rw'.ext fun a ha _ h => by rw [upd_ne (g.aA a ha).1]; exact h, g.TO, g.Td, g.Od, g.T0, g.O0, g.aA, g.dk_ne g.Td, g.kp.mut g.T0⟩
theorem Grw.more (g : Grw H0 d T O H us es A rs) {p : Addr} (np : H p = none) (row : List Int) : Grw H0 d T O (upd (upd H p (.lst (row.map V.int))) O (.lst (A.map V.ref ++ [.ref p]))) us es (A ++ [p]) (rs ++ [row]) := by
  have sp := same_new (o := .lst (row.map V.int)) np
  have pT : p ≠ T := (ne_of_none g.hT np).symm
  have pO : p ≠ O := (ne_of_none g.hO np).symm
  have pd : p ≠ d := g.dk.ned np
  have g1 := g.same sp
  have tk := tk_lst (ys := A.map V.ref ++ [.ref p]) g1.hO
  refine ⟨by rw [upd_ne g.TO]; exact g1.hT, pr_tk tk g1.hu, by rw [upd_same, List.map_append]; rfl, (g.rw'.more np row).ext fun a ha _ h => ?_, g.TO, g.Td, g.Od, g.T0, g.O0, fun a ha => ?_, g1.dk_ne g.Od, g1.kp.mut g.O0⟩
  · rw [upd_ne]
    · exact h
    · rcases List.mem_append.mp ha with z | z
      · exact (g.aA a z).2.1
      · rw [List.mem_singleton.mp z]; exact pO
  · rcases List.mem_append.mp ha with z | z
    · exact g.aA a z
    · rw [List.mem_singleton.mp z]
      exact ⟨pT, pO, pd, g.kp.free np pd pd⟩
theorem Grw.at' (g : Grw H0 d T O H us es A rs) {p : Int} (h0 : 0 ≤ p) (h1 : p < (rs.length : Int)) : ∃ (ra : Addr) (row : List Int), A[p.toNat]? = some ra ∧ atI (A.map V.ref) p = some (.ref ra) ∧ rs[p.toNat]? = some row ∧ H ra = some (.lst (row.map V.int)) := by
  have lA := g.rw'.len
  have hl : p.toNat < A.length := by omega
  have e := List.getElem?_eq_getElem hl
  obtain ⟨row, e1, e2⟩ := g.rw'.each _ _ e
  refine ⟨_, row, e, ?_, e1, e2⟩
  have := atI_nat (xs := A.map V.ref) (j := p.toNat) (v := .ref A[p.toNat]) (by rw [List.getElem?_map, e]; rfl)
  rw [show ((p.toNat : Nat) : Int) = p by omega] at this
  exact this
end
/-! ### flats: turned, web, crossed -/
/-! ### the law: other webs -/
theorem cut_take {xs : List V} {k : Nat} (h : k ≤ xs.length) : cutV xs none (some (k : Int)) = xs.take k := by
  unfold cutV
  rw [HT.sIx_none, HT.sIx_nat, Nat.min_eq_left h, List.drop_zero]
  rfl
theorem cut_drop {xs : List V} {k : Nat} (h : k ≤ xs.length) : cutV xs (some (k : Int)) none = xs.drop k := by
  unfold cutV
  rw [HT.sIx_none, HT.sIx_nat, Nat.min_eq_left h]
  exact List.take_of_length_le (by rw [List.length_drop]; omega)
theorem pickK (v : Int) (h0 : 0 ≤ v) (h1 : v < 2) : ∃ fo : Bool, atI [V.str "friend", V.str "foe"] v = some (.str (kindS fo)) := by
  have h01 : v = 0 ∨ v = 1 := by omega
  rcases h01 with e | e <;> subst e
  · exact ⟨false, rfl⟩
  · exact ⟨true, rfl⟩
theorem Ord.perm {rs rs' : List (List Int)} {es : List (Int × Int)} (h : Ord rs es) (hl : rs'.length = rs.length) (each : ∀ (i : Nat) (row' : List Int), rs'[i]? = some row' → ∃ row, rs[i]? = some row ∧ row'.Perm row) : Ord rs' es := by
  refine ⟨fun e he => by rw [hl]; exact h.ends e he, fun row hr => ?_, fun i row e x => ?_⟩
  · obtain ⟨i, hi⟩ := List.getElem?_of_mem hr
    obtain ⟨row0, e0, p⟩ := each i row hi
    exact p.nodup_iff.mpr (h.nd row0 (List.mem_of_getElem? e0))
  · obtain ⟨row0, e0, p⟩ := each i row e
    rw [p.mem_iff]
    exact h.mem i row0 e0 x
def rLenKF (K : PySem.W.Frag) : List V → Hp → VK → Prop := fun xs H Q => ∃ p ys, xs = [V.ref p] ∧ (SqL K H p ys ∨ SqT K H p ys) ∧ Q (V.int (ys.length : Nat)) H
def rotP (row : List Int) (k : Nat) : List Int := row.drop k ++ row.take k
theorem rotP_perm (row : List Int) (k : Nat) : (rotP row k).Perm row := by
  unfold rotP
  refine List.perm_append_comm.trans ?_
  rw [List.take_append_drop]
/-- the ties of a web over so drawn pairs, each one way or the other -/
def TwE (ts : List Tie) (es : List (Int × Int)) : Prop := ts.length = es.length ∧ ∀ (k : Nat) (t : Tie) (e : Int × Int), ts[k]? = some t → es[k]? = some e → (t.one = e.1 ∧ t.other = e.2) ∨ (t.one = e.2 ∧ t.other = e.1)
theorem TwE.snoc {ts : List Tie} {es : List (Int × Int)} (h : TwE ts es) {t : Tie} {e : Int × Int} (j : (t.one = e.1 ∧ t.other = e.2) ∨ (t.one = e.2 ∧ t.other = e.1)) : TwE (ts ++ [t]) (es ++ [e]) := by
  refine ⟨by simp [h.1], fun k t' e' h1 h2 => ?_⟩
  by_cases hk : k < ts.length
  · rw [List.getElem?_append_left hk] at h1
    rw [List.getElem?_append_left (by rw [← h.1]; exact hk)] at h2
    exact h.2 k t' e' h1 h2
  · have hk2 := (List.getElem?_eq_some_iff.mp h1).1
    rw [List.length_append, List.length_singleton] at hk2
    rw [List.getElem?_append_right (by omega), show k - ts.length = 0 by omega] at h1
    rw [List.getElem?_append_right (by rw [← h.1]; omega), show k - es.length = 0 by rw [← h.1]; omega] at h2
    cases h1
    cases h2
    exact j
theorem Grw.oth {H0 H : Hp} {d T O L : Addr} {us xs ys : List V} {es : List (Int × Int)} {A : List Addr} {rs : List (List Int)} (g : Grw H0 d T O H us es A rs) (LA : ∀ a ∈ A, a ≠ L) (LT : T ≠ L) (LO : O ≠ L) (Ld : L ≠ d) (L0 : H0 L = none) (h : H L = some (.lst xs)) : Grw H0 d T O (upd H L (.lst ys)) us es A rs :=
  ⟨by rw [upd_ne LT]; exact g.hT, pr_tk (tk_lst h) g.hu, by rw [upd_ne LO]; exact g.hO, g.rw'.ext fun a ha _ h => by rw [upd_ne (LA a ha)]; exact h, g.TO, g.Td, g.Od, g.T0, g.O0, g.aA, g.dk_ne Ld, g.kp.mut L0⟩
structure Rot (rs rs' : List (List Int)) : Prop where
  len : rs'.length = rs.length
  each : ∀ (i : Nat) (row row' : List Int), rs[i]? = some row → rs'[i]? = some row' → ∃ k, k ≤ row.length ∧ row' = rotP row k
def spTurned : Sp := fun vs H Q _ => ∃ (H0 : Hp) (d T O : Addr) (us : List V) (es : List (Int × Int)) (A : List Addr) (rs : List (List Int)), vs = [.ref d, .ref O] ∧ Grw H0 d T O H us es A rs ∧ Ord rs es ∧ rs.length ≤ 100 ∧ es.length ≤ 200 ∧
  ∀ r vs' rs' H', H' r = some (.tup vs') → Paired (IntsV H') vs' rs' → Ord rs' es → rs'.length = rs.length → Rot rs rs' → Grw H0 d T O H' us es A rs → Kp d d H H' → Q (.ref r) H'
def spWebF : Sp := fun vs H Q _ => ∃ (H0 : Hp) (d T O : Addr) (us : List V) (es : List (Int × Int)) (A : List Addr) (rs : List (List Int)) (n : Int), vs = [.ref d, .ref T, .int n] ∧ Grw H0 d T O H us es A rs ∧ es.length ≤ 200 ∧
  ∀ v ts H', WebAt H' v n ts → TwE ts es → Grw H0 d T O H' us es A rs → Kp d d H H' → Q v H'
def spCrossed : Sp := fun vs H Q _ => ∃ (H0 : Hp) (d T O : Addr) (us : List V) (es : List (Int × Int)) (A : List Addr) (rs : List (List Int)), vs = [.ref d, .ref O] ∧ Grw H0 d T O H us es A rs ∧ Ord rs es ∧ rs.length ≤ 100 ∧ es.length ≤ 200 ∧
  ∀ rs' H', Ord rs' es → rs'.length = rs.length → Grw H0 d T O H' us es A rs' → Tk H H' → Q .non H'
section
variable {P : Program} {w : World} {K : PySem.W.Frag} {mg : Str → Option Value} {base : Heap}
set_option maxHeartbeats 2000000 in
theorem ok_l_turned {f : Addr} {fd : FuncData} (F : Fun K "_law_turned" "_law_turned" s_l_turned f fd) (M : Free mg) (D_l_take : Df P w K mg base 2 "_law_take" ["_law_deck_here", "_law_most"] spTake) : FnOk P w K mg base CX0 3 f fd ["_law_deck_here", "_law_orders"] spTurned := by
  obtain ⟨f_l_take, fd_l_take, G_l_take, g_l_take, k_l_take, b_l_take⟩ := D_l_take
  refine F.ok sc_l_turned (fun vs H Q E h => ?_) (fun cdv A outer s H vs Q E hr h => ?_)
  · obtain ⟨H0, d, T, O, us, es, A, rs, rfl, _⟩ := h
    rfl
  · obtain ⟨H0, d, T, O, us, es, A, rs, rfl, g, od, lr, le, q⟩ := h
    refine ⟨_, (pss_cons (ps_set (i := 2) sc_l_turned.nd rfl (.inl rfl) (pe_lst pa_nil))
      (pss_cons (ps_for PassesOwn.never rfl (pi_list (pv 1)) (pg_name (i := 3) sc_l_turned.nd rfl (.inl rfl))
        (pss_cons (ps_set (i := 4) sc_l_turned.nd rfl (.inl rfl) (pe_call G_l_take (hr.mono (by decide)) (by rfl) g_l_take k_l_take b_l_take .nil pass0 (pa_cons (pv 0) (pa_cons (pe_op op_add (pe_callB call_len_seq (by rfl) M.len PySem.boot_len (pa_cons (pv 3) pa_nil)) pe_int) pa_nil))))
        (pss_one (ps_expr (pe_bm PySem.F.plainAttrs_list PySem.F.slot_list_append PySem.F.type_list_append mt_append (pv 2) (pa_cons (pe_callTy call_tuple_of (by rfl) M.tuple (by decide +kernel) (pa_cons (pe_op op_cat (pe_slice sl_list (pv 3) (po_some (pv 4)) po_none) (pe_slice sl_list (pv 3) po_none (po_some (pv 4)))) pa_nil)) pa_nil))))))
      (pss_one (ps_ret (pe_callTy call_tuple_of (by rfl) M.tuple (by decide +kernel) (pa_cons (pv 2) pa_nil)))))), ?_⟩
    have lA := g.rw'.len
    refine ⟨Nat.zero_le _, fun L nL => ?_⟩
    have sL := same_new (o := .lst []) nL
    have hL1 : (upd H L (.lst [])) L = some (.lst []) := upd_same
    have g1 := g.same sL
    have Ld : L ≠ d := g.dk.ned nL
    have K1 : Kp d d H (upd H L (.lst [])) := Same.kp sL
    generalize upd H L (.lst []) = H1 at sL hL1 g1 K1
    refine ⟨.ref O, rfl, O, rfl, ⟨_, SqL.of g1.hO⟩, ?_⟩
    refine for_list (xs := A.map V.ref) (fun i σ' H' => ∃ (y3 y4 : Option V) (vs : List V) (rs' : List (List Int)), σ' = [some (.ref d), some (.ref O), some (.ref L), y3, y4] ∧ H' L = some (.lst vs) ∧ Paired (IntsV H') vs rs' ∧ rs'.length = i ∧ (∀ (j : Nat) (row' : List Int), rs'[j]? = some row' → ∃ row k, rs[j]? = some row ∧ k ≤ row.length ∧ row' = rotP row k) ∧ Grw H0 d T O H' us es A rs ∧ Kp d d H H') ⟨none, none, [], [], rfl, hL1, .nil, rfl, fun j row' e => by simp at e, g1, K1⟩ (fun i σ' H' _ h => by
      obtain ⟨_, _, _, _, _, _, _, _, _, g, _⟩ := h
      exact SqL.of g.hO) ?_ ?_
    · rintro i x σ' H2 ex ⟨y3, y4, vs, rs', rfl, hL, hv, li, each, g2, K2⟩
      have lv := Paired.length hv
      rw [List.getElem?_map] at ex
      obtain ⟨ra, ea, rfl⟩ := Option.map_eq_some_iff.mp ex
      obtain ⟨row, er, hra⟩ := g2.rw'.each _ _ ea
      have hlt := (List.getElem?_eq_some_iff.mp er).1
      have lrow := od.row_len (List.mem_of_getElem? er)
      have had := g2.aA ra (List.mem_of_getElem? ea)
      refine ⟨.ref d, rfl, .ref ra, rfl, ra, _, rfl, .inl (SqL.of hra), _, _, rfl, rfl, d, _, rfl, g2.dk, by omega, by rw [List.length_map]; omega, fun at' H3 a0 a1 D3 K3 => ?_⟩
      rw [List.length_map] at a1
      have g3 := g2.take K3 D3
      have hra3 := K3 _ _ had.2.2.1 had.2.2.1 hra
      have hL3 := K3 _ _ Ld Ld hL
      have hv3 : Paired (IntsV H3) vs rs' := Paired.mono (fun _ _ x => x.tk (g2.dk.tk K3)) hv
      obtain ⟨k, rfl⟩ : ∃ k : Nat, at' = (k : Int) := ⟨at'.toNat, by omega⟩
      have kl : k ≤ (row.map V.int).length := by rw [List.length_map]; omega
      obtain ⟨c1, hc1⟩ : ∃ c1, c1 = cutV (row.map V.int) (some (k : Int)) none := ⟨_, rfl⟩
      obtain ⟨c2, hc2⟩ : ∃ c2, c2 = cutV (row.map V.int) none (some (k : Int)) := ⟨_, rfl⟩
      have ec : c1 ++ c2 = (rotP row k).map V.int := by
        rw [hc1, hc2, cut_drop kl, cut_take kl]
        unfold rotP
        rw [List.map_append, List.map_drop, List.map_take]
      have lc : c1.length + c2.length ≤ 800 := by
        have h1 := cutV_length (row.map V.int) (some (k : Int)) none
        have h2 := cutV_length (row.map V.int) none (some (k : Int))
        rw [List.length_map] at h1 h2
        rw [hc1, hc2]
        omega
      refine ⟨.ref L, rfl, .inl ⟨rfl, _, SqL.of hL3⟩, .ref ra, rfl, .int k, rfl, k, rfl, ra, _, rfl, SqL.of hra3, fun p1 n1 => ?_⟩
      rw [← hc1]
      have s4 := same_new (o := .lst c1) n1
      refine ⟨.ref ra, rfl, .int k, rfl, k, rfl, ra, _, rfl, SqL.of (s4 _ _ hra3), fun p2 n2 => ?_⟩
      rw [← hc2]
      have s5 := same_new (o := .lst c2) n2
      refine ⟨p1, p2, _, _, rfl, rfl, s5 _ _ upd_same, upd_same, Nat.le_of_lt (small1000 (by omega)), fun p3 n3 => ?_⟩
      · have s6 := same_new (o := .lst (c1 ++ c2)) n3
        refine ⟨p3, _, rfl, .inl ⟨SqL.of upd_same, fun p4 n4 => ?_⟩⟩
        have s7 := same_new (o := .tup (c1 ++ c2)) n4
        have sA := ((s4.trans s5).trans s6).trans s7
        have h4 : (upd (upd (upd (upd H3 p1 (.lst c1)) p2 (.lst c2)) p3 (.lst (c1 ++ c2))) p4 (.tup (c1 ++ c2))) p4 = some (.tup ((rotP row k).map V.int)) := by rw [upd_same, ec]
        generalize upd (upd (upd (upd H3 p1 (.lst c1)) p2 (.lst c2)) p3 (.lst (c1 ++ c2))) p4 (.tup (c1 ++ c2)) = H7 at sA h4
        have hL7 := sA _ _ hL3
        have tk := tk_lst (ys := vs ++ [.ref p4]) hL7
        have g7 := g3.same sA
        have nL0 := g.kp.free nL Ld Ld
        refine ⟨L, vs, _, rfl, rfl, hL7, small1000 (by omega), ?_⟩
        have LA : ∀ a ∈ A, a ≠ L := fun a ha z => by
          obtain ⟨j, ej⟩ := List.getElem?_of_mem ha
          obtain ⟨_, _, e2⟩ := g.rw'.each _ _ ej
          rw [z, nL] at e2
          cases e2
        have LT : T ≠ L := ne_of_none g.hT nL
        have LO : O ≠ L := ne_of_none g.hO nL
        refine ⟨_, _, vs ++ [.ref p4], rs' ++ [rotP row k], rfl, upd_same, Paired.snoc (Paired.mono (fun _ _ x => x.tk ((Same.tk sA).trans tk)) hv3) ⟨p4, rfl, tk _ _ h4⟩, by simp [li], fun j row' e => ?_, ⟨by rw [upd_ne LT]; exact g7.hT, pr_tk tk g7.hu, by rw [upd_ne LO]; exact g7.hO, g7.rw'.ext fun a ha _ h => by rw [upd_ne (LA a ha)]; exact h, g.TO, g.Td, g.Od, g.T0, g.O0, g.aA, g7.dk_ne Ld, g7.kp.mut nL0⟩, (((K2.trans K3).trans (Same.kp sA)).mut nL)⟩
        by_cases hj : j < rs'.length
        · rw [List.getElem?_append_left hj] at e
          exact each j row' e
        · have hj2 := (List.getElem?_eq_some_iff.mp e).1
          rw [List.length_append, List.length_singleton] at hj2
          rw [List.getElem?_append_right (by omega), show j - rs'.length = 0 by omega] at e
          cases e
          rw [show j = i by omega]
          exact ⟨row, k, er, by rw [List.length_map] at kl; exact kl, rfl⟩
    · rintro σ' H2 ⟨y3, y4, vs, rs', rfl, hL, hv, li, each, g2, K2⟩
      rw [List.length_map, lA] at li
      refine ⟨.ref L, rfl, L, _, rfl, .inl ⟨SqL.of hL, fun a na => ?_⟩⟩
      have sa := same_new (o := .tup vs) na
      exact q a vs rs' _ upd_same (Paired.mono (fun _ _ x => x.tk (Same.tk sa)) hv) (od.perm li fun j row' e => by
        obtain ⟨row, k, e1, _, e2⟩ := each j row' e
        exact ⟨row, e1, e2 ▸ rotP_perm row k⟩) li ⟨li, fun i row row' e1 e2 => by
        obtain ⟨row0, k, f1, f2, f3⟩ := each i row' e2
        rw [e1] at f1
        cases f1
        exact ⟨k, f2, f3⟩⟩ (g2.same sa) (K2.trans (Same.kp sa))
set_option maxHeartbeats 2000000 in
theorem ok_l_web {f : Addr} {fd : FuncData} (F : Fun K "_law_web" "_law_web" s_l_web f fd) (M : Free mg) (D_l_take : Df P w K mg base 2 "_law_take" ["_law_deck_here", "_law_most"] spTake) : FnOk P w K mg base CX0 3 f fd ["_law_deck_here", "_law_ties", "_law_places"] spWebF := by
  obtain ⟨f_l_take, fd_l_take, G_l_take, g_l_take, k_l_take, b_l_take⟩ := D_l_take
  refine F.ok sc_l_web (fun vs H Q E h => ?_) (fun cdv A outer s H vs Q E hr h => ?_)
  · obtain ⟨H0, d, T, O, us, es, A, rs, n, rfl, _⟩ := h
    rfl
  · obtain ⟨H0, d, T, O, us, es, A, rs, n, rfl, g, le, q⟩ := h
    refine ⟨_, (pss_cons (ps_set (i := 3) sc_l_web.nd rfl (.inl rfl) (pe_lst pa_nil))
      (pss_cons (ps_for PassesOwn.never rfl (pi_list (pv 1)) (pg_tup rfl (pgs_cons (pg_name (i := 4) sc_l_web.nd rfl (.inl rfl)) (pgs_cons (pg_name (i := 5) sc_l_web.nd rfl (.inl rfl)) pgs_nil)))
        (pss_cons (ps_set (i := 6) sc_l_web.nd rfl (.inl rfl) (pe_ix ix_list (pe_lst (pa_cons pe_str (pa_cons pe_str pa_nil))) (pe_call G_l_take (hr.mono (by decide)) (by rfl) g_l_take k_l_take b_l_take .nil pass0 (pa_cons (pv 0) (pa_cons pe_int pa_nil))) (fun _ _ => rfl)))
        (pss_one (ps_expr (pe_bm PySem.F.plainAttrs_list PySem.F.slot_list_append PySem.F.type_list_append mt_append (pv 3) (pa_cons (pe_ix ix_list (pe_lst (pa_cons (pe_tup (pa_cons (pv 4) (pa_cons (pv 5) (pa_cons (pv 6) pa_nil)))) (pa_cons (pe_tup (pa_cons (pv 5) (pa_cons (pv 4) (pa_cons (pv 6) pa_nil)))) pa_nil))) (pe_call G_l_take (hr.mono (by decide)) (by rfl) g_l_take k_l_take b_l_take .nil pass0 (pa_cons (pv 0) (pa_cons pe_int pa_nil))) (fun _ _ => rfl)) pa_nil))))))
      (pss_one (ps_ret (pe_tup (pa_cons (pv 2) (pa_cons (pe_callTy call_tuple_of (by rfl) M.tuple (by decide +kernel) (pa_cons (pv 3) pa_nil)) pa_nil))))))), ?_⟩
    have lu : us.length = es.length := Paired.length g.hu
    refine ⟨Nat.zero_le _, fun L nL => ?_⟩
    have sL := same_new (o := .lst []) nL
    have hL1 : (upd H L (.lst [])) L = some (.lst []) := upd_same
    have g1 := g.same sL
    have Ld : L ≠ d := g.dk.ned nL
    have K1 : Kp d d H (upd H L (.lst [])) := Same.kp sL
    have nL0 := g.kp.free nL Ld Ld
    have LA : ∀ a ∈ A, a ≠ L := fun a ha z => by
      obtain ⟨j, ej⟩ := List.getElem?_of_mem ha
      obtain ⟨_, _, e2⟩ := g.rw'.each _ _ ej
      rw [z, nL] at e2
      cases e2
    have LT : T ≠ L := ne_of_none g.hT nL
    have LO : O ≠ L := ne_of_none g.hO nL
    generalize upd H L (.lst []) = H1 at sL hL1 g1 K1
    refine ⟨.ref T, rfl, T, rfl, ⟨_, SqL.of g1.hT⟩, ?_⟩
    refine for_list (xs := us) (fun i σ' H' => ∃ (y4 y5 y6 : Option V) (vs : List V) (ts : List Tie), σ' = [some (.ref d), some (.ref T), some (.int n), some (.ref L), y4, y5, y6] ∧ H' L = some (.lst vs) ∧ Paired (TieV H') vs ts ∧ TwE ts (es.take i) ∧ Grw H0 d T O H' us es A rs ∧ Kp d d H H') ⟨none, none, none, [], [], rfl, hL1, .nil, ⟨rfl, fun k t e h => by simp at h⟩, g1, K1⟩ (fun i σ' H' _ h => by
      obtain ⟨_, _, _, _, _, _, _, _, _, g, _⟩ := h
      exact SqL.of g.hT) ?_ ?_
    · rintro i x σ' H2 ex ⟨y4, y5, y6, vs, ts, rfl, hL, hv, tw, g2, K2⟩
      have lv := Paired.length hv
      obtain ⟨e, ee, c, rfl, hc⟩ := Paired.at g2.hu ex
      have il := (List.getElem?_eq_some_iff.mp ee).1
      have lts := tw.1
      rw [List.length_take] at lts
      refine ⟨c, _, rfl, SqT.of hc, rfl, _, _, rfl, _, _, rfl, rfl, ?_⟩
      refine ⟨by show 2 ≤ sizeLine; decide, fun p np => ?_⟩
      have sp := same_new (o := .lst [.str "friend", .str "foe"]) np
      have g3 := g2.same sp
      have pd := g2.dk.ned np
      refine ⟨.ref d, rfl, d, 2, rfl, g3.dk, by decide, by decide, fun v H3 v0 v1 D3 K3 => ?_⟩
      obtain ⟨fo, ef⟩ := pickK v v0 v1
      refine ⟨p, _, v, _, rfl, rfl, SqL.of (K3 _ _ pd pd upd_same), ef, ?_⟩
      have g4 := g3.take K3 D3
      have hL3 := K3 _ _ Ld Ld (sp _ _ hL)
      have hv3 := ties_tk (g3.dk.tk K3) (ties_tk (Same.tk sp) hv)
      have K23 := (K2.trans (Same.kp sp)).trans K3
      clear g3 sp K3 D3 hv hL g2 np hc
      refine ⟨.ref L, rfl, .inl ⟨rfl, _, SqL.of hL3⟩, .int e.1, rfl, .int e.2, rfl, .str (kindS fo), rfl, by show 3 ≤ sizeLine; decide, fun c1 n1 => ?_⟩
      have s5 := same_new (o := .tup [.int e.1, .int e.2, .str (kindS fo)]) n1
      refine ⟨.int e.2, rfl, .int e.1, rfl, .str (kindS fo), rfl, by show 3 ≤ sizeLine; decide, fun c2 n2 => ?_⟩
      have s6 := same_new (o := .tup [.int e.2, .int e.1, .str (kindS fo)]) n2
      refine ⟨by show 2 ≤ sizeLine; decide, fun p2 np2 => ?_⟩
      have s7 := same_new (o := .lst [.ref c1, .ref c2]) np2
      have h1 := s7 _ _ (s6 _ _ (upd_same (H := H3) (a := c1) (o := .tup [.int e.1, .int e.2, .str (kindS fo)])))
      have h2 := s7 _ _ (upd_same (H := upd H3 c1 (.tup [.int e.1, .int e.2, .str (kindS fo)])) (a := c2) (o := .tup [.int e.2, .int e.1, .str (kindS fo)]))
      have hp2 := upd_same (H := upd (upd H3 c1 (.tup [.int e.1, .int e.2, .str (kindS fo)])) c2 (.tup [.int e.2, .int e.1, .str (kindS fo)])) (a := p2) (o := .lst [.ref c1, .ref c2])
      have s57 := (s5.trans s6).trans s7
      have p2d : p2 ≠ d := ((g4.dk.same s5).same s6).ned np2
      have g5 := g4.same s57
      generalize upd (upd (upd H3 c1 (.tup [.int e.1, .int e.2, .str (kindS fo)])) c2 (.tup [.int e.2, .int e.1, .str (kindS fo)])) p2 (.lst [.ref c1, .ref c2]) = H4 at h1 h2 hp2 s57 g5
      refine ⟨.ref d, rfl, d, 2, rfl, g5.dk, by decide, by decide, fun w H5 w0 w1 D5 K5 => ?_⟩
      have g6 := g5.take K5 D5
      have tk5 := g5.dk.tk K5
      have hL5 := K5 _ _ Ld Ld (s57 _ _ hL3)
      have hv5 := ties_tk tk5 (ties_tk (Same.tk s57) hv3)
      have h1 := tk5 _ _ h1
      have h2 := tk5 _ _ h2
      obtain ⟨cc, t, ec, hcc, jt⟩ : ∃ (cc : Addr) (t : Tie), atI [V.ref c1, V.ref c2] w = some (.ref cc) ∧ H5 cc = some (.tup [.int t.one, .int t.other, .str (kindS t.foe)]) ∧ ((t.one = e.1 ∧ t.other = e.2) ∨ (t.one = e.2 ∧ t.other = e.1)) := by
        have h01 : w = 0 ∨ w = 1 := by omega
        rcases h01 with z | z <;> subst z
        · exact ⟨c1, ⟨e.1, e.2, fo⟩, rfl, h1, .inl ⟨rfl, rfl⟩⟩
        · exact ⟨c2, ⟨e.2, e.1, fo⟩, rfl, h2, .inr ⟨rfl, rfl⟩⟩
      refine ⟨p2, _, w, .ref cc, rfl, rfl, SqL.of (K5 _ _ p2d p2d hp2), ec, L, vs, _, rfl, rfl, hL5, small1000 (by omega), ?_⟩
      have tk := tk_lst (ys := vs ++ [.ref cc]) hL5
      refine ⟨_, _, _, vs ++ [.ref cc], ts ++ [t], rfl, upd_same, Paired.snoc (ties_tk tk hv5) ⟨cc, rfl, tk _ _ hcc⟩, ?_, g6.oth LA LT LO Ld nL0 hL5, ((K23.trans (Same.kp s57)).trans K5).mut nL⟩
      rw [List.take_add_one, ee]
      exact tw.snoc jt
    · rintro σ' H2 ⟨y4, y5, y6, vs, ts, rfl, hL, hv, tw, g2, K2⟩
      rw [lu, List.take_length] at tw
      refine ⟨.int n, rfl, .ref L, rfl, L, vs, rfl, .inl ⟨SqL.of hL, fun e ne => ⟨by show 2 ≤ sizeLine; decide, fun a na => ?_⟩⟩⟩
      have s2 := (same_new (o := .tup vs) ne).trans (same_new (o := .tup [.int n, .ref e]) na)
      exact q _ ts _ ⟨a, e, vs, rfl, upd_same, same_new na _ _ upd_same, ties_tk (Same.tk s2) hv⟩ tw (g2.same s2) (K2.trans (Same.kp s2))
end
/-! ### flats: steps_behind -/
def othE (es : List (Int × Int)) (k p : Int) : Int := (es.getD k.toNat (0, 0)).1 + (es.getD k.toNat (0, 0)).2 - p
abbrev St2 := (Int × Int) × (Int × Int)
def stepR (es : List (Int × Int)) (p : Nat) (row : List Int) (m : Nat) : List St2 := (List.range m).map fun i => ((row.getD i 0, othE es (row.getD i 0) p), (row.getD ((i + 1) % row.length) 0, (p : Int)))
def stepsB (es : List (Int × Int)) (rs : List (List Int)) (m : Nat) : List St2 := (List.range m).flatMap fun p => stepR es p (rs.getD p []) (rs.getD p []).length
theorem stepR_succ (es : List (Int × Int)) (p : Nat) (row : List Int) (m : Nat) : stepR es p row (m + 1) = stepR es p row m ++ [((row.getD m 0, othE es (row.getD m 0) p), (row.getD ((m + 1) % row.length) 0, (p : Int)))] := by
  unfold stepR
  rw [List.range_succ, List.map_append]
  rfl
theorem stepsB_succ (es : List (Int × Int)) (rs : List (List Int)) (m : Nat) : stepsB es rs (m + 1) = stepsB es rs m ++ stepR es m (rs.getD m []) (rs.getD m []).length := by
  unfold stepsB
  rw [List.range_succ, List.flatMap_append]
  simp
def BhV (H : Hp) (kv : List Key × V) (b : St2) : Prop := kv.1 = [Sum.inl b.1.1, Sum.inl b.1.2] ∧ PrV H kv.2 b.2
theorem bh_tk {H H' : Hp} (k : Tk H H') {vs : List (List Key × V)} {bs : List St2} (h : Paired (BhV H) vs bs) : Paired (BhV H') vs bs := Paired.mono (fun _ _ x => ⟨x.1, x.2.tk k⟩) h
theorem bh_none {H : Hp} {x y : Int} : ∀ {kvs : List (List Key × V)} {bs : List St2}, Paired (BhV H) kvs bs → (∀ b ∈ bs, b.1 ≠ (x, y)) → valV kvs [Sum.inl x, Sum.inl y] = none
  | _, _, .nil, _ => rfl
  | kv :: kvs, b :: bs, .cons h t, no => by
    rw [valV_neg]
    · exact bh_none t fun c hc => no c (List.mem_cons_of_mem _ hc)
    · intro e
      rw [h.1] at e
      have := no b List.mem_cons_self
      simp only [List.cons.injEq, Sum.inl.injEq, and_true] at e
      exact this (Prod.ext e.1 e.2)
theorem bh_put {H : Hp} {x y : Int} {kvs : List (List Key × V)} {bs : List St2} {v : V} (h : Paired (BhV H) kvs bs) (no : ∀ b ∈ bs, b.1 ≠ (x, y)) : putK kvs [Sum.inl x, Sum.inl y] v = kvs ++ [([Sum.inl x, Sum.inl y], v)] := by
  unfold putK
  rw [valV_any, bh_none h no, if_neg (by simp)]
theorem othE_inj {es : List (Int × Int)} {k p q : Int} (h : othE es k p = othE es k q) : p = q := by
  unfold othE at h
  omega
theorem stepR_mem {es : List (Int × Int)} {p : Nat} {row : List Int} {m : Nat} {b : St2} (h : b ∈ stepR es p row m) : ∃ i, i < m ∧ b.1 = (row.getD i 0, othE es (row.getD i 0) p) := by
  unfold stepR at h
  obtain ⟨i, hi, rfl⟩ := List.mem_map.mp h
  exact ⟨i, List.mem_range.mp hi, rfl⟩
theorem step_new {es : List (Int × Int)} {rs : List (List Int)} {i j : Nat} {row : List Int} (er : rs[i]? = some row) (nd : row.Nodup) (hj : j < row.length) : ∀ b ∈ stepsB es rs i ++ stepR es i row j, b.1 ≠ (row.getD j 0, othE es (row.getD j 0) i) := by
  intro b hb e
  rcases List.mem_append.mp hb with h | h
  · unfold stepsB at h
    obtain ⟨p, hp, h⟩ := List.mem_flatMap.mp h
    have hp := List.mem_range.mp hp
    obtain ⟨i', _, e'⟩ := stepR_mem h
    rw [e'] at e
    have e1 := (Prod.mk.injEq .. ▸ e).1
    have e2 := (Prod.mk.injEq .. ▸ e).2
    rw [e1] at e2
    have := othE_inj e2
    omega
  · obtain ⟨i', hi', e'⟩ := stepR_mem h
    rw [e'] at e
    have e1 := (Prod.mk.injEq .. ▸ e).1
    rw [List.getD_eq_getElem?_getD, List.getD_eq_getElem?_getD, List.getElem?_eq_getElem hj, List.getElem?_eq_getElem (by omega)] at e1
    exact List.pairwise_iff_getElem.mp nd i' j (by omega) hj hi' e1
theorem rot1 {row : List Int} {i : Nat} (hi : i < row.length) : (row.drop 1 ++ row.take 1)[i]? = some (row.getD ((i + 1) % row.length) 0) := by
  by_cases h : i + 1 < row.length
  · rw [List.getElem?_append_left (by rw [List.length_drop]; omega), List.getElem?_drop, Nat.mod_eq_of_lt h, Nat.add_comm, List.getElem?_eq_getElem h, List.getD_eq_getElem?_getD, List.getElem?_eq_getElem h]
    rfl
  · have e : i + 1 = row.length := by omega
    rw [List.getElem?_append_right (by rw [List.length_drop]; omega), List.length_drop, show i - (row.length - 1) = 0 by omega, e, Nat.mod_self, List.getElem?_take_of_lt (by omega), List.getElem?_eq_getElem (show 0 < row.length by omega), List.getD_eq_getElem?_getD, List.getElem?_eq_getElem (show 0 < row.length by omega)]
    rfl
theorem cut_rot (xs : List V) : cutV xs (some 1) none ++ cutV xs none (some 1) = xs.drop 1 ++ xs.take 1 := by
  cases xs with
  | nil => rfl
  | cons x xs =>
    have h : (1 : Nat) ≤ (x :: xs).length := by simp
    have a := cut_drop (xs := x :: xs) h
    have b := cut_take (xs := x :: xs) h
    have e : (((1 : Nat) : Int)) = 1 := rfl
    rw [e] at a b
    rw [a, b]
theorem stepR_len (es : List (Int × Int)) (p : Nat) (row : List Int) (m : Nat) : (stepR es p row m).length = m := by
  unfold stepR
  rw [List.length_map, List.length_range]
def spSteps : Sp := fun vs H Q _ => ∃ (wv : V) (n : Int) (ts : List Tie) (o : Addr) (us : List V) (rs : List (List Int)) (es : List (Int × Int)), vs = [wv, .ref o] ∧ WebAt H wv n ts ∧ H o = some (.tup us) ∧ Paired (IntsV H) us rs ∧ Ord rs es ∧ TwE ts es ∧ rs.length ≤ 100 ∧ es.length ≤ 200 ∧
  ∀ D kvs H', Same H H' → H' D = some (.dT kvs) → Paired (BhV H') kvs (stepsB es rs rs.length) → Q (.ref D) H'
theorem walk_zipT {K : PySem.W.Frag} {a b : Addr} {xs ys : List V} {n : Nat} (hn : n = min xs.length ys.length) : Walk (RZ.ItzT K a b) n (fun H => SqT K H a xs ∧ SqT K H b ys) (YPair (fun i => xs[i]?) (fun i => ys[i]?)) := by
  subst hn
  refine ⟨fun i _ hi q => ?_, fun _ q => ⟨xs, ys, q.1, q.2, by omega⟩, fun i H v H' _ q y => ?_⟩
  · have h1 : i < xs.length := by omega
    have h2 : i < ys.length := by omega
    exact ⟨xs, ys, xs[i], ys[i], q.1, q.2, by simp [h1], by simp [h2]⟩
  · obtain ⟨T, x, z, h1, h2, h3, h4, h5⟩ := y
    exact ⟨T, x, z, h1, h2, h3, h4 xs q.1, h5 ys q.2⟩
section
variable {P : Program} {w : World} {K : PySem.W.Frag} {mg : Str → Option Value} {base : Heap}
set_option maxHeartbeats 2000000 in
theorem ok_steps_behind {f : Addr} {fd : FuncData} (F : Fun K "steps_behind" "steps_behind" s_steps_behind f fd) (m_enumerate : mg "enumerate" = none) (m_zip : mg "zip" = none) : FnOk P w K mg base CX0 1 f fd ["web", "orders"] spSteps := by
  refine F.ok sc_steps_behind (fun vs H Q E h => ?_) (fun cdv A outer s H vs Q E hr h => ?_)
  · obtain ⟨wv, n, ts, o, us, rs, es, rfl, _⟩ := h
    rfl
  · obtain ⟨wv, n, ts, o, us, rs, es, rfl, hW, ho, hp, od, tw, lr, le, q⟩ := h
    have hu := room1 hr
    refine ⟨_, (pss_cons (ps_set (i := 2) sc_steps_behind.nd rfl (.inl rfl) pe_dnewT)
      (pss_cons (ps_for PassesOwn.never rfl (pi_enumT (by rfl) m_enumerate (pa_cons (pv 1) pa_nil)) (pg_tup rfl (pgs_cons (pg_name (i := 3) sc_steps_behind.nd rfl (.inl rfl)) (pgs_cons (pg_name (i := 4) sc_steps_behind.nd rfl (.inl rfl)) pgs_nil)))
        (pss_one (ps_for PassesOwn.never rfl (RZ.pi_zipA (by rfl) m_zip (pa_cons (pv 4) (pa_cons (pe_op op_catU (pe_slice sl_tupU (pv 4) (po_some pe_int) po_none) (pe_slice sl_tupU (pv 4) po_none (po_some pe_int))) pa_nil))) (pg_tup rfl (pgs_cons (pg_name (i := 5) sc_steps_behind.nd rfl (.inl rfl)) (pgs_cons (pg_name (i := 6) sc_steps_behind.nd rfl (.inl rfl)) pgs_nil)))
          (pss_cons (ps_asg (pe_ix ix_tup (pe_ix ix_tup (pv 0) pe_int (fun _ _ => rfl)) (pv 5) (fun _ _ => rfl)) (pg_tup rfl (pgs_cons (pg_name (i := 7) sc_steps_behind.nd rfl (.inl rfl)) (pgs_cons (pg_name (i := 8) sc_steps_behind.nd rfl (.inl rfl)) (pgs_cons (pg_name (i := 9) sc_steps_behind.nd rfl (.inl rfl)) pgs_nil)))))
          (pss_one (ps_dput hu (pv 2) (pe_tup (pa_cons (pv 5) (pa_cons (pe_ifExp (pt_cmpR op_eq (pv 3) (pv 7) (nomark _)) (pv 8) (pv 7)) pa_nil))) (pe_tup (pa_cons (pv 6) (pa_cons (pv 3) pa_nil))) rfl))))))
      (pss_one (ps_ret (pv 2))))), ?_⟩
    obtain ⟨wa, wb, ws, rfl, hwa, hwb, hpw⟩ := id hW
    have lu : us.length = rs.length := Paired.length hp
    refine fun D nD => ?_
    have s1 := same_new (o := .dT []) nD
    have hD1 : (upd H D (.dT [])) D = some (.dT []) := upd_same
    generalize upd H D (.dT []) = H1 at s1 hD1
    refine ⟨.ref o, rfl, o, us, rfl, SqT.of (s1 _ _ ho), ?_⟩
    refine for_it (walk_enumT (xs := us)) (fun i σ' H' => ∃ (y3 y4 y5 y6 y7 y8 y9 : Option V) (kvs : List (List Key × V)), σ' = [some (.ref wa), some (.ref o), some (.ref D), y3, y4, y5, y6, y7, y8, y9] ∧ H' D = some (.dT kvs) ∧ Paired (BhV H') kvs (stepsB es rs i) ∧ kvs.length ≤ 200 * i ∧ Same H H') ⟨none, none, none, none, none, none, none, [], rfl, hD1, .nil, Nat.le_refl _, s1⟩ (fun i σ' H' _ h => by
      obtain ⟨_, _, _, _, _, _, _, _, _, _, _, _, s⟩ := h
      exact SqT.of (s _ _ ho)) ?_ ?_
    · rintro i x σ' H2 H3 hi ⟨y3, y4, y5, y6, y7, y8, y9, kvs, rfl, hD2, hb, lk0, s2⟩ ⟨T, x1, y1, rfl, nT, rfl, gx, gy⟩
      obtain rfl : V.int (i : Nat) = x1 := Option.some.inj gx
      have gy : us[i]? = some y1 := gy
      obtain ⟨row, er, a, rfl, ha⟩ := Paired.at hp gy
      have sT := same_new (o := .tup [.int (i : Nat), .ref a]) nT
      have hT3 := upd_same (H := H2) (a := T) (o := .tup [.int (i : Nat), .ref a])
      have hD3 := sT _ _ hD2
      have hb3 := bh_tk (Same.tk sT) hb
      have s3 := s2.trans sT
      generalize upd H2 T (.tup [.int (i : Nat), .ref a]) = H3 at hT3 hD3 hb3 s3
      have eg : rs.getD i [] = row := by rw [List.getD_eq_getElem?_getD, er]; rfl
      have hrm := List.mem_of_getElem? er
      have ndr := od.nd row hrm
      have lrow := od.row_len hrm
      refine ⟨T, _, rfl, SqT.of hT3, rfl, _, _, rfl, _, _, rfl, rfl, ?_⟩
      refine ⟨.ref a, rfl, .ref a, rfl, 1, rfl, a, _, rfl, s3 _ _ ha, fun r1 H4 s4 h4 => ⟨.ref a, rfl, 1, rfl, a, _, rfl, s4 _ _ (s3 _ _ ha), fun r2 H5 s5 h5 => ?_⟩⟩
      have hlen : (cutV (row.map V.int) (some 1) none).length + (cutV (row.map V.int) none (some 1)).length ≤ 100000 := by
        have h1 := cutV_length (row.map V.int) (some 1) none
        have h2 := cutV_length (row.map V.int) none (some 1)
        rw [List.length_map] at h1 h2
        omega
      refine ⟨r1, r2, _, _, rfl, rfl, s5 _ _ h4, h5, hlen, fun r3 H6 s6 h6 => ?_⟩
      rw [cut_rot] at h6
      have s36 := ((s4.trans s5).trans s6)
      have sA := s3.trans s36
      have hD6 := s36 _ _ hD3
      have hb6 := bh_tk (Same.tk s36) hb3
      clear hD3 hb3 hb hD2 s4 h4 s5 h5 s6 hT3
      refine ⟨a, r3, _, _, rfl, .inr ⟨SqT.of (sA _ _ ha), SqT.of h6, ?_⟩⟩
      have lz : ((row.map V.int).drop 1 ++ (row.map V.int).take 1).length = row.length := by
        rw [List.length_append, List.length_drop, List.length_take, List.length_map]
        omega
      refine for_it (walk_zipT (xs := row.map V.int) (ys := (row.map V.int).drop 1 ++ (row.map V.int).take 1) (n := row.length) (by rw [lz, List.length_map]; omega)) (fun j σ' H' => ∃ (y5 y6 y7 y8 y9 : Option V) (kvs : List (List Key × V)), σ' = [some (.ref wa), some (.ref o), some (.ref D), some (.int (i : Nat)), some (.ref a), y5, y6, y7, y8, y9] ∧ H' D = some (.dT kvs) ∧ Paired (BhV H') kvs (stepsB es rs i ++ stepR es i row j) ∧ H' r3 = some (.tup ((row.map V.int).drop 1 ++ (row.map V.int).take 1)) ∧ kvs.length ≤ 200 * i + j ∧ Same H H') ⟨_, _, _, _, _, kvs, rfl, hD6, by rw [show stepR es i row 0 = [] from rfl, List.append_nil]; exact hb6, h6, lk0, sA⟩ (fun j σ' H' _ h => by
        obtain ⟨_, _, _, _, _, _, _, _, _, h3, _, s⟩ := h
        exact ⟨SqT.of (s _ _ ha), SqT.of h3⟩) ?_ ?_
      · clear hD6 hb6 sA s36 h6
        rintro j x σ' H7 H8 hj ⟨y5, y6, y7, y8, y9, kvs, rfl, hD7, hb7, h7, lk, s7⟩ ⟨T2, x2, y2, rfl, nT2, rfl, gx2, gy2⟩
        have gx2 : (row.map V.int)[j]? = some x2 := gx2
        have gy2 : ((row.map V.int).drop 1 ++ (row.map V.int).take 1)[j]? = some y2 := gy2
        have ej := List.getElem?_eq_getElem hj
        have egj : row.getD j 0 = row[j] := by rw [List.getD_eq_getElem?_getD, ej]; rfl
        rw [List.getElem?_map, ej] at gx2
        cases gx2
        have er1 := rot1 hj
        rw [← List.map_drop, ← List.map_take, ← List.map_append, List.getElem?_map, er1] at gy2
        cases gy2
        have sT2 := same_new (o := .tup [.int row[j], .int (row.getD ((j + 1) % row.length) 0)]) nT2
        have hT8 := upd_same (H := H7) (a := T2) (o := .tup [.int row[j], .int (row.getD ((j + 1) % row.length) 0)])
        have hD8 := sT2 _ _ hD7
        have hb8 := bh_tk (Same.tk sT2) hb7
        have h8 := sT2 _ _ h7
        have s8 := s7.trans sT2
        generalize upd H7 T2 (.tup [.int row[j], .int (row.getD ((j + 1) % row.length) 0)]) = H8 at hT8 hD8 hb8 h8 s8
        obtain ⟨k, e, ek, ee, pe⟩ := (od.mem i row er row[j]).mp (List.getElem_mem hj)
        have kl := (List.getElem?_eq_some_iff.mp ee).1
        obtain ⟨t, et⟩ : ∃ t, ts[k]? = some t := ⟨_, List.getElem?_eq_getElem (by rw [tw.1]; exact kl)⟩
        have jt := tw.2 k t e et ee
        have ends := od.ends e (List.mem_of_getElem? ee)
        obtain ⟨u, eu, tc, rfl, htc⟩ := Paired.at' hpw et
        refine ⟨T2, _, rfl, SqT.of hT8, rfl, _, _, rfl, _, _, rfl, rfl, ?_⟩
        refine ⟨.ref wa, rfl, wa, _, 1, .ref wb, rfl, rfl, SqT.of (s8 _ _ hwa), rfl, .int row[j], rfl, wb, _, row[j], .ref tc, rfl, rfl, SqT.of (s8 _ _ hwb), (by rw [ek]; exact atI_nat eu), tc, _, rfl, SqT.of (s8 _ _ htc), rfl, _, _, rfl, _, _, rfl, _, _, rfl, rfl, ?_⟩
        refine ⟨.int (row.getD ((j + 1) % row.length) 0), rfl, .int (i : Nat), rfl, by show 2 ≤ sizeLine; decide, fun v nv => ?_⟩
        have sv := same_new (o := .tup [.int (row.getD ((j + 1) % row.length) 0), .int (i : Nat)]) nv
        have hv9 := upd_same (H := H8) (a := v) (o := .tup [.int (row.getD ((j + 1) % row.length) 0), .int (i : Nat)])
        refine ⟨.ref D, rfl, .int row[j], rfl, .int (i : Nat), rfl, .int t.one, rfl, rfl, _, rfl, ?_⟩
        rw [dec_intF]
        have oe : othE es row[j] i = e.1 + e.2 - (i : Int) := by
          unfold othE
          rw [ek, List.getD_eq_getElem?_getD, Int.toNat_natCast, ee]
          rfl
        by_cases ci : ((i : Nat) : Int) = t.one
        · rw [decide_eq_true ci]
          have eq0 : t.other = othE es row[j] i := by rw [oe]; omega
          refine ⟨.int t.other, rfl, by show 2 ≤ sizeLine; decide, fun kk nk => ?_⟩
          have sk := same_new (o := .tup [.int row[j], .int t.other]) nk
          have hk9 := upd_same (H := upd H8 v (.tup [.int (row.getD ((j + 1) % row.length) 0), .int (i : Nat)])) (a := kk) (o := .tup [.int row[j], .int t.other])
          have s9 := sv.trans sk
          have hv10 := sk _ _ hv9
          have hD9 := s9 _ _ hD8
          have hb9 := bh_tk (Same.tk s9) hb8
          have h9 := s9 _ _ h8
          have sB := s8.trans s9
          generalize upd (upd H8 v (.tup [.int (row.getD ((j + 1) % row.length) 0), .int (i : Nat)])) kk (.tup [.int row[j], .int t.other]) = H9 at hk9 hv10 hD9 hb9 h9 sB
          have hlt : kvs.length < sizeLine := Nat.lt_of_succ_le (Evl.sz_of (by omega))
          refine ⟨D, _, rfl, DPut.t (k := [Sum.inl row[j], Sum.inl t.other]) hD9 hk9 hlt, ?_⟩
          have nw := step_new (es := es) er ndr hj
          rw [egj, ← eq0] at nw
          rw [bh_put hb9 nw]
          have tkD : Tk H9 (upd H9 D (.dT (kvs ++ [([Sum.inl row[j], Sum.inl t.other], .ref v)]))) := fun b zs eb => by
            rw [upd_ne (fun z => by rw [z, hD9] at eb; cases eb)]
            exact eb
          refine ⟨_, _, _, _, _, kvs ++ [([Sum.inl row[j], Sum.inl t.other], .ref v)], rfl, upd_same, ?_, tkD _ _ h9, by rw [List.length_append]; show _ + 1 ≤ _; omega, Same.mut sB nD⟩
          rw [stepR_succ, ← List.append_assoc, egj, ← eq0]
          exact Paired.snoc (bh_tk tkD hb9) ⟨rfl, v, rfl, tkD _ _ hv10⟩
        · rw [decide_eq_false ci]
          have eq0 : t.one = othE es row[j] i := by rw [oe]; omega
          refine ⟨.int t.one, rfl, by show 2 ≤ sizeLine; decide, fun kk nk => ?_⟩
          have sk := same_new (o := .tup [.int row[j], .int t.one]) nk
          have hk9 := upd_same (H := upd H8 v (.tup [.int (row.getD ((j + 1) % row.length) 0), .int (i : Nat)])) (a := kk) (o := .tup [.int row[j], .int t.one])
          have s9 := sv.trans sk
          have hv10 := sk _ _ hv9
          have hD9 := s9 _ _ hD8
          have hb9 := bh_tk (Same.tk s9) hb8
          have h9 := s9 _ _ h8
          have sB := s8.trans s9
          generalize upd (upd H8 v (.tup [.int (row.getD ((j + 1) % row.length) 0), .int (i : Nat)])) kk (.tup [.int row[j], .int t.one]) = H9 at hk9 hv10 hD9 hb9 h9 sB
          have hlt : kvs.length < sizeLine := Nat.lt_of_succ_le (Evl.sz_of (by omega))
          refine ⟨D, _, rfl, DPut.t (k := [Sum.inl row[j], Sum.inl t.one]) hD9 hk9 hlt, ?_⟩
          have nw := step_new (es := es) er ndr hj
          rw [egj, ← eq0] at nw
          rw [bh_put hb9 nw]
          have tkD : Tk H9 (upd H9 D (.dT (kvs ++ [([Sum.inl row[j], Sum.inl t.one], .ref v)]))) := fun b zs eb => by
            rw [upd_ne (fun z => by rw [z, hD9] at eb; cases eb)]
            exact eb
          refine ⟨_, _, _, _, _, kvs ++ [([Sum.inl row[j], Sum.inl t.one], .ref v)], rfl, upd_same, ?_, tkD _ _ h9, by rw [List.length_append]; show _ + 1 ≤ _; omega, Same.mut sB nD⟩
          rw [stepR_succ, ← List.append_assoc, egj, ← eq0]
          exact Paired.snoc (bh_tk tkD hb9) ⟨rfl, v, rfl, tkD _ _ hv10⟩
      · rintro σ' H7 ⟨y5, y6, y7, y8, y9, kvs, rfl, hD7, hb7, h7, lk, s7⟩
        refine ⟨_, _, _, _, _, _, _, kvs, rfl, hD7, ?_, by omega, s7⟩
        rw [stepsB_succ, eg]
        exact hb7
    · rintro σ' H2 ⟨y3, y4, y5, y6, y7, y8, y9, kvs, rfl, hD2, hb, lk0, s2⟩
      rw [lu] at hb
      exact ⟨.ref D, rfl, q D kvs _ s2 hD2 hb⟩
end
/-! ### flats: face_from, _law_behind -/
theorem eqv_twoF (x y u v : Int) : PyData.eqv (intsD [x, y]) (intsD [u, v]) = (decide (u = x) && decide (v = y)) := by
  show PyData.eqv (.tuple [.int x, .int y]) (.tuple [.int u, .int v]) = _
  rw [PyData.eqv, PyData.eqvAll, PyData.eqv, PyData.eqvAll, PyData.eqv, PyData.eqvAll, Bool.and_true]
  rw [Bool.eq_iff_iff, Bool.and_eq_true, Bool.and_eq_true, beq_iff_eq, beq_iff_eq, decide_eq_true_iff, decide_eq_true_iff]
  exact ⟨fun h => ⟨h.1.symm, h.2.symm⟩, fun h => ⟨h.1.symm, h.2.symm⟩⟩
theorem bh_get {H : Hp} {x y u v : Int} : ∀ {kvs : List (List Key × V)} {bs : List St2}, Paired (BhV H) kvs bs → (bs.map (·.1)).Nodup → ((x, y), (u, v)) ∈ bs → ∃ a, valV kvs [Sum.inl x, Sum.inl y] = some (.ref a) ∧ H a = some (.tup [.int u, .int v])
  | _, _, .nil, _, h => by cases h
  | kv :: kvs, b :: bs, .cons h t, nd, hm => by
    rw [List.map_cons] at nd
    have nd' := List.nodup_cons.mp nd
    by_cases e : b.1 = (x, y)
    · have eb : b = ((x, y), (u, v)) := by
        rcases List.mem_cons.mp hm with z | z
        · exact z.symm
        · exact (nd'.1 (List.mem_map.mpr ⟨_, z, e.symm⟩)).elim
      subst eb
      obtain ⟨h1, a, h2, h3⟩ := h
      refine ⟨a, ?_, h3⟩
      rw [valV_pos (p := kv) h1, h2]
    · have hm' : ((x, y), (u, v)) ∈ bs := by
        rcases List.mem_cons.mp hm with z | z
        · exact (e (by rw [← z])).elim
        · exact z
      obtain ⟨a, h1, h2⟩ := bh_get t nd'.2 hm'
      refine ⟨a, ?_, h2⟩
      rw [valV_neg]
      · exact h1
      · intro z
        rw [h.1] at z
        simp only [List.cons.injEq, Sum.inl.injEq, and_true] at z
        exact e (Prod.ext z.1 z.2)
theorem ixN_last {n : Nat} (h : 0 < n) : ixN n (-1) = some (n - 1) := by
  unfold ixN
  rw [if_neg (by decide), if_pos (by omega)]
  congr 1
  omega
theorem atI_last {α : Type} {xs : List α} {v : α} (h : xs[xs.length - 1]? = some v) : atI xs (-1) = some v := by
  have := (List.getElem?_eq_some_iff.mp h).1
  unfold atI
  rw [ixN_last (by omega)]
  exact h
/-- a way round, back to where it began, which is met but once -/
structure Cyc (bs : List St2) (s : Int × Int) (ps : List (Int × Int)) : Prop where
  hd : ps[0]? = some s
  st : ∀ (i : Nat) (x y : Int × Int), ps[i]? = some x → ps[i + 1]? = some y → (x, y) ∈ bs
  cl : ∀ x : Int × Int, ps[ps.length - 1]? = some x → (x, s) ∈ bs
  no : ∀ (i : Nat) (x : Int × Int), 0 < i → ps[i]? = some x → x ≠ s
def spFace : Sp := fun vs H Q _ => ∃ (f D : Addr) (kvs : List (List Key × V)) (bs : List St2) (s : Int × Int) (ps : List (Int × Int)), vs = [.ref f, .ref D] ∧ H f = some (.tup [.int s.1, .int s.2]) ∧ H D = some (.dT kvs) ∧ Paired (BhV H) kvs bs ∧ (bs.map (·.1)).Nodup ∧ Cyc bs s ps ∧ ps.length ≤ 1000 ∧
  ∀ r vs' H', Same H H' → H' r = some (.tup vs') → Paired (PrV H') vs' ps → Q (.ref r) H'
def spBehindL : Sp := fun vs H Q _ => ∃ (wv : V) (n : Int) (ts : List Tie) (o st : Addr) (us : List V) (rs : List (List Int)) (es : List (Int × Int)) (k : Nat) (p : Nat) (row : List Int) (i : Nat), vs = [wv, .ref o, .ref st] ∧ WebAt H wv n ts ∧ H o = some (.tup us) ∧ Paired (IntsV H) us rs ∧ Ord rs es ∧ TwE ts es ∧ es.length ≤ 200 ∧ k < es.length ∧ rs[p]? = some row ∧ row[i]? = some (k : Int) ∧ H st = some (.tup [.int (k : Nat), .int (othE es k p)]) ∧
  ∀ r H', Same H H' → H' r = some (.tup [.int (row.getD ((i + 1) % row.length) 0), .int (p : Nat)]) → Q (.ref r) H'
section
variable {P : Program} {w : World} {K : PySem.W.Frag} {mg : Str → Option Value} {base : Heap}
set_option maxHeartbeats 2000000 in
theorem ok_face_from {f : Addr} {fd : FuncData} (F : Fun K "face_from" "face_from" s_face_from f fd) (M : Free mg) : FnOk P w K mg base CX0 1 f fd ["first", "behind"] spFace := by
  refine F.ok sc_face_from (fun vs H Q E h => ?_) (fun cdv A outer s H vs Q E hr h => ?_)
  · obtain ⟨f0, D, kvs, bs, s0, ps, rfl, _⟩ := h
    rfl
  · obtain ⟨f0, D, kvs, bs, s0, ps, rfl, hf, hD, hb, nd, cy, lp, q⟩ := h
    have hu := room1 hr
    refine ⟨_, (pss_cons (ps_set (i := 2) sc_face_from.nd rfl (.inl rfl) (pe_lst (pa_cons (pv 0) pa_nil)))
      (pss_cons (ps_while PassesOwn.never (pt_cmpR (op_neD hr.units) (pe_dget hu (pv 1) (pe_ix ix_list (pv 2) (pe_un un_neg pe_int) (fun _ _ => rfl)) (fun _ _ => rfl)) (pv 0) (nomark _))
        (pss_one (ps_expr (pe_bm PySem.F.plainAttrs_list PySem.F.slot_list_append PySem.F.type_list_append mt_append (pv 2) (pa_cons (pe_dget hu (pv 1) (pe_ix ix_list (pv 2) (pe_un un_neg pe_int) (fun _ _ => rfl)) (fun _ _ => rfl)) pa_nil)))))
      (pss_one (ps_ret (pe_callTy call_tuple_of (by rfl) M.tuple (by decide +kernel) (pa_cons (pv 2) pa_nil)))))), ?_⟩
    refine ⟨.ref f0, rfl, by show 1 ≤ sizeLine; decide, fun L nL => ?_⟩
    have sL := same_new (o := .lst [.ref f0]) nL
    have hL1 : (upd H L (.lst [.ref f0])) L = some (.lst [.ref f0]) := upd_same
    generalize upd H L (.lst [.ref f0]) = H1 at sL hL1
    have ppos : 0 < ps.length := (List.getElem?_eq_some_iff.mp cy.hd).1
    have et1 : ps.take 1 = [s0] := by
      have := cy.hd
      cases hps : ps with
      | nil => rw [hps] at this; cases this
      | cons a as =>
        rw [hps] at this
        cases this
        rfl
    refine ⟨fun m σ' H' => ∃ (k : Nat) (vs : List V), σ' = [some (.ref f0), some (.ref D), some (.ref L)] ∧ H' L = some (.lst vs) ∧ Paired (PrV H') vs (ps.take k) ∧ 1 ≤ k ∧ k ≤ ps.length ∧ m = ps.length - k ∧ Same H H', ⟨ps.length - 1, 1, [.ref f0], rfl, hL1, by rw [et1]; exact .cons ⟨f0, rfl, sL _ _ hf⟩ .nil, Nat.le_refl _, ppos, rfl, sL⟩, ?_⟩
    rintro m σ' H2 ⟨k, vs, rfl, hL, hv, k1, kl, rfl, s2⟩
    have lv := Paired.length hv
    rw [List.length_take] at lv
    obtain ⟨x, ex⟩ : ∃ x, ps[k - 1]? = some x := ⟨_, List.getElem?_eq_getElem (by omega)⟩
    have ext : (ps.take k)[k - 1]? = some x := by rw [List.getElem?_take_of_lt (by omega)]; exact ex
    obtain ⟨u, eu, c, rfl, hc⟩ := Paired.at' hv ext
    have lvk : vs.length = k := by omega
    have atl : atI vs (-1) = some (.ref c) := atI_last (by rw [lvk]; exact eu)
    have hD2 := s2 _ _ hD
    have hb2 := bh_tk (Same.tk s2) hb
    have get : ∀ y : Int × Int, (x, y) ∈ bs → ∃ b, DGet H2 D (.ref c) (some (.ref b)) ∧ H2 b = some (.tup [.int y.1, .int y.2]) := fun y hy => by
      obtain ⟨b, h1, h2⟩ := bh_get (x := x.1) (y := x.2) (u := y.1) (v := y.2) hb2 nd hy
      have g := DGet.t (k := [Sum.inl x.1, Sum.inl x.2]) hD2 hc
      rw [h1] at g
      exact ⟨b, g, h2⟩
    by_cases hk : k < ps.length
    · obtain ⟨y, ey⟩ : ∃ y, ps[k]? = some y := ⟨_, List.getElem?_eq_getElem hk⟩
      obtain ⟨b, g, hb'⟩ := get y (cy.st (k - 1) x y ex (by rw [show k - 1 + 1 = k by omega]; exact ey))
      have ny := cy.no k y (by omega) ey
      refine ⟨.ref D, rfl, .ref L, rfl, 1, rfl, L, vs, -1, .ref c, rfl, rfl, SqL.of hL, atl, D, .ref b, rfl, g, .ref f0, rfl, _, _, IntsV.dp (xs := [y.1, y.2]) ⟨b, rfl, hb'⟩, IntsV.dp (xs := [s0.1, s0.2]) ⟨f0, rfl, s2 _ _ hf⟩, shaped_intsD _, shaped_intsD _, true, ?_, ?_⟩
      · rw [eqv_twoF]
        congr 1
        rw [Bool.not_eq_true', Bool.and_eq_false_iff, decide_eq_false_iff_not, decide_eq_false_iff_not]
        by_cases z : s0.1 = y.1
        · exact .inr fun z2 => ny (Prod.ext z.symm z2.symm)
        · exact .inl z
      · refine ⟨_, fun _ _ h => h, ?_⟩
        have tk := tk_lst (ys := vs ++ [.ref b]) hL
        refine ⟨.ref L, rfl, .inl ⟨rfl, _, SqL.of hL⟩, .ref D, rfl, .ref L, rfl, 1, rfl, L, vs, -1, .ref c, rfl, rfl, SqL.of hL, atl, D, .ref b, rfl, g, L, vs, _, rfl, rfl, hL, Nat.lt_of_succ_le (Evl.sz_of (by omega)), ?_⟩
        refine ⟨ps.length - (k + 1), by omega, k + 1, vs ++ [.ref b], rfl, upd_same, ?_, by omega, hk, rfl, Same.mut s2 nL⟩
        rw [List.take_add_one, ey]
        exact Paired.snoc (pr_tk tk hv) ⟨b, rfl, tk _ _ hb'⟩
    · have ek : k = ps.length := by omega
      obtain ⟨b, g, hb'⟩ := get s0 (cy.cl x (by rw [← ek]; exact ex))
      refine ⟨.ref D, rfl, .ref L, rfl, 1, rfl, L, vs, -1, .ref c, rfl, rfl, SqL.of hL, atl, D, .ref b, rfl, g, .ref f0, rfl, _, _, IntsV.dp (xs := [s0.1, s0.2]) ⟨b, rfl, hb'⟩, IntsV.dp (xs := [s0.1, s0.2]) ⟨f0, rfl, s2 _ _ hf⟩, shaped_intsD _, shaped_intsD _, false, ?_, ?_⟩
      · rw [eqv_twoF, decide_eq_true rfl, decide_eq_true rfl]
        rfl
      · rw [ek, List.take_length] at hv
        refine ⟨.ref L, rfl, L, vs, rfl, .inl ⟨SqL.of hL, fun r nr => ?_⟩⟩
        have sr := same_new (o := .tup vs) nr
        exact q r vs _ (s2.trans sr) upd_same (pr_tk (Same.tk sr) hv)
set_option maxHeartbeats 2000000 in
theorem ok_l_behind {f : Addr} {fd : FuncData} (F : Fun K "_law_behind" "_law_behind" s_l_behind f fd) (M : Free mg) : FnOk P w K mg base CX0 1 f fd ["_law_web_here", "_law_orders", "_law_step"] spBehindL := by
  refine F.ok sc_l_behind (fun vs H Q E h => ?_) (fun cdv A outer s H vs Q E hr h => ?_)
  · obtain ⟨wv, n, ts, o, sa, us, rs, es, k, p, row, i0, rfl, _⟩ := h
    rfl
  · obtain ⟨wv, n, ts, o, sa, us, rs, es, k, p, row, i0, rfl, hW, ho, hp, od, tw, le, hk, er, ei, hst, q⟩ := h
    refine ⟨_, (pss_cons (ps_asg (pe_ix ix_tup (pe_ix ix_tup (pv 0) pe_int (fun _ _ => rfl)) (pe_ix ix_tup (pv 2) pe_int (fun _ _ => rfl)) (fun _ _ => rfl)) (pg_tup rfl (pgs_cons (pg_name (i := 3) sc_l_behind.nd rfl (.inl rfl)) (pgs_cons (pg_name (i := 4) sc_l_behind.nd rfl (.inl rfl)) (pgs_cons (pg_name (i := 5) sc_l_behind.nd rfl (.inl rfl)) pgs_nil)))))
      (pss_cons (ps_set (i := 6) sc_l_behind.nd rfl (.inl rfl) (pe_op op_sub (pe_op op_add (pv 3) (pv 4)) (pe_ix ix_tup (pv 2) pe_int (fun _ _ => rfl))))
      (pss_cons (ps_set (i := 7) sc_l_behind.nd rfl (.inl rfl) (pe_ix ix_tup (pv 1) (pv 6) (fun _ _ => rfl)))
      (pss_cons (ps_for PassesOwn.never rfl (pi_range1 (by rfl) M.range (pa_cons (pe_callB call_len_seq (by rfl) M.len PySem.boot_len (pa_cons (pv 7) pa_nil)) pa_nil)) (pg_name (i := 8) sc_l_behind.nd rfl (.inl rfl))
        (pss_one (ps_if (pt_cmpR op_eq (pe_ix ix_tup (pv 7) (pe_op op_sub (pv 8) pe_int) (fun _ _ => rfl)) (pe_ix ix_tup (pv 2) pe_int (fun _ _ => rfl)) (nomark _))
          (pss_one (ps_ret (pe_tup (pa_cons (pe_ix ix_tup (pv 7) (pv 8) (fun _ _ => rfl)) (pa_cons (pv 6) pa_nil)))))
          pss_nil)))
      (pss_one (ps_ret pe_non)))))), ?_⟩
    obtain ⟨wa, wb, ws, rfl, hwa, hwb, hpw⟩ := id hW
    obtain ⟨e, ee⟩ : ∃ e, es[k]? = some e := ⟨_, List.getElem?_eq_getElem hk⟩
    obtain ⟨t, et⟩ : ∃ t, ts[k]? = some t := ⟨_, List.getElem?_eq_getElem (by rw [tw.1]; exact hk)⟩
    have jt := tw.2 k t e et ee
    obtain ⟨u, eu, tc, rfl, htc⟩ := Paired.at' hpw et
    obtain ⟨u2, eu2, ra, rfl, hra⟩ := Paired.at' hp er
    have oe : othE es k p = e.1 + e.2 - (p : Int) := by
      unfold othE
      rw [List.getD_eq_getElem?_getD, Int.toNat_natCast, ee]
      rfl
    have ep : t.one + t.other - othE es k p = (p : Nat) := by rw [oe]; omega
    have hil := (List.getElem?_eq_some_iff.mp ei).1
    have hie := (List.getElem?_eq_some_iff.mp ei).2
    have ndr := od.nd row (List.mem_of_getElem? er)
    have lrow := od.row_len (List.mem_of_getElem? er)
    refine ⟨.ref wa, rfl, wa, _, 1, .ref wb, rfl, rfl, SqT.of hwa, rfl, .ref sa, rfl, sa, _, 0, .int (k : Nat), rfl, rfl, SqT.of hst, rfl, wb, ws, (k : Nat), .ref tc, rfl, rfl, SqT.of hwb, atI_nat eu, tc, _, rfl, SqT.of htc, rfl, _, _, rfl, _, _, rfl, _, _, rfl, rfl, ?_⟩
    refine ⟨.int t.one, rfl, .int t.other, rfl, _, _, rfl, rfl, .ref sa, rfl, sa, _, 1, .int (othE es k p), rfl, rfl, SqT.of hst, rfl, _, _, rfl, rfl, ?_⟩
    refine ⟨.ref o, rfl, .int (t.one + t.other - othE es k p), rfl, o, us, t.one + t.other - othE es k p, .ref ra, rfl, rfl, SqT.of ho, by rw [ep]; exact atI_nat eu2, ?_⟩
    refine ⟨.ref ra, rfl, ra, _, rfl, .inr (SqT.of hra), _, rfl, by omega, by rw [List.length_map]; omega, ?_⟩
    rw [List.length_map, Int.toNat_natCast]
    refine for_range (lo := 0) (n := row.length) (fun j σ' H' => ∃ y8 : Option V, σ' = [some (.ref wa), some (.ref o), some (.ref sa), some (.int t.one), some (.int t.other), some (.str (kindS t.foe)), some (.int (t.one + t.other - othE es k p)), some (.ref ra), y8] ∧ j ≤ (i0 + 1) % row.length ∧ Same H H') ⟨none, rfl, Nat.zero_le _, Same.refl _⟩ ?_ ?_
    · rintro j σ' H2 hj ⟨y8, rfl, jl, s2⟩
      obtain ⟨j', hj', ej'⟩ : ∃ j', j' < row.length ∧ atI (row.map V.int) ((0 : Int) + (j : Nat) - 1) = some (.int (row.getD j' 0)) ∧ (j = (i0 + 1) % row.length ↔ j' = i0) := by
        cases j with
        | zero =>
          refine ⟨row.length - 1, by omega, atI_last (xs := row.map V.int) (by rw [List.length_map, List.getElem?_map, List.getElem?_eq_getElem (show row.length - 1 < row.length by omega), List.getD_eq_getElem?_getD, List.getElem?_eq_getElem (show row.length - 1 < row.length by omega)]; rfl), ?_⟩
          constructor
          · intro z
            by_cases h : i0 + 1 < row.length
            · rw [Nat.mod_eq_of_lt h] at z; omega
            · omega
          · intro z
            rw [show i0 + 1 = row.length by omega, Nat.mod_self]
        | succ j =>
          refine ⟨j, by omega, ?_, ?_⟩
          · rw [show (0 : Int) + ((j + 1 : Nat) : Int) - 1 = (j : Nat) by omega]
            exact atI_nat (by rw [List.getElem?_map, List.getElem?_eq_getElem (show j < row.length by omega), List.getD_eq_getElem?_getD, List.getElem?_eq_getElem (show j < row.length by omega)]; rfl)
          · constructor
            · intro z
              by_cases h : i0 + 1 < row.length
              · rw [Nat.mod_eq_of_lt h] at z; omega
              · rw [show i0 + 1 = row.length by omega, Nat.mod_self] at z; omega
            · intro z
              rw [← z, Nat.mod_eq_of_lt hj]
      refine ⟨.ref ra, rfl, .int (0 + (j : Nat)), rfl, _, _, rfl, rfl, ra, _, (0 : Int) + (j : Nat) - 1, .int (row.getD j' 0), rfl, rfl, SqT.of (s2 _ _ hra), ej'.1, .ref sa, rfl, sa, _, 0, .int (k : Nat), rfl, rfl, SqT.of (s2 _ _ hst), rfl, rfl, _, rfl, ?_⟩
      rw [dec_intF]
      have gj : row.getD j' 0 = row[j'] := by rw [List.getD_eq_getElem?_getD, List.getElem?_eq_getElem hj']; rfl
      by_cases c : j' = i0
      · have hjm := ej'.2.mpr c
        rw [decide_eq_true (show row.getD j' 0 = ((k : Nat) : Int) by rw [gj, ← hie]; congr 1)]
        have gm : row.getD ((i0 + 1) % row.length) 0 = row[j] := by rw [← hjm, List.getD_eq_getElem?_getD, List.getElem?_eq_getElem hj]; rfl
        refine ⟨.ref ra, rfl, .int (0 + (j : Nat)), rfl, ra, _, (0 : Int) + (j : Nat), .int row[j], rfl, rfl, SqT.of (s2 _ _ hra), by rw [Int.zero_add]; exact atI_nat (by rw [List.getElem?_map, List.getElem?_eq_getElem hj]; rfl), .int (t.one + t.other - othE es k p), rfl, by show 2 ≤ sizeLine; decide, fun r nr => ?_⟩
        refine q r _ (s2.trans (same_new nr)) ?_
        rw [gm, ep]
        exact upd_same
      · rw [decide_eq_false (show ¬ row.getD j' 0 = ((k : Nat) : Int) from fun z => by
          rw [gj, ← hie] at z
          rcases Nat.lt_or_gt_of_ne c with lt | lt
          · exact List.pairwise_iff_getElem.mp ndr j' i0 hj' hil lt z
          · exact List.pairwise_iff_getElem.mp ndr i0 j' hil hj' lt z.symm)]
        exact ⟨_, rfl, by have := fun z => c (ej'.2.mp z); omega, s2⟩
    · rintro σ' H2 ⟨y8, rfl, jl, s2⟩
      have := Nat.mod_lt (i0 + 1) (show 0 < row.length by omega)
      omega
end
/-! ### flats: ways round (mathematics) -/
theorem sub_lenG {α : Type} [DecidableEq α] : ∀ {xs ys : List α}, xs.Nodup → (∀ x ∈ xs, x ∈ ys) → xs.length ≤ ys.length
  | [], _, _, _ => Nat.zero_le _
  | x :: xs, ys, nd, h => by
    have nd' := List.nodup_cons.mp nd
    have hx := h x List.mem_cons_self
    have := sub_lenG (ys := ys.erase x) nd'.2 fun y hy => (List.mem_erase_of_ne (show y ≠ x from fun z => nd'.1 (z ▸ hy))).mpr (h y (List.mem_cons_of_mem _ hy))
    rw [List.length_erase_of_mem hx] at this
    have := List.length_pos_of_mem hx
    rw [List.length_cons]
    omega
def itF (f : Int × Int → Int × Int) : Nat → Int × Int → Int × Int
  | 0, x => x
  | n + 1, x => f (itF f n x)
def nxB (bs : List St2) (x : Int × Int) : Int × Int := ((bs.find? fun b => decide (b.1 = x)).map (·.2)).getD x
theorem nxB_mem {bs : List St2} {x : Int × Int} (h : x ∈ bs.map (·.1)) : (x, nxB bs x) ∈ bs := by
  unfold nxB
  cases e : bs.find? fun b => decide (b.1 = x) with
  | some b =>
    have h1 := List.mem_of_find?_eq_some e
    have h2 : b.1 = x := of_decide_eq_true (List.find?_some (p := fun b : St2 => decide (b.1 = x)) e)
    show (x, b.2) ∈ bs
    rw [← h2]
    exact h1
  | none =>
    obtain ⟨b, hb, rfl⟩ := List.mem_map.mp h
    have := List.find?_eq_none.mp e b hb
    simp at this
structure Rnd (bs : List St2) : Prop where
  nk : (bs.map (·.1)).Nodup
  nv : (bs.map (·.2)).Nodup
  cl : ∀ b ∈ bs, b.2 ∈ bs.map (·.1)
theorem nd_inj {α β : Type} {f : α → β} : ∀ {xs : List α}, (xs.map f).Nodup → ∀ {a b : α}, a ∈ xs → b ∈ xs → f a = f b → a = b
  | x :: xs, nd, a, b, ha, hb, e => by
    rw [List.map_cons] at nd
    have nd' := List.nodup_cons.mp nd
    rcases List.mem_cons.mp ha with e1 | ha'
    · rcases List.mem_cons.mp hb with e2 | hb'
      · rw [e1, e2]
      · exact (nd'.1 (List.mem_map.mpr ⟨b, hb', by rw [← e, e1]⟩)).elim
    · rcases List.mem_cons.mp hb with e2 | hb'
      · exact (nd'.1 (List.mem_map.mpr ⟨a, ha', by rw [e, e2]⟩)).elim
      · exact nd_inj nd'.2 ha' hb' e
theorem Rnd.inj {bs : List St2} (r : Rnd bs) {x y : Int × Int} (hx : x ∈ bs.map (·.1)) (hy : y ∈ bs.map (·.1)) (e : nxB bs x = nxB bs y) : x = y := by
  have := nd_inj r.nv (nxB_mem hx) (nxB_mem hy) e
  exact (Prod.mk.injEq .. ▸ this).1
theorem Rnd.key {bs : List St2} (r : Rnd bs) {x : Int × Int} (hx : x ∈ bs.map (·.1)) : nxB bs x ∈ bs.map (·.1) := r.cl _ (nxB_mem hx)
theorem Rnd.it {bs : List St2} (r : Rnd bs) {x : Int × Int} (hx : x ∈ bs.map (·.1)) : ∀ n, itF (nxB bs) n x ∈ bs.map (·.1)
  | 0 => hx
  | n + 1 => r.key (r.it hx n)
theorem Rnd.back {bs : List St2} (r : Rnd bs) {x : Int × Int} (hx : x ∈ bs.map (·.1)) (d : Nat) : ∀ i, itF (nxB bs) (d + i) x = itF (nxB bs) i x → itF (nxB bs) d x = x
  | 0, e => e
  | i + 1, e => r.back hx d i (r.inj (r.it hx _) (r.it hx _) e)
theorem Rnd.ret {bs : List St2} (r : Rnd bs) {s : Int × Int} (hs : s ∈ bs.map (·.1)) : ∃ c, 1 ≤ c ∧ c ≤ bs.length ∧ itF (nxB bs) c s = s := by
  refine Classical.byContradiction fun no => ?_
  have nd : ((List.range (bs.length + 1)).map fun n => itF (nxB bs) n s).Nodup := by
    rw [List.nodup_iff_pairwise_ne, List.pairwise_map]
    refine (List.pairwise_lt_range).imp_of_mem fun {a b} ha hb lt e => no ⟨b - a, by omega, by have := List.mem_range.mp hb; omega, r.back hs (b - a) a ?_⟩
    rw [show b - a + a = b by omega]
    exact e.symm
  have := sub_lenG nd fun y hy => by
    obtain ⟨n, _, rfl⟩ := List.mem_map.mp hy
    exact r.it hs n
  rw [List.length_map, List.length_range, List.length_map] at this
  omega
theorem least_of {p : Nat → Prop} : ∀ (m c : Nat), c ≤ m → p c → ∃ k, k ≤ c ∧ p k ∧ ∀ j, j < k → ¬ p j
  | m, c, hm, h => by
    by_cases e : ∃ j, j < c ∧ p j
    · obtain ⟨j, jl, hj⟩ := e
      cases m with
      | zero => omega
      | succ m =>
        obtain ⟨k, k1, k2, k3⟩ := least_of m j (by omega) hj
        exact ⟨k, by omega, k2, k3⟩
    · exact ⟨c, Nat.le_refl _, h, fun j jl hj => e ⟨j, jl, hj⟩⟩
theorem Rnd.cyc {bs : List St2} (r : Rnd bs) {s : Int × Int} (hs : s ∈ bs.map (·.1)) : ∃ c, 1 ≤ c ∧ c ≤ bs.length ∧ itF (nxB bs) c s = s ∧ (∀ j, 0 < j → j < c → itF (nxB bs) j s ≠ s) ∧ Cyc bs s ((List.range c).map fun n => itF (nxB bs) n s) := by
  obtain ⟨c0, c1, c2, c3⟩ := r.ret hs
  obtain ⟨c, k1, ⟨k2, k3⟩, k4⟩ := least_of (p := fun c => 1 ≤ c ∧ itF (nxB bs) c s = s) c0 c0 (Nat.le_refl _) ⟨c1, c3⟩
  have at' : ∀ (i : Nat) (x : Int × Int), ((List.range c).map fun n => itF (nxB bs) n s)[i]? = some x → i < c ∧ x = itF (nxB bs) i s := fun i x e => by
    have hl := (List.getElem?_eq_some_iff.mp e).1
    rw [List.length_map, List.length_range] at hl
    rw [List.getElem?_map, List.getElem?_range hl] at e
    exact ⟨hl, (Option.some.inj e).symm⟩
  refine ⟨c, k2, by omega, k3, fun j j0 jc z => k4 j jc ⟨by omega, z⟩, ?_, fun i x y ex ey => ?_, fun x ex => ?_, fun i x i0 ex z => ?_⟩
  · rw [List.getElem?_map, List.getElem?_range (by omega)]
    rfl
  · obtain ⟨_, rfl⟩ := at' i x ex
    obtain ⟨_, rfl⟩ := at' _ y ey
    exact nxB_mem (r.it hs i)
  · obtain ⟨h, rfl⟩ := at' _ x ex
    rw [List.length_map, List.length_range] at *
    have := nxB_mem (r.it hs (c - 1))
    have e : nxB bs (itF (nxB bs) (c - 1) s) = s := by
      show itF (nxB bs) (c - 1 + 1) s = s
      rw [show c - 1 + 1 = c by omega, k3]
    rw [e] at this
    exact this
  · obtain ⟨h, rfl⟩ := at' _ x ex
    exact k4 i h ⟨by omega, z⟩
/-- the steps of orders go round -/
theorem stepsB_nk {rs : List (List Int)} {es : List (Int × Int)} (od : Ord rs es) : ∀ m, m ≤ rs.length → ((stepsB es rs m).map (·.1)).Nodup
  | 0, _ => List.nodup_nil
  | m + 1, h => by
    have er := List.getElem?_eq_getElem (show m < rs.length by omega)
    have eg : rs.getD m [] = rs[m] := by rw [List.getD_eq_getElem?_getD, er]; rfl
    have nd := od.nd _ (List.mem_of_getElem? er)
    have go : ∀ j, j ≤ rs[m].length → ((stepsB es rs m ++ stepR es m rs[m] j).map (·.1)).Nodup := fun j => by
      induction j with
      | zero =>
        intro _
        rw [show stepR es m rs[m] 0 = [] from rfl, List.append_nil]
        exact stepsB_nk od m (by omega)
      | succ j ih =>
        intro hj
        rw [stepR_succ, ← List.append_assoc, List.map_append]
        refine List.nodup_append.mpr ⟨ih (by omega), by simp, fun a ha b hb e => ?_⟩
        rw [List.map_cons, List.map_nil, List.mem_singleton] at hb
        subst hb
        obtain ⟨c, hc, rfl⟩ := List.mem_map.mp ha
        exact step_new er nd (by omega) c hc e
    rw [stepsB_succ, eg]
    exact go _ (Nat.le_refl _)
/-! ### flats: the steps of orders go round (mathematics) -/
theorem stepR_memI {es : List (Int × Int)} {p : Nat} {row : List Int} {m : Nat} {b : St2} : b ∈ stepR es p row m ↔ ∃ i, i < m ∧ b = ((row.getD i 0, othE es (row.getD i 0) p), (row.getD ((i + 1) % row.length) 0, (p : Int))) := by
  unfold stepR
  rw [List.mem_map]
  exact ⟨fun ⟨i, hi, e⟩ => ⟨i, List.mem_range.mp hi, e.symm⟩, fun ⟨i, hi, e⟩ => ⟨i, List.mem_range.mpr hi, e.symm⟩⟩
theorem stepsB_mem {es : List (Int × Int)} {rs : List (List Int)} {m : Nat} {b : St2} : b ∈ stepsB es rs m ↔ ∃ p, p < m ∧ b ∈ stepR es p (rs.getD p []) (rs.getD p []).length := by
  unfold stepsB
  rw [List.mem_flatMap]
  exact ⟨fun ⟨p, hp, e⟩ => ⟨p, List.mem_range.mp hp, e⟩, fun ⟨p, hp, e⟩ => ⟨p, List.mem_range.mpr hp, e⟩⟩
theorem getD_inj {row : List Int} (nd : row.Nodup) {i j : Nat} (hi : i < row.length) (hj : j < row.length) (e : row.getD i 0 = row.getD j 0) : i = j := by
  rw [List.getD_eq_getElem?_getD, List.getD_eq_getElem?_getD, List.getElem?_eq_getElem hi, List.getElem?_eq_getElem hj] at e
  refine Classical.byContradiction fun ne => ?_
  rcases Nat.lt_or_gt_of_ne ne with lt | lt
  · exact List.pairwise_iff_getElem.mp nd i j hi hj lt e
  · exact List.pairwise_iff_getElem.mp nd j i hj hi lt e.symm
theorem mod_inj {n i j : Nat} (hi : i < n) (hj : j < n) (e : (i + 1) % n = (j + 1) % n) : i = j := by
  by_cases h1 : i + 1 < n <;> by_cases h2 : j + 1 < n
  · rw [Nat.mod_eq_of_lt h1, Nat.mod_eq_of_lt h2] at e; omega
  · rw [Nat.mod_eq_of_lt h1, show j + 1 = n by omega, Nat.mod_self] at e; omega
  · rw [Nat.mod_eq_of_lt h2, show i + 1 = n by omega, Nat.mod_self] at e; omega
  · omega
theorem stepsB_nv {rs : List (List Int)} {es : List (Int × Int)} (od : Ord rs es) : ∀ m, m ≤ rs.length → ((stepsB es rs m).map (·.2)).Nodup
  | 0, _ => List.nodup_nil
  | m + 1, h => by
    have er := List.getElem?_eq_getElem (show m < rs.length by omega)
    have eg : rs.getD m [] = rs[m] := by rw [List.getD_eq_getElem?_getD, er]; rfl
    have nd := od.nd _ (List.mem_of_getElem? er)
    have go : ∀ j, j ≤ rs[m].length → ((stepsB es rs m ++ stepR es m rs[m] j).map (·.2)).Nodup := fun j => by
      induction j with
      | zero =>
        intro _
        rw [show stepR es m rs[m] 0 = [] from rfl, List.append_nil]
        exact stepsB_nv od m (by omega)
      | succ j ih =>
        intro hj
        rw [stepR_succ, ← List.append_assoc, List.map_append]
        refine List.nodup_append.mpr ⟨ih (by omega), by simp, fun a ha b hb e => ?_⟩
        rw [List.map_cons, List.map_nil, List.mem_singleton] at hb
        subst hb
        obtain ⟨c, hc, rfl⟩ := List.mem_map.mp ha
        have e1 := (Prod.mk.injEq .. ▸ e).1
        have e2 := (Prod.mk.injEq .. ▸ e).2
        rcases List.mem_append.mp hc with z | z
        · obtain ⟨p, hp, z⟩ := stepsB_mem.mp z
          obtain ⟨i, _, rfl⟩ := stepR_memI.mp z
          have : (p : Int) = (m : Int) := e2
          omega
        · obtain ⟨i, hi, rfl⟩ := stepR_memI.mp z
          have := getD_inj nd (Nat.mod_lt _ (by omega)) (Nat.mod_lt _ (by omega)) e1
          have := mod_inj (by omega) (by omega) this
          omega
    rw [stepsB_succ, eg]
    exact go _ (Nat.le_refl _)
/-- which steps there are: each tie towards each of its ends -/
theorem stepsB_key {rs : List (List Int)} {es : List (Int × Int)} (od : Ord rs es) {x : Int × Int} : x ∈ (stepsB es rs rs.length).map (·.1) ↔ ∃ (k : Nat) (e : Int × Int), es[k]? = some e ∧ x.1 = (k : Int) ∧ (x.2 = e.1 ∨ x.2 = e.2) := by
  have oth : ∀ {k : Nat} {e : Int × Int} {p : Int}, es[k]? = some e → othE es (k : Int) p = e.1 + e.2 - p := fun {k e p} ee => by
    unfold othE
    rw [List.getD_eq_getElem?_getD, Int.toNat_natCast, ee]
    rfl
  constructor
  · intro h
    obtain ⟨b, hb, rfl⟩ := List.mem_map.mp h
    obtain ⟨p, hp, z⟩ := stepsB_mem.mp hb
    have er := List.getElem?_eq_getElem hp
    have eg : rs.getD p [] = rs[p] := by rw [List.getD_eq_getElem?_getD, er]; rfl
    rw [eg] at z
    obtain ⟨i, hi, rfl⟩ := stepR_memI.mp z
    have hm : rs[p].getD i 0 ∈ rs[p] := by
      rw [List.getD_eq_getElem?_getD, List.getElem?_eq_getElem hi]
      exact List.getElem_mem _
    obtain ⟨k, e, ek, ee, pe⟩ := (od.mem p _ er _).mp hm
    refine ⟨k, e, ee, ek, ?_⟩
    show othE es (rs[p].getD i 0) p = e.1 ∨ othE es (rs[p].getD i 0) p = e.2
    rw [ek, oth ee]
    omega
  · rintro ⟨k, e, ee, e1, e2⟩
    have ends := od.ends e (List.mem_of_getElem? ee)
    obtain ⟨p, hp, ep⟩ : ∃ p : Nat, p < rs.length ∧ (p : Int) = e.1 + e.2 - x.2 := ⟨(e.1 + e.2 - x.2).toNat, by omega, by omega⟩
    have er := List.getElem?_eq_getElem hp
    have hm : ((k : Nat) : Int) ∈ rs[p] := (od.mem p _ er _).mpr ⟨k, e, rfl, ee, by omega⟩
    obtain ⟨i, hi, ei⟩ := List.getElem_of_mem hm
    have eg : rs.getD p [] = rs[p] := by rw [List.getD_eq_getElem?_getD, er]; rfl
    refine List.mem_map.mpr ⟨_, stepsB_mem.mpr ⟨p, hp, stepR_memI.mpr ⟨i, by rw [eg]; exact hi, rfl⟩⟩, ?_⟩
    have gi : (rs.getD p []).getD i 0 = ((k : Nat) : Int) := by rw [eg, List.getD_eq_getElem?_getD, List.getElem?_eq_getElem hi, ei]; rfl
    show ((rs.getD p []).getD i 0, othE es ((rs.getD p []).getD i 0) p) = x
    rw [gi, oth ee, ep]
    refine Prod.ext e1.symm ?_
    show e.1 + e.2 - (e.1 + e.2 - x.2) = x.2
    omega
theorem stepsB_rnd {rs : List (List Int)} {es : List (Int × Int)} (od : Ord rs es) : Rnd (stepsB es rs rs.length) := by
  refine ⟨stepsB_nk od _ (Nat.le_refl _), stepsB_nv od _ (Nat.le_refl _), fun b hb => ?_⟩
  obtain ⟨p, hp, z⟩ := stepsB_mem.mp hb
  have er := List.getElem?_eq_getElem hp
  have eg : rs.getD p [] = rs[p] := by rw [List.getD_eq_getElem?_getD, er]; rfl
  rw [eg] at z
  obtain ⟨i, hi, rfl⟩ := stepR_memI.mp z
  have hm : rs[p].getD ((i + 1) % rs[p].length) 0 ∈ rs[p] := by
    rw [List.getD_eq_getElem?_getD, List.getElem?_eq_getElem (Nat.mod_lt _ (by omega))]
    exact List.getElem_mem _
  obtain ⟨k, e, ek, ee, pe⟩ := (od.mem p _ er _).mp hm
  exact (stepsB_key od).mpr ⟨k, e, ee, ek, by show (p : Int) = e.1 ∨ (p : Int) = e.2; omega⟩
/-! ### faces as ways round (mathematics) -/
abbrev Dt := Int × Int
def Wk (R : Dt → Dt → Prop) : Dt → List Dt → Dt → Prop
  | a, [], b => R a b
  | a, c :: cs, b => R a c ∧ Wk R c cs b
theorem Wk.app {R : Dt → Dt → Prop} {y b : Dt} {ys : List Dt} : ∀ {xs : List Dt} {a : Dt}, Wk R a (xs ++ y :: ys) b ↔ Wk R a xs y ∧ Wk R y ys b
  | [], _ => Iff.rfl
  | c :: cs, a => ⟨fun h => ⟨⟨h.1, (Wk.app.mp h.2).1⟩, (Wk.app.mp h.2).2⟩, fun h => ⟨h.1.1, Wk.app.mpr ⟨h.1.2, h.2⟩⟩⟩
theorem Wk.imp {R R' : Dt → Dt → Prop} {b b' : Dt} (e : ∀ x, R x b → R' x b') : ∀ {xs : List Dt} {a : Dt}, Wk R a xs b → (∀ x y, y ∈ xs → R x y → R' x y) → Wk R' a xs b'
  | [], a, h, _ => e a h
  | c :: cs, a, h, k => ⟨k a c List.mem_cons_self h.1, Wk.imp e h.2 fun x y hy => k x y (List.mem_cons_of_mem _ hy)⟩
def CyR (R : Dt → Dt → Prop) : List Dt → Prop
  | [] => False
  | x :: xs => Wk R x xs x
theorem CyR.turn {R : Dt → Dt → Prop} {f : List Dt} {y : Dt} (h : CyR R f) (hy : y ∈ f) : ∃ ys, CyR R (y :: ys) ∧ (y :: ys).Perm f := by
  obtain ⟨as, bs, rfl⟩ := List.append_of_mem hy
  cases as with
  | nil => exact ⟨bs, h, List.Perm.refl _⟩
  | cons x as =>
    have h' := Wk.app.mp (show Wk R x (as ++ y :: bs) x from h)
    exact ⟨bs ++ x :: as, Wk.app.mpr ⟨h'.2, h'.1⟩, List.perm_append_comm (l₁ := y :: bs) (l₂ := x :: as)⟩
theorem Wk.in' {R : Dt → Dt → Prop} {g : List Dt} (fn : ∀ x y y', R x y → R x y' → y = y') (cl : ∀ x ∈ g, ∃ y ∈ g, R x y) {b : Dt} : ∀ {xs : List Dt} {a : Dt}, Wk R a xs b → a ∈ g → ∀ z ∈ xs, z ∈ g
  | c :: cs, a, h, ha, z, hz => by
    obtain ⟨y, hy, r⟩ := cl a ha
    have : c ∈ g := fn _ _ _ r h.1 ▸ hy
    rcases List.mem_cons.mp hz with e | hz'
    · rw [e]; exact this
    · exact Wk.in' fn cl h.2 this z hz'
theorem CyR.next {R : Dt → Dt → Prop} {f : List Dt} (h : CyR R f) : ∀ x ∈ f, ∃ y ∈ f, R x y := fun x hx => by
  obtain ⟨ys, c, p⟩ := h.turn hx
  cases ys with
  | nil => exact ⟨x, hx, c⟩
  | cons y ys => exact ⟨y, p.mem_iff.mp (List.mem_cons_of_mem _ List.mem_cons_self), c.1⟩
theorem CyR.sub {R : Dt → Dt → Prop} {f g : List Dt} (fn : ∀ x y y', R x y → R x y' → y = y') (hf : CyR R f) (hg : CyR R g) {x : Dt} (xf : x ∈ f) (xg : x ∈ g) : ∀ z ∈ f, z ∈ g := fun z hz => by
  obtain ⟨ys, c, p⟩ := hf.turn xf
  rcases List.mem_cons.mp (p.mem_iff.mpr hz) with e | hz'
  · rw [e]; exact xg
  · exact Wk.in' fn hg.next c xg z hz'
structure Dec (R : Dt → Dt → Prop) (D : Dt → Prop) (fs : List (List Dt)) : Prop where
  cy : ∀ f ∈ fs, CyR R f
  nd : ∀ f ∈ fs, f.Nodup
  dj : fs.Pairwise fun f g => ∀ x ∈ f, x ∉ g
  all : ∀ x, D x ↔ ∃ f ∈ fs, x ∈ f
theorem Dec.perm {R : Dt → Dt → Prop} {D : Dt → Prop} {fs gs : List (List Dt)} (h : Dec R D fs) (p : fs.Perm gs) : Dec R D gs :=
  ⟨fun f hf => h.cy f (p.mem_iff.mpr hf), fun f hf => h.nd f (p.mem_iff.mpr hf), p.pairwise h.dj (fun k x hx hy => k x hy hx), fun x => (h.all x).trans ⟨fun ⟨f, hf, k⟩ => ⟨f, p.mem_iff.mp hf, k⟩, fun ⟨f, hf, k⟩ => ⟨f, p.mem_iff.mpr hf, k⟩⟩⟩
theorem Dec.one {R : Dt → Dt → Prop} {D : Dt → Prop} : ∀ {fs : List (List Dt)}, Dec R D fs → ∀ {f g : List Dt}, f ∈ fs → g ∈ fs → ∀ {x : Dt}, x ∈ f → x ∈ g → f = g := fun {fs} h {f g} hf hg {x} xf xg => by
  have := h.dj
  clear h
  induction fs with
  | nil => cases hf
  | cons k ks ih =>
    have pc := List.pairwise_cons.mp this
    rcases List.mem_cons.mp hf with e1 | hf' <;> rcases List.mem_cons.mp hg with e2 | hg'
    · rw [e1, e2]
    · exact (pc.1 g hg' x (e1 ▸ xf) xg).elim
    · exact (pc.1 f hf' x (e2 ▸ xg) xf).elim
    · exact ih hf' hg' pc.2
theorem CyR.ne {R : Dt → Dt → Prop} {f : List Dt} (h : CyR R f) : ∃ x, x ∈ f := by
  cases f with
  | nil => exact h.elim
  | cons x xs => exact ⟨x, List.mem_cons_self⟩
theorem Dec.ndf {R : Dt → Dt → Prop} {D : Dt → Prop} {fs : List (List Dt)} (h : Dec R D fs) : fs.Nodup := by
  rw [List.nodup_iff_pairwise_ne]
  refine h.dj.imp_of_mem fun {f g} hf _ k e => ?_
  obtain ⟨x, hx⟩ := (h.cy f hf).ne
  exact k x hx (e ▸ hx)
theorem inj_len {α β : Type} [DecidableEq β] {T : α → β → Prop} {fs : List α} {gs : List β} (nd : fs.Nodup) (h : ∀ f ∈ fs, ∃ g ∈ gs, T f g) (inj : ∀ f ∈ fs, ∀ f' ∈ fs, ∀ g, T f g → T f' g → f = f') : fs.length ≤ gs.length := by
  classical
  let φ : α → Option β := fun f => if k : ∃ g ∈ gs, T f g then some k.choose else none
  have hφ : ∀ f ∈ fs, ∃ g ∈ gs, T f g ∧ φ f = some g := fun f hf => by
    have k := h f hf
    exact ⟨k.choose, k.choose_spec.1, k.choose_spec.2, dif_pos k⟩
  have ndm : (fs.map φ).Nodup := by
    rw [List.nodup_iff_pairwise_ne, List.pairwise_map]
    refine (List.nodup_iff_pairwise_ne.mp nd).imp_of_mem fun {f f'} hf hf' ne e => ne ?_
    obtain ⟨g, _, t, eg⟩ := hφ f hf
    obtain ⟨g', _, t', eg'⟩ := hφ f' hf'
    have : g = g' := Option.some.inj (eg.symm.trans (e.trans eg'))
    exact inj f hf f' hf' g t (this ▸ t')
  have := sub_lenG ndm (ys := gs.map some) fun y hy => by
    obtain ⟨f, hf, rfl⟩ := List.mem_map.mp hy
    obtain ⟨g, hg, _, eg⟩ := hφ f hf
    exact List.mem_map.mpr ⟨g, hg, eg.symm⟩
  rwa [List.length_map, List.length_map] at this
theorem Dec.le {R : Dt → Dt → Prop} {D : Dt → Prop} {fs gs : List (List Dt)} (fn : ∀ x y y', R x y → R x y' → y = y') (h : Dec R D fs) (k : Dec R D gs) (P : List Dt → Bool) (hP : ∀ f ∈ fs, ∀ g ∈ gs, (∃ x, x ∈ f ∧ x ∈ g) → P f = true → P g = true) : fs.countP P ≤ gs.countP P := by
  rw [List.countP_eq_length_filter, List.countP_eq_length_filter]
  refine inj_len (T := fun f g => g ∈ gs ∧ ∃ x, x ∈ f ∧ x ∈ g) (h.ndf.filter _) (fun f hf => ?_) fun f hf f' hf' g ⟨hg, x, xf, xg⟩ ⟨_, y, yf, yg⟩ => ?_
  · have hf' := List.mem_filter.mp hf
    obtain ⟨x, hx⟩ := (h.cy f hf'.1).ne
    obtain ⟨g, hg, xg⟩ := (k.all x).mp ((h.all x).mpr ⟨f, hf'.1, hx⟩)
    exact ⟨g, List.mem_filter.mpr ⟨hg, hP f hf'.1 g hg ⟨x, hx, xg⟩ hf'.2⟩, hg, x, hx, xg⟩
  · have cf := List.mem_filter.mp hf
    have cf' := List.mem_filter.mp hf'
    exact h.one cf.1 cf'.1 ((k.cy g hg).sub fn (h.cy f cf.1) xg xf y yg) yf
/-! ### faces as ways round: a tie more -/
theorem Dec.front {R : Dt → Dt → Prop} {D : Dt → Prop} {fs : List (List Dt)} (h : Dec R D fs) {y : Dt} (hy : D y) : ∃ (f : List Dt) (ys : List Dt) (rest : List (List Dt)), fs.Perm (f :: rest) ∧ f.Perm (y :: ys) ∧ Dec R D ((y :: ys) :: rest) := by
  obtain ⟨f, hf, yf⟩ := (h.all y).mp hy
  obtain ⟨ys, c, p⟩ := (h.cy f hf).turn yf
  obtain ⟨as, bs, rfl⟩ := List.append_of_mem hf
  have pm : (as ++ f :: bs).Perm (f :: (as ++ bs)) := List.perm_middle
  have h1 := h.perm pm
  refine ⟨f, ys, as ++ bs, pm, p.symm, ⟨fun g hg => ?_, fun g hg => ?_, ?_, fun x => ?_⟩⟩
  · rcases List.mem_cons.mp hg with e | hg'
    · rw [e]; exact c
    · exact h1.cy g (List.mem_cons_of_mem _ hg')
  · rcases List.mem_cons.mp hg with e | hg'
    · rw [e]; exact p.nodup_iff.mpr (h1.nd f List.mem_cons_self)
    · exact h1.nd g (List.mem_cons_of_mem _ hg')
  · have := List.pairwise_cons.mp h1.dj
    exact List.pairwise_cons.mpr ⟨fun g hg x hx => this.1 g hg x (p.mem_iff.mp hx), this.2⟩
  · refine (h1.all x).trans ⟨fun ⟨g, hg, k⟩ => ?_, fun ⟨g, hg, k⟩ => ?_⟩
    · rcases List.mem_cons.mp hg with e | hg'
      · exact ⟨_, List.mem_cons_self, p.mem_iff.mpr (e ▸ k)⟩
      · exact ⟨g, List.mem_cons_of_mem _ hg', k⟩
    · rcases List.mem_cons.mp hg with e | hg'
      · exact ⟨f, List.mem_cons_self, p.mem_iff.mp (e ▸ k)⟩
      · exact ⟨g, List.mem_cons_of_mem _ hg', k⟩
section
variable {R R' : Dt → Dt → Prop} {D D' : Dt → Prop} {f : List Dt} {rest : List (List Dt)} {dp dq m1 m2 : Dt}
theorem CyR.keep {g : List Dt} (h : CyR R g) (k : ∀ x y, y ∈ g → R x y → R' x y) : CyR R' g := by
  cases g with
  | nil => exact h
  | cons x xs => exact Wk.imp (fun a r => k a x List.mem_cons_self r) h fun a b hb r => k a b (List.mem_cons_of_mem _ hb) r
/-- a tie between two corners of one face: the face becomes two. -/
theorem Dec.split {as bs : List Dt} (h : Dec R D ((dp :: (as ++ dq :: bs)) :: rest)) (ndp : ¬ D m1) (ndq : ¬ D m2) (m12 : m1 ≠ m2) (keep : ∀ x y, R x y → y ≠ dp → y ≠ dq → R' x y) (r1 : ∀ x, R x dp → R' x m1) (r2 : R' m1 dq) (r3 : ∀ x, R x dq → R' x m2) (r4 : R' m2 dp) (hD : ∀ x, D' x ↔ D x ∨ x = m1 ∨ x = m2) : Dec R' D' ((dp :: (as ++ [m2])) :: (dq :: (bs ++ [m1])) :: rest) := by
  have c0 : Wk R dp (as ++ dq :: bs) dp := h.cy _ List.mem_cons_self
  have cw := Wk.app.mp c0
  have n0 := h.nd _ List.mem_cons_self
  have n1 := List.nodup_cons.mp n0
  have n2 := List.nodup_append.mp n1.2
  have n3 := List.nodup_cons.mp n2.2.1
  have pd : dp ≠ dq := fun e => n1.1 (e ▸ List.mem_append_right _ List.mem_cons_self)
  have pa : dp ∉ as := fun e => n1.1 (List.mem_append_left _ e)
  have pb : dp ∉ bs := fun e => n1.1 (List.mem_append_right _ (List.mem_cons_of_mem _ e))
  have qa : dq ∉ as := fun e => n2.2.2 dq e dq List.mem_cons_self rfl
  have dj := List.pairwise_cons.mp h.dj
  have inD : ∀ g ∈ (dp :: (as ++ dq :: bs)) :: rest, ∀ x ∈ g, D x := fun g hg x hx => (h.all x).mpr ⟨g, hg, hx⟩
  have a0 : ∀ x ∈ as, D x := fun x hx => inD _ List.mem_cons_self x (List.mem_cons_of_mem _ (List.mem_append_left _ hx))
  have b0 : ∀ x ∈ bs, D x := fun x hx => inD _ List.mem_cons_self x (List.mem_cons_of_mem _ (List.mem_append_right _ (List.mem_cons_of_mem _ hx)))
  have p0 : D dp := inD _ List.mem_cons_self dp List.mem_cons_self
  have q0 : D dq := inD _ List.mem_cons_self dq (List.mem_cons_of_mem _ (List.mem_append_right _ List.mem_cons_self))
  have mem1 : ∀ x, x ∈ dp :: (as ++ [m2]) ↔ x = dp ∨ x ∈ as ∨ x = m2 := fun x => by rw [List.mem_cons, List.mem_append, List.mem_singleton]
  have mem2 : ∀ x, x ∈ dq :: (bs ++ [m1]) ↔ x = dq ∨ x ∈ bs ∨ x = m1 := fun x => by rw [List.mem_cons, List.mem_append, List.mem_singleton]
  have mem0 : ∀ x, x ∈ dp :: (as ++ dq :: bs) ↔ x = dp ∨ x ∈ as ∨ x = dq ∨ x ∈ bs := fun x => by rw [List.mem_cons, List.mem_append, List.mem_cons]
  refine ⟨fun g hg => ?_, fun g hg => ?_, ?_, fun x => ?_⟩
  · rcases List.mem_cons.mp hg with e | hg
    · rw [e]
      exact Wk.app.mpr ⟨Wk.imp r3 cw.1 fun x y hy r => keep x y r (fun z => pa (z ▸ hy)) fun z => qa (z ▸ hy), r4⟩
    rcases List.mem_cons.mp hg with e | hg
    · rw [e]
      exact Wk.app.mpr ⟨Wk.imp r1 cw.2 fun x y hy r => keep x y r (fun z => pb (z ▸ hy)) fun z => n3.1 (z ▸ hy), r2⟩
    · exact (h.cy g (List.mem_cons_of_mem _ hg)).keep fun x y hy r => keep x y r (fun z => dj.1 g hg dp List.mem_cons_self (z ▸ hy)) fun z => dj.1 g hg dq (List.mem_cons_of_mem _ (List.mem_append_right _ List.mem_cons_self)) (z ▸ hy)
  · rcases List.mem_cons.mp hg with e | hg
    · rw [e]
      refine List.nodup_cons.mpr ⟨fun z => ?_, List.nodup_append.mpr ⟨n2.1, List.nodup_cons.mpr ⟨fun z => (by cases z), List.nodup_nil⟩, fun x hx y hy e => ndq (List.mem_singleton.mp hy ▸ e ▸ a0 x hx)⟩⟩
      rcases List.mem_append.mp z with z | z
      · exact pa z
      · exact ndq (List.mem_singleton.mp z ▸ p0)
    rcases List.mem_cons.mp hg with e | hg
    · rw [e]
      refine List.nodup_cons.mpr ⟨fun z => ?_, List.nodup_append.mpr ⟨n3.2, List.nodup_cons.mpr ⟨fun z => (by cases z), List.nodup_nil⟩, fun x hx y hy e => ndp (List.mem_singleton.mp hy ▸ e ▸ b0 x hx)⟩⟩
      rcases List.mem_append.mp z with z | z
      · exact n3.1 z
      · exact ndp (List.mem_singleton.mp z ▸ q0)
    · exact h.nd g (List.mem_cons_of_mem _ hg)
  · refine List.pairwise_cons.mpr ⟨fun g hg x hx xg => ?_, List.pairwise_cons.mpr ⟨fun g hg x hx xg => ?_, dj.2⟩⟩
    · rcases List.mem_cons.mp hg with e | hg
      · rcases (mem1 x).mp hx with e1 | e1 | e1 <;> rcases (mem2 x).mp (e ▸ xg) with e2 | e2 | e2
        · exact pd (e1.symm.trans e2)
        · exact pb (e1 ▸ e2)
        · exact ndp (e2 ▸ e1.symm ▸ p0)
        · exact qa (e2 ▸ e1)
        · exact n2.2.2 x e1 x (List.mem_cons_of_mem _ e2) rfl
        · exact ndp (e2 ▸ a0 x e1)
        · exact ndq (e1 ▸ e2.symm ▸ q0)
        · exact ndq (e1 ▸ b0 x e2)
        · exact m12 (e2.symm.trans e1)
      · rcases (mem1 x).mp hx with e1 | e1 | e1
        · exact dj.1 g hg x ((mem0 x).mpr (Or.inl e1)) xg
        · exact dj.1 g hg x ((mem0 x).mpr (Or.inr (Or.inl e1))) xg
        · exact ndq (e1 ▸ inD g (List.mem_cons_of_mem _ hg) x xg)
    · rcases (mem2 x).mp hx with e1 | e1 | e1
      · exact dj.1 g hg x ((mem0 x).mpr (Or.inr (Or.inr (Or.inl e1)))) xg
      · exact dj.1 g hg x ((mem0 x).mpr (Or.inr (Or.inr (Or.inr e1)))) xg
      · exact ndp (e1 ▸ inD g (List.mem_cons_of_mem _ hg) x xg)
  · rw [hD x, h.all x]
    constructor
    · rintro (⟨g, hg, xg⟩ | e | e)
      · rcases List.mem_cons.mp hg with e | hg
        · rcases (mem0 x).mp (e ▸ xg) with e1 | e1 | e1 | e1
          · exact ⟨_, List.mem_cons_self, (mem1 x).mpr (Or.inl e1)⟩
          · exact ⟨_, List.mem_cons_self, (mem1 x).mpr (Or.inr (Or.inl e1))⟩
          · exact ⟨_, List.mem_cons_of_mem _ List.mem_cons_self, (mem2 x).mpr (Or.inl e1)⟩
          · exact ⟨_, List.mem_cons_of_mem _ List.mem_cons_self, (mem2 x).mpr (Or.inr (Or.inl e1))⟩
        · exact ⟨g, List.mem_cons_of_mem _ (List.mem_cons_of_mem _ hg), xg⟩
      · exact ⟨_, List.mem_cons_of_mem _ List.mem_cons_self, (mem2 x).mpr (Or.inr (Or.inr e))⟩
      · exact ⟨_, List.mem_cons_self, (mem1 x).mpr (Or.inr (Or.inr e))⟩
    · rintro ⟨g, hg, xg⟩
      rcases List.mem_cons.mp hg with e | hg
      · rcases (mem1 x).mp (e ▸ xg) with e1 | e1 | e1
        · exact Or.inl ⟨_, List.mem_cons_self, (mem0 x).mpr (Or.inl e1)⟩
        · exact Or.inl ⟨_, List.mem_cons_self, (mem0 x).mpr (Or.inr (Or.inl e1))⟩
        · exact Or.inr (Or.inr e1)
      rcases List.mem_cons.mp hg with e | hg
      · rcases (mem2 x).mp (e ▸ xg) with e1 | e1 | e1
        · exact Or.inl ⟨_, List.mem_cons_self, (mem0 x).mpr (Or.inr (Or.inr (Or.inl e1)))⟩
        · exact Or.inl ⟨_, List.mem_cons_self, (mem0 x).mpr (Or.inr (Or.inr (Or.inr e1)))⟩
        · exact Or.inr (Or.inl e1)
      · exact Or.inl ⟨g, List.mem_cons_of_mem _ hg, xg⟩
/-- a tie to a new place: the face of the corner grows by two steps. -/
theorem Dec.leaf {as : List Dt} (h : Dec R D ((dp :: as) :: rest)) (ndp : ¬ D m1) (ndq : ¬ D m2) (m12 : m1 ≠ m2) (keep : ∀ x y, R x y → y ≠ dp → R' x y) (r1 : ∀ x, R x dp → R' x m1) (r2 : R' m1 m2) (r4 : R' m2 dp) (hD : ∀ x, D' x ↔ D x ∨ x = m1 ∨ x = m2) : Dec R' D' ((dp :: (as ++ [m1, m2])) :: rest) := by
  have c0 : Wk R dp as dp := h.cy _ List.mem_cons_self
  have n0 := h.nd _ List.mem_cons_self
  have n1 := List.nodup_cons.mp n0
  have dj := List.pairwise_cons.mp h.dj
  have inD : ∀ g ∈ (dp :: as) :: rest, ∀ x ∈ g, D x := fun g hg x hx => (h.all x).mpr ⟨g, hg, hx⟩
  have a0 : ∀ x ∈ as, D x := fun x hx => inD _ List.mem_cons_self x (List.mem_cons_of_mem _ hx)
  have p0 : D dp := inD _ List.mem_cons_self dp List.mem_cons_self
  have mem1 : ∀ x, x ∈ dp :: (as ++ [m1, m2]) ↔ x ∈ dp :: as ∨ x = m1 ∨ x = m2 := fun x => by rw [List.mem_cons, List.mem_cons, List.mem_append, List.mem_cons, List.mem_singleton, or_assoc]
  refine ⟨fun g hg => ?_, fun g hg => ?_, ?_, fun x => ?_⟩
  · rcases List.mem_cons.mp hg with e | hg
    · rw [e]
      exact Wk.app.mpr ⟨Wk.imp r1 c0 fun x y hy r => keep x y r fun z => n1.1 (z ▸ hy), r2, r4⟩
    · exact (h.cy g (List.mem_cons_of_mem _ hg)).keep fun x y hy r => keep x y r fun z => dj.1 g hg dp List.mem_cons_self (z ▸ hy)
  · rcases List.mem_cons.mp hg with e | hg
    · rw [e]
      refine List.nodup_cons.mpr ⟨fun z => ?_, List.nodup_append.mpr ⟨n1.2, List.nodup_cons.mpr ⟨fun z => m12 (List.mem_singleton.mp z), List.nodup_cons.mpr ⟨fun z => (by cases z), List.nodup_nil⟩⟩, fun x hx y hy e => ?_⟩⟩
      · rcases List.mem_append.mp z with z | z
        · exact n1.1 z
        · rcases List.mem_cons.mp z with z | z
          · exact ndp (z ▸ p0)
          · exact ndq (List.mem_singleton.mp z ▸ p0)
      · rcases List.mem_cons.mp hy with z | z
        · exact ndp (z ▸ e ▸ a0 x hx)
        · exact ndq (List.mem_singleton.mp z ▸ e ▸ a0 x hx)
    · exact h.nd g (List.mem_cons_of_mem _ hg)
  · refine List.pairwise_cons.mpr ⟨fun g hg x hx xg => ?_, dj.2⟩
    rcases (mem1 x).mp hx with e1 | e1 | e1
    · exact dj.1 g hg x e1 xg
    · exact ndp (e1 ▸ inD g (List.mem_cons_of_mem _ hg) x xg)
    · exact ndq (e1 ▸ inD g (List.mem_cons_of_mem _ hg) x xg)
  · rw [hD x, h.all x]
    constructor
    · rintro (⟨g, hg, xg⟩ | e)
      · rcases List.mem_cons.mp hg with e | hg
        · exact ⟨_, List.mem_cons_self, (mem1 x).mpr (Or.inl (e ▸ xg))⟩
        · exact ⟨g, List.mem_cons_of_mem _ hg, xg⟩
      · exact ⟨_, List.mem_cons_self, (mem1 x).mpr (Or.inr e)⟩
    · rintro ⟨g, hg, xg⟩
      rcases List.mem_cons.mp hg with e | hg
      · rcases (mem1 x).mp (e ▸ xg) with e1 | e1
        · exact Or.inl ⟨_, List.mem_cons_self, e1⟩
        · exact Or.inr e1
      · exact Or.inl ⟨g, List.mem_cons_of_mem _ hg, xg⟩
/-- the first tie of a place: a face of two steps more. -/
theorem Dec.first {fs : List (List Dt)} (h : Dec R D fs) (ndp : ¬ D m1) (ndq : ¬ D m2) (m12 : m1 ≠ m2) (keep : ∀ x y, R x y → R' x y) (r1 : R' m1 m2) (r2 : R' m2 m1) (hD : ∀ x, D' x ↔ D x ∨ x = m1 ∨ x = m2) : Dec R' D' ([m1, m2] :: fs) := by
  have mem1 : ∀ x, x ∈ [m1, m2] ↔ x = m1 ∨ x = m2 := fun x => by rw [List.mem_cons, List.mem_singleton]
  refine ⟨fun g hg => ?_, fun g hg => ?_, List.pairwise_cons.mpr ⟨fun g hg x hx xg => ?_, h.dj⟩, fun x => ?_⟩
  · rcases List.mem_cons.mp hg with e | hg
    · rw [e]; exact ⟨r1, r2⟩
    · exact (h.cy g hg).keep fun x y _ r => keep x y r
  · rcases List.mem_cons.mp hg with e | hg
    · rw [e]; exact List.nodup_cons.mpr ⟨fun z => m12 (List.mem_singleton.mp z), List.nodup_cons.mpr ⟨fun z => (by cases z), List.nodup_nil⟩⟩
    · exact h.nd g hg
  · have dx : D x := (h.all x).mpr ⟨g, hg, xg⟩
    rcases (mem1 x).mp hx with e | e
    · exact ndp (e ▸ dx)
    · exact ndq (e ▸ dx)
  · rw [hD x, h.all x]
    constructor
    · rintro (⟨g, hg, xg⟩ | e)
      · exact ⟨g, List.mem_cons_of_mem _ hg, xg⟩
      · exact ⟨_, List.mem_cons_self, (mem1 x).mpr e⟩
    · rintro ⟨g, hg, xg⟩
      rcases List.mem_cons.mp hg with e | hg
      · exact Or.inr ((mem1 x).mp (e ▸ xg))
      · exact Or.inl ⟨g, hg, xg⟩
end
/-! ### the row of a place as a ring, and a tie put into it -/
def CS (row : List Int) (a b : Int) : Prop := ∃ i, i < row.length ∧ row[i]? = some a ∧ row[(i + 1) % row.length]? = some b
theorem rotP_len {row : List Int} {k : Nat} (hk : k ≤ row.length) : (rotP row k).length = row.length := by
  unfold rotP
  rw [List.length_append, List.length_drop, List.length_take]
  omega
theorem rotP_get {row : List Int} {k j : Nat} (hk : k ≤ row.length) (hj : j < row.length) : (rotP row k)[j]? = row[(j + k) % row.length]? := by
  unfold rotP
  by_cases h : j < row.length - k
  · rw [List.getElem?_append_left (by rw [List.length_drop]; exact h), List.getElem?_drop, Nat.mod_eq_of_lt (by omega), Nat.add_comm]
  · have e : (j + k) % row.length = j + k - row.length := by
      rw [Nat.mod_eq_sub_mod (by omega), Nat.mod_eq_of_lt (by omega)]
    rw [List.getElem?_append_right (by rw [List.length_drop]; omega), List.length_drop, List.getElem?_take_of_lt (by omega), e]
    congr 1
    omega
theorem CS.rot {row : List Int} {a b : Int} {k : Nat} (h : CS row a b) (hk : k ≤ row.length) : CS (rotP row k) a b := by
  obtain ⟨i, hi, e1, e2⟩ := h
  have ex : ∃ j, j < row.length ∧ (j + k) % row.length = i := by
    by_cases c : k ≤ i
    · exact ⟨i - k, by omega, by rw [Nat.sub_add_cancel c, Nat.mod_eq_of_lt hi]⟩
    · exact ⟨i + row.length - k, by omega, by rw [Nat.sub_add_cancel (by omega), Nat.add_mod_right, Nat.mod_eq_of_lt hi]⟩
  obtain ⟨j, hj, ej⟩ := ex
  refine ⟨j, by rw [rotP_len hk]; exact hj, by rw [rotP_get hk hj, ej]; exact e1, ?_⟩
  rw [rotP_len hk, rotP_get hk (Nat.mod_lt _ (by omega)), Nat.mod_add_mod, show j + 1 + k = j + k + 1 by omega, ← Nat.mod_add_mod, ej]
  exact e2
theorem rotP_back {row : List Int} {k : Nat} (hk : k ≤ row.length) : rotP (rotP row k) (row.length - k) = row := by
  have l : (row.drop k).length = row.length - k := List.length_drop
  unfold rotP
  rw [← l, List.drop_left, List.take_left, List.take_append_drop]
theorem CS.rot_iff {row : List Int} {a b : Int} {k : Nat} (hk : k ≤ row.length) : CS (rotP row k) a b ↔ CS row a b :=
  ⟨fun h => by
    have := CS.rot (k := row.length - k) h (by rw [rotP_len hk]; omega)
    rwa [rotP_back hk] at this, fun h => h.rot hk⟩
theorem CS.keep1 {g m a b : Int} {t : List Int} (h : CS (g :: t) a b) (ne : b ≠ g) : CS (m :: g :: t) a b := by
  obtain ⟨i, hi, e1, e2⟩ := h
  have lt : i + 1 < (g :: t).length := by
    refine Classical.byContradiction fun c => ne ?_
    have : i + 1 = (g :: t).length := by omega
    rw [this, Nat.mod_self] at e2
    exact (Option.some.inj e2).symm
  rw [Nat.mod_eq_of_lt lt] at e2
  refine ⟨i + 1, by rw [List.length_cons]; omega, e1, ?_⟩
  rw [Nat.mod_eq_of_lt (by rw [List.length_cons]; omega)]
  exact e2
theorem CS.last1 {g m a : Int} {t : List Int} (nd : (g :: t).Nodup) (h : CS (g :: t) a g) : CS (m :: g :: t) a m := by
  obtain ⟨i, hi, e1, e2⟩ := h
  have e : i + 1 = (g :: t).length := by
    refine Classical.byContradiction fun c => ?_
    rw [Nat.mod_eq_of_lt (by omega)] at e2
    have h0 : (g :: t)[i + 1] = g := Option.some.inj ((List.getElem?_eq_getElem (by omega)).symm.trans e2)
    exact List.pairwise_iff_getElem.mp (List.nodup_iff_pairwise_ne.mp nd) 0 (i + 1) (by rw [List.length_cons]; omega) (by omega) (by omega) h0.symm
  refine ⟨i + 1, by rw [List.length_cons]; omega, e1, ?_⟩
  rw [show (m :: g :: t).length = i + 1 + 1 by rw [List.length_cons, e], Nat.mod_self]
  rfl
theorem CS.first1 {g m : Int} {t : List Int} : CS (m :: g :: t) m g := by
  refine ⟨0, by simp, rfl, ?_⟩
  rw [Nat.mod_eq_of_lt (by simp)]
  rfl
theorem CS.alone (m : Int) : CS [m] m m := ⟨0, by simp, rfl, by rw [show (0 + 1) % [m].length = 0 from Nat.mod_self 1]; rfl⟩
def gC (row : List Int) (i : Nat) : Int := row.getD (i % row.length) 0
theorem rotP_gC {row : List Int} {i : Nat} (ne : row ≠ []) (hi : i ≤ row.length) : ∃ t, rotP row i = gC row i :: t := by
  have l0 : 0 < row.length := List.length_pos_iff.mpr ne
  have h := rotP_get (j := 0) hi l0
  rw [Nat.zero_add] at h
  cases e : rotP row i with
  | nil =>
    have := rotP_len hi
    rw [e] at this
    simp at this
    omega
  | cons g t =>
    rw [e] at h
    refine ⟨t, ?_⟩
    have : some g = row[i % row.length]? := h
    unfold gC
    rw [List.getD_eq_getElem?_getD, ← this]
    rfl
theorem insR_len {row : List Int} {i : Nat} {m : Int} : (insR row i m).length = row.length + 1 := by
  unfold insR
  rw [List.length_append, List.length_append, List.length_take, List.length_drop, List.length_singleton]
  omega
theorem rotP_ins {row : List Int} {i : Nat} {m : Int} (hi : i ≤ row.length) : rotP (insR row i m) i = m :: rotP row i := by
  have l : (row.take i).length = i := by rw [List.length_take]; omega
  have e : insR row i m = row.take i ++ (m :: row.drop i) := by
    unfold insR
    rw [List.append_assoc]
    rfl
  unfold rotP
  rw [e]
  conv => lhs; rw [show List.drop i (row.take i ++ (m :: row.drop i)) = m :: row.drop i by
    conv => lhs; arg 1; rw [← l]
    exact List.drop_left, show List.take i (row.take i ++ (m :: row.drop i)) = row.take i by
    conv => lhs; arg 1; rw [← l]
    exact List.take_left]
  rfl
section
variable {row : List Int} {i : Nat} {m a b : Int} (ne : row ≠ []) (hi : i ≤ row.length)
include ne hi
theorem CS.insKeep (h : CS row a b) (nb : b ≠ gC row i) : CS (insR row i m) a b := by
  obtain ⟨t, e⟩ := rotP_gC ne hi
  rw [← CS.rot_iff (k := i) (by rw [insR_len]; omega), rotP_ins hi, e]
  exact CS.keep1 (e ▸ h.rot hi) nb
theorem CS.insLast (nd : row.Nodup) (h : CS row a (gC row i)) : CS (insR row i m) a m := by
  obtain ⟨t, e⟩ := rotP_gC ne hi
  rw [← CS.rot_iff (k := i) (by rw [insR_len]; omega), rotP_ins hi, e]
  exact CS.last1 (e ▸ (rotP_perm row i).nodup_iff.mpr nd) (e ▸ h.rot hi)
theorem CS.insFirst : CS (insR row i m) m (gC row i) := by
  obtain ⟨t, e⟩ := rotP_gC ne hi
  rw [← CS.rot_iff (k := i) (by rw [insR_len]; omega), rotP_ins hi, e]
  exact CS.first1
end
theorem CS.fn {row : List Int} (nd : row.Nodup) {a b b' : Int} (h : CS row a b) (k : CS row a b') : b = b' := by
  obtain ⟨i, hi, e1, e2⟩ := h
  obtain ⟨j, hj, f1, f2⟩ := k
  have : i = j := by
    have h1 := Option.some.inj ((List.getElem?_eq_getElem hi).symm.trans e1)
    have h2 := Option.some.inj ((List.getElem?_eq_getElem hj).symm.trans f1)
    have np := List.pairwise_iff_getElem.mp (List.nodup_iff_pairwise_ne.mp nd)
    rcases Nat.lt_trichotomy i j with c | c | c
    · exact (np i j hi hj c (h1.trans h2.symm)).elim
    · exact c
    · exact (np j i hj hi c (h2.trans h1.symm)).elim
  subst this
  exact Option.some.inj (e2.symm.trans f2)
theorem CS.mem {row : List Int} {a b : Int} (h : CS row a b) : a ∈ row ∧ b ∈ row := by
  obtain ⟨i, hi, e1, e2⟩ := h
  exact ⟨List.mem_of_getElem? e1, List.mem_of_getElem? e2⟩
/-- the step behind a step. -/
def NxR (es : List (Int × Int)) (rs : List (List Int)) (x y : Dt) : Prop := ∃ (p : Nat) (row : List Int), rs[p]? = some row ∧ y.2 = (p : Int) ∧ x.2 = othE es x.1 p ∧ CS row x.1 y.1
def DtE (es : List (Int × Int)) (x : Dt) : Prop := ∃ (k : Nat) (e : Int × Int), es[k]? = some e ∧ x.1 = (k : Int) ∧ (x.2 = e.1 ∨ x.2 = e.2)
theorem NxR.fn {es : List (Int × Int)} {rs : List (List Int)} (od : Ord rs es) : ∀ x y y' : Dt, NxR es rs x y → NxR es rs x y' → y = y' := fun x y y' ⟨p, row, e1, e2, e3, c⟩ ⟨q, row', f1, f2, f3, d⟩ => by
  have : (p : Int) = q := othE_inj (e3.symm.trans f3)
  have pq : p = q := by omega
  subst pq
  have : row = row' := Option.some.inj (e1.symm.trans f1)
  subst this
  exact Prod.ext (c.fn (od.nd _ (List.mem_of_getElem? e1)) d) (e2.trans f2.symm)
theorem othE_app {es : List (Int × Int)} {e : Int × Int} {k p : Int} (h0 : 0 ≤ k) (h1 : k < (es.length : Int)) : othE (es ++ [e]) k p = othE es k p := by
  unfold othE
  rw [List.getD_eq_getElem?_getD, List.getD_eq_getElem?_getD, List.getElem?_append_left (by omega)]
theorem othE_new {es : List (Int × Int)} {e : Int × Int} {p : Int} : othE (es ++ [e]) (es.length : Int) p = e.1 + e.2 - p := by
  unfold othE
  rw [List.getD_eq_getElem?_getD, Int.toNat_natCast, List.getElem?_append_right (Nat.le_refl _), Nat.sub_self]
  rfl
theorem DtE.app {es : List (Int × Int)} {e : Int × Int} {x : Dt} : DtE (es ++ [e]) x ↔ DtE es x ∨ x = ((es.length : Int), e.1) ∨ x = ((es.length : Int), e.2) := by
  constructor
  · rintro ⟨k, f, ek, e1, e2⟩
    by_cases hk : k < es.length
    · rw [List.getElem?_append_left hk] at ek
      exact .inl ⟨k, f, ek, e1, e2⟩
    · have h2 := (List.getElem?_eq_some_iff.mp ek).1
      rw [List.length_append, List.length_singleton] at h2
      have : k = es.length := by omega
      subst this
      rw [List.getElem?_append_right (Nat.le_refl _), Nat.sub_self] at ek
      have : e = f := Option.some.inj ek
      subst this
      exact .inr (e2.imp (fun z => Prod.ext e1 z) fun z => Prod.ext e1 z)
  · rintro (⟨k, f, ek, e1, e2⟩ | h | h)
    · exact ⟨k, f, by rw [List.getElem?_append_left (List.getElem?_eq_some_iff.mp ek).1]; exact ek, e1, e2⟩
    · exact ⟨es.length, e, by rw [List.getElem?_append_right (Nat.le_refl _), Nat.sub_self]; rfl, by rw [h], .inl (by rw [h])⟩
    · exact ⟨es.length, e, by rw [List.getElem?_append_right (Nat.le_refl _), Nat.sub_self]; rfl, by rw [h], .inr (by rw [h])⟩
theorem DtE.lt {es : List (Int × Int)} {x : Dt} (h : DtE es x) : 0 ≤ x.1 ∧ x.1 < (es.length : Int) := by
  obtain ⟨k, e, ek, e1, _⟩ := h
  have := (List.getElem?_eq_some_iff.mp ek).1
  omega
/-! ### Euler's rule, kept while a web grows -/
inductive Cn (es : List (Int × Int)) : Int → Int → Prop
  | refl (p : Int) : Cn es p p
  | fwd {p : Int} {e : Int × Int} : Cn es p e.1 → e ∈ es → Cn es p e.2
  | bwd {p : Int} {e : Int × Int} : Cn es p e.2 → e ∈ es → Cn es p e.1
theorem Cn.mono {es es' : List (Int × Int)} (h : ∀ e ∈ es, e ∈ es') {p q : Int} (c : Cn es p q) : Cn es' p q := by
  induction c with
  | refl => exact .refl _
  | fwd _ m ih => exact .fwd ih (h _ m)
  | bwd _ m ih => exact .bwd ih (h _ m)
theorem Cn.trans {es : List (Int × Int)} {p q r : Int} (a : Cn es p q) (b : Cn es q r) : Cn es p r := by
  induction b with
  | refl => exact a
  | fwd _ m ih => exact .fwd ih m
  | bwd _ m ih => exact .bwd ih m
theorem Cn.symm {es : List (Int × Int)} {p q : Int} (a : Cn es p q) : Cn es q p := by
  induction a with
  | refl => exact .refl _
  | fwd _ m ih => exact Cn.trans (.bwd (.refl _) m) ih
  | bwd _ m ih => exact Cn.trans (.fwd (.refl _) m) ih
theorem Cn.lab {es : List (Int × Int)} {lab : Int → Int} (t : ∀ e ∈ es, lab e.1 = lab e.2) {p q : Int} (c : Cn es p q) : lab p = lab q := by
  induction c with
  | refl => rfl
  | fwd _ m ih => rw [ih, t _ m]
  | bwd _ m ih => rw [ih, t _ m]
def plC (lab : Int → Int) (n : Nat) (c : Int) : Nat := (List.range n).countP fun p : Nat => decide (lab p = c)
def tcC (lab : Int → Int) (es : List (Int × Int)) (c : Int) : Nat := es.countP fun e => decide (lab e.1 = c)
def hlC (lab : Int → Int) : List Dt → Option Int
  | [] => none
  | x :: _ => some (lab x.2)
def fcC (lab : Int → Int) (fs : List (List Dt)) (c : Int) : Nat := fs.countP fun f => decide (hlC lab f = some c)
theorem plC_ext {lab lab' : Int → Int} {n : Nat} (h : ∀ p : Nat, p < n → lab' p = lab p) (c : Int) : plC lab' n c = plC lab n c :=
  List.countP_congr fun p hp => by rw [h p (List.mem_range.mp hp)]
theorem plC_succ (lab : Int → Int) (n : Nat) (c : Int) : plC lab (n + 1) c = plC lab n c + if lab n = c then 1 else 0 := by
  unfold plC
  rw [List.range_succ, List.countP_append, List.countP_singleton]
  by_cases h : lab n = c
  · rw [if_pos h, if_pos (decide_eq_true h)]
  · rw [if_neg h, if_neg (by rw [decide_eq_false h]; exact Bool.false_ne_true)]
theorem tcC_ext {lab lab' : Int → Int} {es : List (Int × Int)} (h : ∀ e ∈ es, lab' e.1 = lab e.1) (c : Int) : tcC lab' es c = tcC lab es c :=
  List.countP_congr fun e he => by rw [h e he]
theorem tcC_snoc (lab : Int → Int) (es : List (Int × Int)) (e : Int × Int) (c : Int) : tcC lab (es ++ [e]) c = tcC lab es c + if lab e.1 = c then 1 else 0 := by
  unfold tcC
  rw [List.countP_append, List.countP_singleton]
  by_cases h : lab e.1 = c
  · rw [if_pos h, if_pos (decide_eq_true h)]
  · rw [if_neg h, if_neg (by rw [decide_eq_false h]; exact Bool.false_ne_true)]
theorem fcC_ext {lab lab' : Int → Int} {fs : List (List Dt)} (h : ∀ f ∈ fs, ∀ x ∈ f, lab' x.2 = lab x.2) (c : Int) : fcC lab' fs c = fcC lab fs c :=
  List.countP_congr fun f hf => by
    cases f with
    | nil => exact Iff.rfl
    | cons x xs =>
      have := h _ hf x List.mem_cons_self
      show decide (some (lab' x.2) = some c) = true ↔ decide (some (lab x.2) = some c) = true
      rw [this]
theorem fcC_cons (lab : Int → Int) (f : List Dt) (fs : List (List Dt)) (c : Int) : fcC lab (f :: fs) c = fcC lab fs c + if hlC lab f = some c then 1 else 0 := by
  unfold fcC
  rw [List.countP_cons]
  by_cases h : hlC lab f = some c
  · rw [if_pos h, if_pos (decide_eq_true h)]
  · rw [if_neg h, if_neg (by rw [decide_eq_false h]; exact Bool.false_ne_true)]
theorem fcC_perm {lab : Int → Int} {fs gs : List (List Dt)} (p : fs.Perm gs) (c : Int) : fcC lab fs c = fcC lab gs c := p.countP_eq _
theorem Wk.lab {R : Dt → Dt → Prop} {L : Dt → Int} (k : ∀ x y, R x y → L x = L y) {b : Dt} : ∀ {xs : List Dt} {a : Dt}, Wk R a xs b → ∀ z ∈ xs, L z = L a
  | c :: cs, a, h, z, hz => by
    rcases List.mem_cons.mp hz with e | hz'
    · rw [e]; exact (k _ _ h.1).symm
    · exact (Wk.lab k h.2 z hz').trans (k _ _ h.1).symm
theorem CyR.hl {R : Dt → Dt → Prop} {lab : Int → Int} (k : ∀ x y, R x y → lab x.2 = lab y.2) {f : List Dt} (h : CyR R f) {z : Dt} (hz : z ∈ f) : hlC lab f = some (lab z.2) := by
  cases f with
  | nil => cases hz
  | cons x xs =>
    rcases List.mem_cons.mp hz with e | hz'
    · rw [e]; rfl
    · have := Wk.lab (L := fun z => lab z.2) k h z hz'
      show some (lab x.2) = some (lab z.2)
      rw [this]
structure Eul (es : List (Int × Int)) (rs : List (List Int)) (lab : Int → Int) (fs : List (List Dt)) : Prop where
  od : Ord rs es
  dec : Dec (NxR es rs) (DtE es) fs
  lr : ∀ p : Nat, p < rs.length → 0 ≤ lab p ∧ lab p < (rs.length : Int)
  tie : ∀ e ∈ es, lab e.1 = lab e.2
  con : ∀ p q : Nat, p < rs.length → q < rs.length → lab p = lab q → Cn es p q
  one : ∀ p : Nat, rs[p]? = some [] → ∀ q : Nat, q < rs.length → lab q = lab p → q = p
  eul : ∀ (p : Nat) (row : List Int), rs[p]? = some row → row ≠ [] → plC lab rs.length (lab p) + fcC lab fs (lab p) = tcC lab es (lab p) + 2
theorem Ord.nxLab {rs : List (List Int)} {es : List (Int × Int)} (od : Ord rs es) {lab : Int → Int} (t : ∀ e ∈ es, lab e.1 = lab e.2) : ∀ x y : Dt, NxR es rs x y → lab x.2 = lab y.2 := fun x y ⟨p, row, e1, e2, e3, c⟩ => by
  obtain ⟨k, e, ek, ee, ce⟩ := (od.mem p row e1 x.1).mp c.mem.1
  have h1 : othE es x.1 p = e.1 + e.2 - p := by
    unfold othE
    rw [ek, Int.toNat_natCast, List.getD_eq_getElem?_getD, ee]
    rfl
  have tt := t e (List.mem_of_getElem? ee)
  rw [e3, h1, e2]
  rcases ce with z | z
  · rw [show e.1 + e.2 - (p : Int) = e.2 by omega, ← z, tt]
  · rw [show e.1 + e.2 - (p : Int) = e.1 by omega, ← z, tt]
theorem DtE.rng {rs : List (List Int)} {es : List (Int × Int)} (od : Ord rs es) {x : Dt} (h : DtE es x) : 0 ≤ x.2 ∧ x.2 < (rs.length : Int) := by
  obtain ⟨k, e, ek, _, c⟩ := h
  have := od.ends e (List.mem_of_getElem? ek)
  rcases c with c | c <;> rw [c]
  · exact this.1
  · exact this.2.1
theorem Eul.start : Eul [] [[]] (fun _ => 0) [] where
  od := Ord.start
  dec := ⟨fun f h => (by cases h), fun f h => (by cases h), List.Pairwise.nil, fun x => ⟨fun ⟨k, e, h, _⟩ => (by simp at h), fun ⟨f, h, _⟩ => (by cases h)⟩⟩
  lr := fun p hp => by simp at hp; subst hp; decide
  tie := fun e h => (by cases h)
  con := fun p q hp hq _ => by
    simp at hp hq
    subst hp; subst hq
    exact .refl _
  one := fun p h q hq _ => by
    have := (List.getElem?_eq_some_iff.mp h).1
    simp at this hq
    omega
  eul := fun p row h ne => by
    have := (List.getElem?_eq_some_iff.mp h).1
    simp at this
    subst this
    exact (ne (Option.some.inj h).symm).elim
theorem Dec.keep {R R' : Dt → Dt → Prop} {D : Dt → Prop} {fs : List (List Dt)} (h : Dec R D fs) (k : ∀ x y, R x y → R' x y) : Dec R' D fs :=
  ⟨fun f hf => (h.cy f hf).keep fun x y _ r => k x y r, h.nd, h.dj, h.all⟩
section
variable {es : List (Int × Int)} {rs : List (List Int)} {lab : Int → Int} {fs : List (List Dt)}
theorem Eul.din (u : Eul es rs lab fs) {f : List Dt} (hf : f ∈ fs) {x : Dt} (hx : x ∈ f) : DtE es x := (u.dec.all x).mpr ⟨f, hf, hx⟩
theorem Eul.dlab (u : Eul es rs lab fs) {lab' : Int → Int} (h : ∀ p : Nat, p < rs.length → lab' p = lab p) {x : Dt} (hx : DtE es x) : lab' x.2 = lab x.2 := by
  have := hx.rng u.od
  have e : x.2 = ((x.2.toNat : Nat) : Int) := by omega
  rw [e]
  exact h _ (by omega)
theorem Eul.elab (u : Eul es rs lab fs) {lab' : Int → Int} (h : ∀ p : Nat, p < rs.length → lab' p = lab p) {e : Int × Int} (he : e ∈ es) : lab' e.1 = lab e.1 ∧ lab' e.2 = lab e.2 := by
  have := u.od.ends e he
  have e1 : e.1 = ((e.1.toNat : Nat) : Int) := by omega
  have e2 : e.2 = ((e.2.toNat : Nat) : Int) := by omega
  exact ⟨by rw [e1]; exact h _ (by omega), by rw [e2]; exact h _ (by omega)⟩
theorem Eul.more (u : Eul es rs lab fs) : Eul es (rs ++ [[]]) (fun x => if x = (rs.length : Int) then (rs.length : Int) else lab x) fs := by
  have ag : ∀ p : Nat, p < rs.length → (fun x : Int => if x = (rs.length : Int) then (rs.length : Int) else lab x) p = lab p := fun p hp => by
    show (if (p : Int) = (rs.length : Int) then (rs.length : Int) else lab p) = lab p
    rw [if_neg (by omega)]
  have an : (fun x : Int => if x = (rs.length : Int) then (rs.length : Int) else lab x) (rs.length : Nat) = (rs.length : Int) := if_pos rfl
  have ll : (rs ++ [[]]).length = rs.length + 1 := by rw [List.length_append, List.length_singleton]
  generalize (fun x : Int => if x = (rs.length : Int) then (rs.length : Int) else lab x) = lab' at ag an
  refine ⟨u.od.more, u.dec.keep fun x y ⟨p, row, e1, r⟩ => ⟨p, row, by rw [List.getElem?_append_left (List.getElem?_eq_some_iff.mp e1).1]; exact e1, r⟩, fun p hp => ?_, fun e he => ?_, fun p q hp hq e => ?_, fun p h q hq e => ?_, fun p row h ne => ?_⟩
  · rw [ll] at hp ⊢
    by_cases c : p < rs.length
    · rw [ag p c]
      have := u.lr p c
      omega
    · have : p = rs.length := by omega
      rw [this, an]
      omega
  · rw [(u.elab ag he).1, (u.elab ag he).2]
    exact u.tie e he
  · rw [ll] at hp hq
    by_cases c : p < rs.length <;> by_cases d : q < rs.length
    · rw [ag p c, ag q d] at e
      exact u.con p q c d e
    · have d' : q = rs.length := by omega
      rw [ag p c, d', an] at e
      have := u.lr p c
      omega
    · have c' : p = rs.length := by omega
      rw [ag q d, c', an] at e
      have := u.lr q d
      omega
    · have : p = q := by omega
      rw [this]
      exact .refl _
  · rw [ll] at hq
    by_cases c : p < rs.length <;> by_cases d : q < rs.length
    · rw [ag p c, ag q d] at e
      rw [List.getElem?_append_left c] at h
      exact u.one p h q d e
    · have d' : q = rs.length := by omega
      rw [ag p c, d', an] at e
      have := u.lr p c
      omega
    · have h2 := (List.getElem?_eq_some_iff.mp h).1
      rw [ll] at h2
      have c' : p = rs.length := by omega
      rw [ag q d, c', an] at e
      have := u.lr q d
      omega
    · have h2 := (List.getElem?_eq_some_iff.mp h).1
      omega
  · by_cases c : p < rs.length
    · rw [List.getElem?_append_left c] at h
      rw [ll, plC_succ, ag p c, an, plC_ext ag, tcC_ext fun e he => (u.elab ag he).1, fcC_ext fun f hf x hx => u.dlab ag (u.din hf hx), if_neg (by have := u.lr p c; omega), Nat.add_zero]
      exact u.eul p row h ne
    · rw [List.getElem?_append_right (by omega)] at h
      have h2 := (List.getElem?_eq_some_iff.mp h).1
      simp at h2
      rw [show p - rs.length = 0 by omega] at h
      exact (ne (Option.some.inj h).symm).elim
end
/-! ### Euler's rule: a tie between two corners of a face, a tie to a new place -/
section
variable {es : List (Int × Int)} {rs rs' : List (List Int)} {lab : Int → Int} {fs : List (List Dt)} {p q : Nat} {row row2 : List Int} {i j : Nat}
theorem Ord.fresh (od : Ord rs es) {p : Nat} {row : List Int} (e : rs[p]? = some row) : (es.length : Int) ∉ row := fun h => by
  have := od.row_in (List.mem_of_getElem? e) _ h
  omega
theorem NxR.keep (od : Ord rs es) {e : Int × Int} {x y : Dt} (h : NxR es rs x y) (k : ∀ (r : Nat) (row : List Int), rs[r]? = some row → y.2 = (r : Int) → CS row x.1 y.1 → ∃ row', rs'[r]? = some row' ∧ CS row' x.1 y.1) : NxR (es ++ [e]) rs' x y := by
  obtain ⟨r, row, e1, e2, e3, c⟩ := h
  obtain ⟨row', f1, c'⟩ := k r row e1 e2 c
  have := od.row_in (List.mem_of_getElem? e1) _ c.mem.1
  exact ⟨r, row', f1, e2, by rw [othE_app this.1 this.2]; exact e3, c'⟩
theorem NxR.to (od : Ord rs es) {e : Int × Int} {x : Dt} {g m : Int} {p : Nat} {row row' : List Int} (er : rs[p]? = some row) (er' : rs'[p]? = some row') (h : NxR es rs x (g, (p : Int))) (k : CS row x.1 g → CS row' x.1 m) : NxR (es ++ [e]) rs' x (m, (p : Int)) := by
  obtain ⟨r, row0, e1, e2, e3, c⟩ := h
  have : p = r := by
    have e2' : (p : Int) = (r : Int) := e2
    omega
  subst this
  have : row = row0 := Option.some.inj (er.symm.trans e1)
  subst this
  have := od.row_in (List.mem_of_getElem? e1) _ c.mem.1
  exact ⟨p, row', er', rfl, by rw [othE_app this.1 this.2]; exact e3, k c⟩
/-- a tie between two corners of one face. -/
theorem Eul.link (u : Eul es rs lab fs) (od' : Ord rs' (es ++ [((p : Int), (q : Int))])) (pq : p ≠ q) (ep : rs[p]? = some row) (eq : rs[q]? = some row2) (np : row ≠ []) (nq : row2 ≠ []) (hi : i ≤ row.length) (hj : j ≤ row2.length) (hl : rs'.length = rs.length) (e1 : rs'[p]? = some (insR row i es.length)) (e2 : rs'[q]? = some (insR row2 j es.length)) (eo : ∀ r, r ≠ p → r ≠ q → rs'[r]? = rs[r]?) (f0 : List Dt) (hf0 : f0 ∈ fs) (dp0 : (gC row i, (p : Int)) ∈ f0) (dq0 : (gC row2 j, (q : Int)) ∈ f0) : ∃ fs', Eul (es ++ [((p : Int), (q : Int))]) rs' lab fs' := by
  have hp := (List.getElem?_eq_some_iff.mp ep).1
  have hq := (List.getElem?_eq_some_iff.mp eq).1
  have nx := u.od.nxLab u.tie
  obtain ⟨f, ys, rest, pm, pf, dec⟩ := u.dec.front (u.din hf0 dp0)
  have ff : f = f0 := u.dec.one (pm.mem_iff.mpr List.mem_cons_self) hf0 (pf.mem_iff.mpr List.mem_cons_self) dp0
  have dq1 : (gC row2 j, (q : Int)) ∈ ys := by
    rcases List.mem_cons.mp (pf.mem_iff.mp (ff ▸ dq0)) with z | z
    · have : (q : Int) = (p : Int) := congrArg Prod.snd z
      omega
    · exact z
  have hl0 : ∀ g, g ∈ fs → ∀ z ∈ g, hlC lab g = some (lab z.2) := fun g hg z hz => (u.dec.cy g hg).hl nx hz
  have lpq : lab p = lab q := Option.some.inj ((hl0 f0 hf0 _ dp0).symm.trans (hl0 f0 hf0 _ dq0))
  obtain ⟨as, bs, rfl⟩ := List.append_of_mem dq1
  have nD : ∀ s : Int, ¬ DtE es ((es.length : Int), s) := fun s z => by
    have h : 0 ≤ (es.length : Int) ∧ (es.length : Int) < (es.length : Int) := z.lt
    omega
  have on1 : othE (es ++ [((p : Int), (q : Int))]) (es.length : Int) q = p := by
    rw [othE_new]
    show (p : Int) + q - q = p
    omega
  have on2 : othE (es ++ [((p : Int), (q : Int))]) (es.length : Int) p = q := by
    rw [othE_new]
    show (p : Int) + q - p = q
    omega
  have d' := dec.split (R' := NxR (es ++ [((p : Int), (q : Int))]) rs') (D' := DtE (es ++ [((p : Int), (q : Int))])) (m1 := ((es.length : Int), (p : Int))) (m2 := ((es.length : Int), (q : Int))) (nD _) (nD _) (fun z => by
      have : (p : Int) = q := congrArg Prod.snd z
      omega) (fun x y r n1 n2 => r.keep u.od fun s srow es' ey c => by
      by_cases sp : s = p
      · subst sp
        have : row = srow := Option.some.inj (ep.symm.trans es')
        subst this
        exact ⟨_, e1, c.insKeep np hi fun z => n1 (Prod.ext z ey)⟩
      by_cases sq : s = q
      · subst sq
        have : row2 = srow := Option.some.inj (eq.symm.trans es')
        subst this
        exact ⟨_, e2, c.insKeep nq hj fun z => n2 (Prod.ext z ey)⟩
      · exact ⟨srow, by rw [eo s sp sq]; exact es', c⟩)
    (fun x r => NxR.to u.od ep e1 r fun c => c.insLast np hi (u.od.nd _ (List.mem_of_getElem? ep)))
    ⟨q, _, e2, rfl, on1.symm, CS.insFirst nq hj⟩
    (fun x r => NxR.to u.od eq e2 r fun c => c.insLast nq hj (u.od.nd _ (List.mem_of_getElem? eq)))
    ⟨p, _, e1, rfl, on2.symm, CS.insFirst np hi⟩
    (fun x => DtE.app)
  refine ⟨_, od', d', fun r hr => ?_, fun e he => ?_, fun a b ha hb e => ?_, fun r h s hs e => ?_, fun r rw0 h ne => ?_⟩
  · rw [hl] at hr ⊢
    exact u.lr r hr
  · rcases List.mem_append.mp he with z | z
    · exact u.tie e z
    · rw [List.mem_singleton.mp z]; exact lpq
  · rw [hl] at ha hb
    exact (u.con a b ha hb e).mono fun _ => List.mem_append_left _
  · rw [hl] at hs
    have rp : r ≠ p := fun z => by
      rw [z, e1] at h
      have := congrArg List.length (Option.some.inj h)
      rw [insR_len] at this
      exact Nat.succ_ne_zero _ this
    have rq : r ≠ q := fun z => by
      rw [z, e2] at h
      have := congrArg List.length (Option.some.inj h)
      rw [insR_len] at this
      exact Nat.succ_ne_zero _ this
    rw [eo r rp rq] at h
    exact u.one r h s hs e
  · have old : plC lab rs.length (lab r) + fcC lab fs (lab r) = tcC lab es (lab r) + 2 := by
      by_cases rp : r = p
      · rw [rp]; exact u.eul p row ep np
      by_cases rq : r = q
      · rw [rq]; exact u.eul q row2 eq nq
      · rw [eo r rp rq] at h
        exact u.eul r rw0 h ne
    have h1 : hlC lab f = some (lab p) := hl0 f (ff ▸ hf0) _ (ff ▸ dp0)
    rw [fcC_perm pm, fcC_cons, h1] at old
    rw [hl, fcC_cons, fcC_cons, tcC_snoc]
    show plC lab rs.length (lab r) + (fcC lab rest (lab r) + (if some (lab q) = some (lab r) then 1 else 0) + (if some (lab p) = some (lab r) then 1 else 0)) = tcC lab es (lab r) + (if lab p = lab r then 1 else 0) + 2
    rw [← lpq]
    by_cases c : lab p = lab r
    · rw [if_pos (congrArg some c)] at old ⊢
      rw [if_pos c]
      omega
    · have c' : ¬ some (lab p) = some (lab r) := fun z => c (Option.some.inj z)
      rw [if_neg c'] at old ⊢
      rw [if_neg c]
      omega
end
/-! ### Euler's rule: a tie to a new place -/
theorem plC_one {lab : Int → Int} {n p : Nat} (hp : p < n) (h : ∀ q : Nat, q < n → lab q = lab p → q = p) : plC lab n (lab p) = 1 := by
  have e : plC lab n (lab p) = (List.range n).count p := by
    unfold plC
    rw [List.count_eq_countP]
    refine List.countP_congr fun q hq => ?_
    rw [decide_eq_true_iff, beq_iff_eq]
    exact ⟨h q (List.mem_range.mp hq), fun z => by rw [z]⟩
  rw [e, List.Nodup.count List.nodup_range, if_pos (List.mem_range.mpr hp)]
section
variable {es : List (Int × Int)} {rs rs' : List (List Int)} {lab : Int → Int} {fs : List (List Dt)} {p : Nat} {row : List Int} {i : Nat}
theorem Eul.leaf (u : Eul es rs lab fs) (od' : Ord rs' (es ++ [((p : Int), (rs.length : Int))])) (ep : rs[p]? = some row) (hi : i ≤ row.length) (hl : rs'.length = rs.length + 1) (e1 : rs'[p]? = some (insR row i es.length)) (e2 : rs'[rs.length]? = some [(es.length : Int)]) (eo : ∀ r, r < rs.length → r ≠ p → rs'[r]? = rs[r]?) : ∃ lab' fs', Eul (es ++ [((p : Int), (rs.length : Int))]) rs' lab' fs' := by
  have hp := (List.getElem?_eq_some_iff.mp ep).1
  have nx := u.od.nxLab u.tie
  have nD : ∀ s : Int, ¬ DtE es ((es.length : Int), s) := fun s z => by
    have h : 0 ≤ (es.length : Int) ∧ (es.length : Int) < (es.length : Int) := z.lt
    omega
  have on1 : othE (es ++ [((p : Int), (rs.length : Int))]) (es.length : Int) (rs.length : Nat) = p := by
    rw [othE_new]
    show (p : Int) + rs.length - rs.length = p
    omega
  have on2 : othE (es ++ [((p : Int), (rs.length : Int))]) (es.length : Int) p = (rs.length : Int) := by
    rw [othE_new]
    show (p : Int) + rs.length - p = rs.length
    omega
  have ag : ∀ r : Nat, r < rs.length → (fun x : Int => if x = (rs.length : Int) then lab p else lab x) r = lab r := fun r hr => by
    show (if (r : Int) = (rs.length : Int) then lab p else lab r) = lab r
    rw [if_neg (by omega)]
  have an : (fun x : Int => if x = (rs.length : Int) then lab p else lab x) (rs.length : Nat) = lab p := if_pos rfl
  generalize (fun x : Int => if x = (rs.length : Int) then lab p else lab x) = lab' at ag an
  have m12 : ((es.length : Int), (p : Int)) ≠ ((es.length : Int), (rs.length : Int)) := fun z => by
    have : (p : Int) = rs.length := congrArg Prod.snd z
    omega
  have kpx : ∀ x y : Dt, NxR es rs x y → (row ≠ [] → y ≠ (gC row i, (p : Int))) → NxR (es ++ [((p : Int), (rs.length : Int))]) rs' x y := fun x y r n1 => r.keep u.od fun s srow es' ey c => by
    by_cases sp : s = p
    · subst sp
      have : row = srow := Option.some.inj (ep.symm.trans es')
      subst this
      have ne : row ≠ [] := fun z => by
        have := c.mem.1
        rw [z] at this
        cases this
      exact ⟨_, e1, c.insKeep ne hi fun z => n1 ne (Prod.ext z ey)⟩
    · exact ⟨srow, by rw [eo s (List.getElem?_eq_some_iff.mp es').1 sp]; exact es', c⟩
  -- the faces, and how many
  have dec' : ∃ fs', Dec (NxR (es ++ [((p : Int), (rs.length : Int))]) rs') (DtE (es ++ [((p : Int), (rs.length : Int))])) fs' ∧ ∀ c, fcC lab' fs' c = fcC lab fs c + if row = [] ∧ lab p = c then 1 else 0 := by
    by_cases ne : row = []
    · have e1' : rs'[p]? = some [(es.length : Int)] := by
        rw [e1, ne]
        unfold insR
        rw [List.take_nil, List.drop_nil]
        rfl
      refine ⟨_, u.dec.first (R' := NxR (es ++ [((p : Int), (rs.length : Int))]) rs') (D' := DtE (es ++ [((p : Int), (rs.length : Int))])) (nD _) (nD _) m12 (fun x y r => kpx x y r fun z => (z ne).elim) ⟨rs.length, _, e2, rfl, on1.symm, CS.alone _⟩ ⟨p, _, e1', rfl, on2.symm, CS.alone _⟩ (fun x => DtE.app), fun c => ?_⟩
      rw [fcC_cons, fcC_ext (lab := lab) (lab' := lab') fun f hf x hx => u.dlab ag (u.din hf hx)]
      show fcC lab fs c + (if some (lab' p) = some c then 1 else 0) = _
      rw [ag p hp]
      by_cases z : lab p = c
      · rw [if_pos (congrArg some z), if_pos ⟨ne, z⟩]
      · rw [if_neg (fun w => z (Option.some.inj w)), if_neg (fun w => z w.2)]
    · have dp : DtE es (gC row i, (p : Int)) := by
        have hm : gC row i ∈ row := by
          unfold gC
          have l0 : 0 < row.length := List.length_pos_iff.mpr ne
          have := Nat.mod_lt i l0
          rw [List.getD_eq_getElem?_getD, List.getElem?_eq_getElem this]
          exact List.getElem_mem this
        obtain ⟨k, e, ek, ee, c⟩ := (u.od.mem p row ep _).mp hm
        exact ⟨k, e, ee, ek, c.imp (fun z => z.symm) fun z => z.symm⟩
      obtain ⟨f, ys, rest, pm, pf, dec⟩ := u.dec.front dp
      have hfm : f ∈ fs := pm.mem_iff.mpr List.mem_cons_self
      have hlf : hlC lab f = some (lab p) := (u.dec.cy f hfm).hl nx (pf.mem_iff.mpr List.mem_cons_self)
      refine ⟨_, dec.leaf (R' := NxR (es ++ [((p : Int), (rs.length : Int))]) rs') (D' := DtE (es ++ [((p : Int), (rs.length : Int))])) (m1 := ((es.length : Int), (p : Int))) (m2 := ((es.length : Int), (rs.length : Int))) (nD _) (nD _) m12 (fun x y r n1 => kpx x y r fun _ => n1) (fun x r => NxR.to u.od ep e1 r fun c => c.insLast ne hi (u.od.nd _ (List.mem_of_getElem? ep))) ⟨rs.length, _, e2, rfl, on1.symm, CS.alone _⟩ ⟨p, _, e1, rfl, on2.symm, CS.insFirst ne hi⟩ (fun x => DtE.app), fun c => ?_⟩
      rw [if_neg (fun w => ne w.1), Nat.add_zero, fcC_perm pm c, fcC_cons, fcC_cons, hlf]
      rw [fcC_ext (lab := lab) (lab' := lab') fun f' hf x hx => u.dlab ag (u.din (pm.mem_iff.mpr (List.mem_cons_of_mem _ hf)) hx)]
      show fcC lab rest c + (if some (lab' p) = some c then 1 else 0) = _
      rw [ag p hp]
  obtain ⟨fs', d', fc⟩ := dec'
  have tc : ∀ c, tcC lab' (es ++ [((p : Int), (rs.length : Int))]) c = tcC lab es c + if lab p = c then 1 else 0 := fun c => by
    rw [tcC_snoc, tcC_ext fun e he => (u.elab ag he).1]
    show tcC lab es c + (if lab' p = c then 1 else 0) = _
    rw [ag p hp]
  have pc : ∀ c, plC lab' rs'.length c = plC lab rs.length c + if lab p = c then 1 else 0 := fun c => by
    rw [hl, plC_succ, plC_ext ag, an]
  have conp : Cn (es ++ [((p : Int), (rs.length : Int))]) p (rs.length : Nat) := Cn.fwd (e := ((p : Int), (rs.length : Int))) (.refl _) (List.mem_append_right _ (List.mem_singleton.mpr rfl))
  have cono : ∀ a b : Nat, a < rs.length → b < rs.length → lab a = lab b → Cn (es ++ [((p : Int), (rs.length : Int))]) a b := fun a b ha hb e => (u.con a b ha hb e).mono fun _ => List.mem_append_left _
  refine ⟨lab', fs', od', d', fun r hr => ?_, fun e he => ?_, fun a b ha hb e => ?_, fun r h s hs e => ?_, fun r rw0 h ne => ?_⟩
  · rw [hl] at hr ⊢
    by_cases c : r < rs.length
    · rw [ag r c]
      have := u.lr r c
      omega
    · have := u.lr p hp
      rw [show r = rs.length by omega, an]
      omega
  · rcases List.mem_append.mp he with z | z
    · rw [(u.elab ag z).1, (u.elab ag z).2]
      exact u.tie e z
    · rw [List.mem_singleton.mp z]
      show lab' p = lab' (rs.length : Nat)
      rw [an, ag p hp]
  · rw [hl] at ha hb
    by_cases c : a < rs.length <;> by_cases d : b < rs.length
    · rw [ag a c, ag b d] at e
      exact cono a b c d e
    · have d' : b = rs.length := by omega
      subst d'
      rw [ag a c, an] at e
      exact (cono a p c hp e).trans conp
    · have c' : a = rs.length := by omega
      subst c'
      rw [an, ag b d] at e
      exact conp.symm.trans (cono p b hp d e)
    · have : a = b := by omega
      rw [this]
      exact .refl _
  · have h2 := (List.getElem?_eq_some_iff.mp h).1
    rw [hl] at hs h2
    have rn : r ≠ rs.length := fun z => by
      rw [z, e2] at h
      cases h
    have rp : r ≠ p := fun z => by
      rw [z, e1] at h
      have := congrArg List.length (Option.some.inj h)
      rw [insR_len] at this
      exact Nat.succ_ne_zero _ this
    have hr : r < rs.length := by omega
    rw [eo r hr rp] at h
    rw [ag r hr] at e
    by_cases d : s < rs.length
    · rw [ag s d] at e
      exact u.one r h s d e
    · rw [show s = rs.length by omega, an] at e
      exact (rp (u.one r h p hp e).symm).elim
  · rw [pc, fc, tc]
    by_cases c : lab p = lab' r
    · rw [← c, if_pos rfl]
      by_cases z : row = []
      · subst z
        rw [if_pos ⟨rfl, rfl⟩]
        have one := u.one p ep
        have t0 : tcC lab es (lab p) = 0 := by
          refine List.countP_eq_zero.mpr fun e he k => ?_
          have k' := of_decide_eq_true k
          have en := u.od.ends e he
          have e1' : e.1 = ((e.1.toNat : Nat) : Int) := by omega
          rw [e1'] at k'
          have := one _ (by omega) k'
          obtain ⟨kk, ek⟩ := List.getElem?_of_mem he
          have := (u.od.mem p [] ep (kk : Int)).mpr ⟨kk, e, rfl, ek, .inl (by omega)⟩
          cases this
        have f0 : fcC lab fs (lab p) = 0 := by
          refine List.countP_eq_zero.mpr fun f hf k => ?_
          have k' := of_decide_eq_true k
          obtain ⟨x, hx⟩ := (u.dec.cy f hf).ne
          rw [(u.dec.cy f hf).hl nx hx] at k'
          have k2 := Option.some.inj k'
          have dx := u.din hf hx
          have rg := dx.rng u.od
          have e1' : x.2 = ((x.2.toNat : Nat) : Int) := by omega
          rw [e1'] at k2
          have := one _ (by omega) k2
          obtain ⟨kk, e, ek, _, ce⟩ := dx
          have := (u.od.mem p [] ep (kk : Int)).mpr ⟨kk, e, rfl, ek, ce.imp (fun z => by omega) fun z => by omega⟩
          cases this
        rw [plC_one hp one, t0, f0]
      · rw [if_neg (fun w => z w.1)]
        have := u.eul p row ep z
        omega
    · rw [if_neg c, if_neg (fun w => c w.2)]
      have h2 := (List.getElem?_eq_some_iff.mp h).1
      rw [hl] at h2
      have rn : r ≠ rs.length := fun z => c (by rw [z, an])
      have hr : r < rs.length := by omega
      rw [ag r hr] at c
      have rp : r ≠ p := fun z => c (by rw [z])
      rw [eo r hr rp] at h
      have := u.eul r rw0 h ne
      rw [ag r hr]
      omega
end
/-! ### flats: corners of one face -/
inductive RchF (R : Dt → Dt → Prop) (a : Dt) : Dt → Prop
  | refl : RchF R a a
  | step {b c : Dt} : RchF R a b → R b c → RchF R a c
theorem RchF.face {R : Dt → Dt → Prop} {D : Dt → Prop} {fs : List (List Dt)} (fn : ∀ x y y', R x y → R x y' → y = y') (d : Dec R D fs) {a b : Dt} (h : RchF R a b) {f : List Dt} (hf : f ∈ fs) (ha : a ∈ f) : b ∈ f := by
  induction h with
  | refl => exact ha
  | step _ r ih =>
    obtain ⟨y, hy, r'⟩ := (d.cy f hf).next _ ih
    exact fn _ _ _ r r' ▸ hy
/-- a corner that is come to round the face of the first one. -/
def CrOk (es : List (Int × Int)) (rs : List (List Int)) (p0 at0 : Int) (row0 : List Int) (c : Int × Int) : Prop := ∃ rowc, rs[c.1.toNat]? = some rowc ∧ rowc ≠ [] ∧ 0 ≤ c.2 ∧ c.2 ≤ (rowc.length : Int) ∧ RchF (NxR es rs) (gC row0 at0.toNat, p0) (gC rowc c.2.toNat, c.1)
def spCorners : Sp := fun vs H Q _ => ∃ (T O : Addr) (p0 at0 : Int) (us : List V) (es : List (Int × Int)) (A : List Addr) (rs : List (List Int)), vs = [.ref T, .ref O, .int p0, .int at0] ∧ H T = some (.lst us) ∧ Paired (PrV H) us es ∧ H O = some (.lst (A.map V.ref)) ∧ Rw H A rs ∧ Ord rs es ∧ rs.length ≤ 200 ∧ es.length ≤ 200 ∧ (0 ≤ p0 ∧ p0 < (rs.length : Int)) ∧ (∃ row0, rs[p0.toNat]? = some row0 ∧ 0 ≤ at0 ∧ at0 ≤ (row0.length : Int)) ∧
  ∀ L ws cs H', Same H H' → H L = none → H' L = some (.lst ws) → Paired (PrV H') ws cs → (∀ c ∈ cs, ((0 ≤ c.1 ∧ c.1 < (rs.length : Int)) ∧ (0 ≤ c.2 ∧ c.2 ≤ 1000)) ∧ (c.1 ≠ p0 → ∃ row0, rs[p0.toNat]? = some row0 ∧ row0 ≠ [] ∧ CrOk es rs p0 at0 row0 c)) → cs.length ≤ 402 → Q (.ref L) H'
theorem in_flat (xs : List Int) : (xs.map V.int).all flatV = true := by
  rw [List.all_map, List.all_eq_true]
  intro x _
  rfl
section
variable {P : Program} {w : World} {K : PySem.W.Frag} {mg : Str → Option Value} {base : Heap}
set_option maxHeartbeats 2000000 in
theorem ok_l_corners {f : Addr} {fd : FuncData} (F : Fun K "_law_corners" "_law_corners" s_l_corners f fd) (M : Free mg) : FnOk P w K mg base CX0 1 f fd ["_law_ties", "_law_orders", "_law_place", "_law_at"] spCorners := by
  refine F.ok sc_l_corners (fun vs H Q E h => ?_) (fun cdv A outer s H vs Q E hr h => ?_)
  · obtain ⟨T, O, p0, at0, us, es, A, rs, rfl, _⟩ := h
    rfl
  · obtain ⟨T, O, p0, at0, us, es, A, rs, rfl, hT, hu, hO, hA, or_, nr, ne, hp0, ⟨row0, er0, ha0⟩, q⟩ := h
    refine ⟨_, (pss_cons (ps_set (i := 4) sc_l_corners.nd rfl (.inl rfl) (pe_lst pa_nil))
      (pss_cons (ps_set (i := 5) sc_l_corners.nd rfl (.inl rfl) (pe_tup (pa_cons (pv 2) (pa_cons (pv 3) pa_nil))))
      (pss_cons (ps_for PassesOwn.never rfl (pi_range1 (by rfl) M.range (pa_cons (pe_op op_add (pe_op op_mul pe_int (pe_callB call_len_seq (by rfl) M.len PySem.boot_len (pa_cons (pv 0) pa_nil))) pe_int) pa_nil)) (pg_name (i := 6) sc_l_corners.nd rfl (.inl rfl))
        (pss_cons (ps_expr (pe_bm PySem.F.plainAttrs_list PySem.F.slot_list_append PySem.F.type_list_append mt_append (pv 4) (pa_cons (pv 5) pa_nil)))
        (pss_cons (ps_if (pt_cmpR (op_eqE hr.units0) (pe_ix ix_list (pv 1) (pe_ix ix_tup (pv 5) pe_int (fun _ _ => rfl)) (fun _ _ => rfl)) (pe_lst pa_nil) (nomark _))
          (pss_one (ps_ret (pv 4)))
          pss_nil)
        (pss_cons (ps_set (i := 7) sc_l_corners.nd rfl (.inl rfl) (pe_ix ix_list (pe_ix ix_list (pv 1) (pe_ix ix_tup (pv 5) pe_int (fun _ _ => rfl)) (fun _ _ => rfl)) (pe_op op_mod (pe_ix ix_tup (pv 5) pe_int (fun _ _ => rfl)) (pe_callB call_len_seq (by rfl) M.len PySem.boot_len (pa_cons (pe_ix ix_list (pv 1) (pe_ix ix_tup (pv 5) pe_int (fun _ _ => rfl)) (fun _ _ => rfl)) pa_nil))) (fun _ _ => rfl)))
        (pss_cons (ps_set (i := 8) sc_l_corners.nd rfl (.inl rfl) (pe_op op_sub (pe_op op_add (pe_ix ix_tup (pe_ix ix_list (pv 0) (pv 7) (fun _ _ => rfl)) pe_int (fun _ _ => rfl)) (pe_ix ix_tup (pe_ix ix_list (pv 0) (pv 7) (fun _ _ => rfl)) pe_int (fun _ _ => rfl))) (pe_ix ix_tup (pv 5) pe_int (fun _ _ => rfl))))
        (pss_cons (ps_set (i := 5) sc_l_corners.nd rfl (.inl rfl) (pe_tup (pa_cons (pv 8) (pa_cons (pe_op op_add (pe_bm PySem.F.plainAttrs_list PySem.F.slot_list_index PySem.F.type_list_index mt_index (pe_ix ix_list (pv 1) (pv 8) (fun _ _ => rfl)) (pa_cons (pv 7) pa_nil)) pe_int) pa_nil))))
        (pss_one (ps_if (pt_cmpR (op_eqD hr.units) (pe_tup (pa_cons (pe_ix ix_tup (pv 5) pe_int (fun _ _ => rfl)) (pa_cons (pe_op op_mod (pe_ix ix_tup (pv 5) pe_int (fun _ _ => rfl)) (pe_callB call_len_seq (by rfl) M.len PySem.boot_len (pa_cons (pe_ix ix_list (pv 1) (pe_ix ix_tup (pv 5) pe_int (fun _ _ => rfl)) (fun _ _ => rfl)) pa_nil))) pa_nil))) (pe_tup (pa_cons (pv 2) (pa_cons (pe_op op_mod (pv 3) (pe_callB call_len_seq (by rfl) M.len PySem.boot_len (pa_cons (pe_ix ix_list (pv 1) (pv 2) (fun _ _ => rfl)) pa_nil))) pa_nil))) (nomark _))
          (pss_one (ps_ret (pv 4)))
          pss_nil))))))))
      (pss_one (ps_ret (pv 4)))))), ?_⟩
    have lA := hA.len
    have lu : us.length = es.length := Paired.length hu
    refine ⟨Nat.zero_le _, fun L nL => ?_⟩
    have sL := same_new (o := .lst []) nL
    have hL1 : (upd H L (.lst [])) L = some (.lst []) := upd_same
    generalize upd H L (.lst []) = H1 at sL hL1
    refine ⟨.int p0, rfl, .int at0, rfl, by show 2 ≤ sizeLine; decide, fun h0 n0 => ?_⟩
    have s0 := same_new (o := .tup [.int p0, .int at0]) n0
    have hh0 : (upd H1 h0 (.tup [.int p0, .int at0])) h0 = some (.tup [.int p0, .int at0]) := upd_same
    have hL2 := s0 _ _ hL1
    have s2 := sL.trans s0
    generalize upd H1 h0 (.tup [.int p0, .int at0]) = H2 at hh0 hL2 s2
    refine ⟨.ref T, rfl, T, us, rfl, .inl (SqL.of (s2 _ _ hT)), _, _, rfl, rfl, .inl ⟨by decide, by decide⟩, _, _, rfl, rfl, _, rfl, by omega, by omega, ?_⟩
    have row_of : ∀ {p : Int}, 0 ≤ p → p < (rs.length : Int) → ∃ (ra : Addr) (row : List Int), atI (A.map V.ref) p = some (.ref ra) ∧ rs[p.toNat]? = some row ∧ H ra = some (.lst (row.map V.int)) := fun {p} h0 h1 => by
      have hl : p.toNat < A.length := by omega
      have e := List.getElem?_eq_getElem hl
      obtain ⟨row, e1, e2⟩ := hA.each _ _ e
      refine ⟨_, row, ?_, e1, e2⟩
      have := atI_nat (xs := A.map V.ref) (j := p.toNat) (v := .ref A[p.toNat]) (by rw [List.getElem?_map, e]; rfl)
      rw [show ((p.toNat : Nat) : Int) = p by omega] at this
      exact this
    obtain ⟨r0, row0_, at0e, er0_, hr0⟩ := row_of hp0.1 hp0.2
    have : row0 = row0_ := Option.some.inj (er0.symm.trans er0_)
    subst this
    have lr0 := or_.row_len (List.mem_of_getElem? er0)
    refine for_range (lo := 0) (n := (2 * (us.length : Int) + 1).toNat) (fun i σ' H' => ∃ (h : Addr) (p a : Int) (y6 y7 y8 : Option V) (ws : List V) (cs : List (Int × Int)), σ' = [some (.ref T), some (.ref O), some (.int p0), some (.int at0), some (.ref L), some (.ref h), y6, y7, y8] ∧ H' h = some (.tup [.int p, .int a]) ∧ (0 ≤ p ∧ p < (rs.length : Int)) ∧ (0 ≤ a ∧ a ≤ 1000) ∧ (p = p0 ∨ row0 ≠ []) ∧ (row0 ≠ [] → CrOk es rs p0 at0 row0 (p, a)) ∧ H' L = some (.lst ws) ∧ Paired (PrV H') ws cs ∧ (∀ c ∈ cs, ((0 ≤ c.1 ∧ c.1 < (rs.length : Int)) ∧ (0 ≤ c.2 ∧ c.2 ≤ 1000)) ∧ (c.1 ≠ p0 → ∃ row0, rs[p0.toNat]? = some row0 ∧ row0 ≠ [] ∧ CrOk es rs p0 at0 row0 c)) ∧ cs.length = i ∧ Same H H') ⟨h0, p0, at0, none, none, none, [], [], rfl, hh0, hp0, ⟨ha0.1, by omega⟩, .inl rfl, fun n0 => ⟨row0, er0, n0, ha0.1, ha0.2, .refl⟩, hL2, .nil, fun c hc => (by cases hc), rfl, s2⟩ ?_ ?_
    · clear hL2 hh0 s2
      rintro i σ' H3 hi ⟨h, p, a, y6, y7, y8, ws, cs, rfl, hh, hp, ha, ne0, cr, hL3, hw, hc, lc, s3⟩
      have lw := Paired.length hw
      refine ⟨.ref L, rfl, .inl ⟨rfl, _, SqL.of hL3⟩, .ref h, rfl, L, _, _, rfl, rfl, hL3, small1000 (by omega), ?_⟩
      have tk := tk_lst (ys := ws ++ [.ref h]) hL3
      have hh4 := tk _ _ hh
      have s4 : Same H (upd H3 L (.lst (ws ++ [.ref h]))) := Same.mut s3 nL
      have hL4 : (upd H3 L (.lst (ws ++ [.ref h]))) L = some (.lst (ws ++ [.ref h])) := upd_same
      have hw4 : Paired (PrV (upd H3 L (.lst (ws ++ [.ref h])))) (ws ++ [.ref h]) (cs ++ [(p, a)]) := Paired.snoc (pr_tk tk hw) ⟨h, rfl, hh4⟩
      have hc4 : ∀ c ∈ cs ++ [(p, a)], ((0 ≤ c.1 ∧ c.1 < (rs.length : Int)) ∧ (0 ≤ c.2 ∧ c.2 ≤ 1000)) ∧ (c.1 ≠ p0 → ∃ row0, rs[p0.toNat]? = some row0 ∧ row0 ≠ [] ∧ CrOk es rs p0 at0 row0 c) := fun c hm => by
        rcases List.mem_append.mp hm with z | z
        · exact hc c z
        · rw [List.mem_singleton.mp z]
          refine ⟨⟨hp, ha⟩, fun z => ?_⟩
          have n0 := ne0.resolve_left z
          exact ⟨row0, er0, n0, cr n0⟩
      have lc4 : (cs ++ [(p, a)]).length = i + 1 := by simp [lc]
      generalize upd H3 L (.lst (ws ++ [.ref h])) = H4 at hh4 s4 hL4 hw4
      generalize ws ++ [.ref h] = ws4 at hL4 hw4
      generalize cs ++ [(p, a)] = cs4 at hw4 hc4 lc4
      obtain ⟨ra, row, e1, er, hra⟩ := row_of hp.1 hp.2
      refine ⟨.ref O, rfl, .ref h, rfl, h, _, 0, .int p, rfl, rfl, SqT.of hh4, rfl, O, _, p, .ref ra, rfl, rfl, SqL.of (s4 _ _ hO), e1, Nat.zero_le _, fun Z nZ => ⟨ra, Z, _, rfl, rfl, SqL.of (same_new nZ _ _ (s4 _ _ hra)), SqL.of upd_same, _, rfl, ?_⟩⟩
      have sZ := same_new (o := .lst []) nZ
      have hh5 := sZ _ _ hh4
      have hL5 := sZ _ _ hL4
      have hw5 := pr_tk (Same.tk sZ) hw4
      have s5 := s4.trans sZ
      generalize upd H4 Z (.lst []) = H5 at hh5 hL5 hw5 s5
      by_cases en : row = []
      · subst en
        exact ⟨.ref L, rfl, q L ws4 cs4 _ s5 nL hL5 hw5 hc4 (by omega)⟩
      rw [show (row.map V.int).isEmpty = false from by cases row; exact absurd rfl en; rfl]
      have hrm := List.mem_of_getElem? er
      have lrow := or_.row_len hrm
      have lpos := List.length_pos_iff.mpr en
      have am := mod_rng (a := a) (m := (row.length : Int)) (by omega)
      obtain ⟨x', x1, x2⟩ := getI (xs := row.map V.int) am.1 (by rw [List.length_map]; exact am.2)
      rw [List.getElem?_map] at x2
      obtain ⟨x, ex, rfl⟩ := Option.map_eq_some_iff.mp x2
      have xin := or_.row_in hrm x (List.mem_of_getElem? ex)
      obtain ⟨k, e, rfl, ek, pe⟩ := (or_.mem _ _ er x).mp (List.mem_of_getElem? ex)
      rw [show ((p.toNat : Nat) : Int) = p by omega] at pe
      have hO5 := s5 _ _ hO
      have hra5 := s5 _ _ hra
      refine ⟨.ref O, rfl, .ref h, rfl, h, _, 0, .int p, rfl, rfl, SqT.of hh5, rfl, O, _, p, .ref ra, rfl, rfl, SqL.of hO5, e1, .ref h, rfl, h, _, 1, .int a, rfl, rfl, SqT.of hh5, rfl, .ref O, rfl, .ref h, rfl, h, _, 0, .int p, rfl, rfl, SqT.of hh5, rfl, O, _, p, .ref ra, rfl, rfl, SqL.of hO5, e1, ra, _, rfl, .inl (SqL.of hra5), _, _, rfl, rfl, (by show (0 : Int) < (((row.map V.int).length : Nat) : Int); rw [List.length_map]; omega), ra, _, _, .int (k : Nat), rfl, rfl, SqL.of hra5, (by rw [List.length_map]; exact x1), ?_⟩
      obtain ⟨u, eu, c, rfl, hcc⟩ := Paired.at' hu ek
      have ends := or_.ends e (List.mem_of_getElem? ek)
      have hT5 := s5 _ _ hT
      have hc5 := s5 _ _ hcc
      refine ⟨.ref T, rfl, .int (k : Nat), rfl, T, us, _, .ref c, rfl, rfl, SqL.of hT5, atI_nat eu, c, _, 0, .int e.1, rfl, rfl, SqT.of hc5, rfl, .ref T, rfl, .int (k : Nat), rfl, T, us, _, .ref c, rfl, rfl, SqL.of hT5, atI_nat eu, c, _, 1, .int e.2, rfl, rfl, SqT.of hc5, rfl, _, _, rfl, rfl, .ref h, rfl, h, _, 0, .int p, rfl, rfl, SqT.of hh5, rfl, _, _, rfl, rfl, ?_⟩
      have th : 0 ≤ e.1 + e.2 - p ∧ e.1 + e.2 - p < (rs.length : Int) ∧ (e.1 = e.1 + e.2 - p ∨ e.2 = e.1 + e.2 - p) := by omega
      obtain ⟨th', hth⟩ : ∃ th', th' = e.1 + e.2 - p := ⟨_, rfl⟩
      rw [← hth] at th
      obtain ⟨rb, rowb, e1b, erb, hrb⟩ := row_of th.1 th.2.1
      have kb : ((k : Nat) : Int) ∈ rowb := (or_.mem _ _ erb _).mpr ⟨k, e, rfl, ek, by rw [show ((th'.toNat : Nat) : Int) = th' by omega]; exact th.2.2⟩
      have hrbm := List.mem_of_getElem? erb
      have lrowb := or_.row_len hrbm
      obtain ⟨jl, ej⟩ := List.getElem_of_mem kb
      obtain ⟨jl2, ej⟩ := ej
      have ndb := or_.nd rowb hrbm
      have hrb5 := s5 _ _ hrb
      refine ⟨.int th', by rw [hth]; rfl, .ref O, rfl, .int th', by rw [hth]; rfl, O, _, th', .ref rb, rfl, rfl, SqL.of hO5, e1b, .inl ⟨rfl, _, SqL.of hrb5⟩, .int (k : Nat), rfl, rb, _, .int (k : Nat), jl, .int (k : Nat), rfl, rfl, SqL.of hrb5, rfl, in_flat _, (by rw [List.getElem?_map, List.getElem?_eq_getElem jl2, ej]; rfl), (by show (((k : Nat) : Int) == ((k : Nat) : Int)) = true; simp), fun m z' hm ez => ?_, _, _, rfl, rfl, by show 2 ≤ sizeLine; decide, fun r nr => ?_⟩
      · rw [List.getElem?_map] at ez
        obtain ⟨z, ez2, rfl⟩ := Option.map_eq_some_iff.mp ez
        show (z == ((k : Nat) : Int)) = false
        rw [beq_eq_false_iff_ne]
        intro zk
        obtain ⟨ml, ez3⟩ := List.getElem?_eq_some_iff.mp ez2
        exact List.pairwise_iff_getElem.mp ndb m jl ml jl2 hm (by rw [ez3, ej, zk])
      · have sr := same_new (o := .tup [.int th', .int ((jl : Nat) + 1)]) nr
        have hr6 : (upd H5 r (.tup [.int th', .int ((jl : Nat) + 1)])) r = some (.tup [.int th', .int ((jl : Nat) + 1)]) := upd_same
        have hL6 := sr _ _ hL5
        have hw6 := pr_tk (Same.tk sr) hw5
        have s6 := s5.trans sr
        generalize upd H5 r (.tup [.int th', .int ((jl : Nat) + 1)]) = H6 at hr6 hL6 hw6 s6
        have hO6 := s6 _ _ hO
        have n0 : row0 ≠ [] := ne0.elim (fun z => by
          rw [z, er0] at er
          cases er
          exact en) id
        have l0 := List.length_pos_iff.mpr n0
        have lb : 0 < rowb.length := by omega
        refine ⟨.ref r, rfl, r, _, 0, .int th', rfl, rfl, SqT.of hr6, rfl, .ref r, rfl, r, _, 1, .int ((jl : Nat) + 1), rfl, rfl, SqT.of hr6, rfl, .ref O, rfl, .ref r, rfl, r, _, 0, .int th', rfl, rfl, SqT.of hr6, rfl, O, _, th', .ref rb, rfl, rfl, SqL.of hO6, e1b, rb, _, rfl, .inl (SqL.of (s6 _ _ hrb)), _, _, rfl, rfl, (by show (0 : Int) < (((rowb.map V.int).length : Nat) : Int); rw [List.length_map]; omega), by show 2 ≤ sizeLine; decide, fun c1 nc1 => ?_⟩
        have sc1 := same_new (o := .tup [.int th', .int (((jl : Nat) + 1) % (((rowb.map V.int).length : Nat) : Int))]) nc1
        refine ⟨.int p0, rfl, .int at0, rfl, .ref O, rfl, .int p0, rfl, O, _, p0, .ref r0, rfl, rfl, SqL.of (sc1 _ _ hO6), at0e, r0, _, rfl, .inl (SqL.of (sc1 _ _ (s6 _ _ hr0))), _, _, rfl, rfl, (by show (0 : Int) < (((row0.map V.int).length : Nat) : Int); rw [List.length_map]; omega), by show 2 ≤ sizeLine; decide, fun c2 nc2 => ?_⟩
        have sc2 := same_new (o := .tup [.int p0, .int (at0 % (((row0.map V.int).length : Nat) : Int))]) nc2
        have sc := sc1.trans sc2
        refine ⟨_, _, IntsV.dp (xs := [th', ((jl : Nat) + 1) % (((rowb.map V.int).length : Nat) : Int)]) ⟨c1, rfl, sc2 _ _ upd_same⟩, IntsV.dp (xs := [p0, at0 % (((row0.map V.int).length : Nat) : Int)]) ⟨c2, rfl, upd_same⟩, shaped_intsD _, shaped_intsD _, _, rfl, ite2 (fun _ => ?_) (fun _ => ?_)⟩
        · exact ⟨.ref L, rfl, q L ws4 cs4 _ (s6.trans sc) nL (sc _ _ hL6) (pr_tk (Same.tk sc) hw6) hc4 (by omega)⟩
        · have cr' : CrOk es rs p0 at0 row0 (th', ((jl : Nat) : Int) + 1) := by
            obtain ⟨rowc, erc, nc, c0, c1, rch⟩ := cr n0
            have : row = rowc := Option.some.inj (er.symm.trans erc)
            subst this
            have kx : gC row a.toNat = ((k : Nat) : Int) := by
              unfold gC
              rw [Int.toNat_emod ha.1 (by omega), Int.toNat_natCast] at ex
              rw [List.getD_eq_getElem?_getD, ex]
              rfl
            refine ⟨rowb, erb, List.ne_nil_of_length_pos lb, by show (0 : Int) ≤ ((jl : Nat) : Int) + 1; omega, by show ((jl : Nat) : Int) + 1 ≤ _; omega, .step rch ⟨th'.toNat, rowb, erb, by show th' = ((th'.toNat : Nat) : Int); omega, ?_, jl, jl2, ?_, ?_⟩⟩
            · show p = othE es (gC row a.toNat) ((th'.toNat : Nat) : Int)
              rw [kx]
              unfold othE
              rw [Int.toNat_natCast, List.getD_eq_getElem?_getD, ek]
              show p = e.1 + e.2 - ((th'.toNat : Nat) : Int)
              omega
            · show rowb[jl]? = some (gC row a.toNat)
              rw [kx, List.getElem?_eq_getElem jl2, ej]
            · show rowb[(jl + 1) % rowb.length]? = some (gC rowb (((jl : Nat) : Int) + 1).toNat)
              have l2 := Nat.mod_lt (jl + 1) lb
              unfold gC
              rw [show (((jl : Nat) : Int) + 1).toNat = jl + 1 by omega, List.getD_eq_getElem?_getD, List.getElem?_eq_getElem l2]
              rfl
          exact ⟨r, th', (jl : Nat) + 1, _, _, _, ws4, cs4, rfl, sc _ _ hr6, ⟨th.1, th.2.1⟩, by omega, .inr n0, fun _ => cr', sc _ _ hL6, pr_tk (Same.tk sc) hw6, hc4, lc4, s6.trans sc⟩
    · rintro σ' H3 ⟨h, p, a, y6, y7, y8, ws, cs, rfl, hh, hp, ha, ne0, cr, hL3, hw, hc, lc, s3⟩
      exact ⟨.ref L, rfl, q L ws cs _ s3 nL hL3 hw hc (by omega)⟩
end
/-! ### flats: what is grown keeps Euler's rule -/
def EulE (es : List (Int × Int)) (rs : List (List Int)) : Prop := ∃ lab fs, Eul es rs lab fs
theorem EulE.od {es : List (Int × Int)} {rs : List (List Int)} (u : EulE es rs) : Ord rs es := by
  obtain ⟨_, _, h⟩ := u
  exact h.od
theorem EulE.start : EulE [] [[]] := ⟨_, _, Eul.start⟩
theorem EulE.more {es : List (Int × Int)} {rs : List (List Int)} (u : EulE es rs) : EulE es (rs ++ [[]]) := by
  obtain ⟨_, _, h⟩ := u
  exact ⟨_, _, h.more⟩
theorem EulE.link {es : List (Int × Int)} {rs rs' : List (List Int)} {pl ql aq bq m : Int} {row row2 : List Int} (u : EulE es rs) (p0 : 0 ≤ pl) (q0 : 0 ≤ ql) (od' : Ord rs' (es ++ [(pl, ql)])) (ne : pl.toNat ≠ ql.toNat) (ep : rs[pl.toNat]? = some row) (a1 : aq ≤ (row.length : Int)) (cr : ∃ row0, rs[pl.toNat]? = some row0 ∧ row0 ≠ [] ∧ CrOk es rs pl aq row0 (ql, bq)) (eq : rs[ql.toNat]? = some row2) (hm : m = (es.length : Int)) (hr : rs' = (rs.set pl.toNat (insR row aq.toNat m)).set ql.toNat (insR row2 bq.toNat m)) : EulE (es ++ [(pl, ql)]) rs' := by
  obtain ⟨lab, fs, h⟩ := u
  obtain ⟨row0, er0, n0, rowc, erc, nc, b0, b1, rch⟩ := cr
  have : row = row0 := Option.some.inj (ep.symm.trans er0)
  subst this
  have : row2 = rowc := Option.some.inj (eq.symm.trans erc)
  subst this
  have hp := (List.getElem?_eq_some_iff.mp ep).1
  have hq := (List.getElem?_eq_some_iff.mp eq).1
  have ip : ((pl.toNat : Nat) : Int) = pl := by omega
  have iq : ((ql.toNat : Nat) : Int) = ql := by omega
  have dp : DtE es (gC row aq.toNat, pl) := by
    have hm : gC row aq.toNat ∈ row := by
      unfold gC
      have := Nat.mod_lt aq.toNat (List.length_pos_iff.mpr n0)
      rw [List.getD_eq_getElem?_getD, List.getElem?_eq_getElem this]
      exact List.getElem_mem this
    obtain ⟨k, e, ek, ee, c⟩ := (h.od.mem _ row ep _).mp hm
    rw [ip] at c
    exact ⟨k, e, ee, ek, c.imp (fun z => z.symm) fun z => z.symm⟩
  obtain ⟨f0, hf0, dp0⟩ := (h.dec.all _).mp dp
  have dq0 := rch.face (NxR.fn h.od) h.dec hf0 dp0
  have b1' : bq ≤ (row2.length : Int) := b1
  obtain ⟨fs', h'⟩ := h.link (p := pl.toNat) (q := ql.toNat) (i := aq.toNat) (j := bq.toNat) (rs' := rs') (by rw [ip, iq]; exact od') ne ep eq n0 nc (by omega) (by omega) (by rw [hr, List.length_set, List.length_set]) (by rw [hr, List.getElem?_set_ne ne.symm, List.getElem?_set_self hp, hm]) (by rw [hr, List.getElem?_set_self (by rw [List.length_set]; exact hq), hm]) (fun r r1 r2 => by rw [hr, List.getElem?_set_ne r2.symm, List.getElem?_set_ne r1.symm]) f0 hf0 (by rw [ip]; exact dp0) (by rw [iq]; exact dq0)
  rw [ip, iq] at h'
  exact ⟨_, _, h'⟩
theorem EulE.leaf {es : List (Int × Int)} {rs rs' : List (List Int)} {pl aq m : Int} {row : List Int} (u : EulE es rs) (p0 : 0 ≤ pl) (od' : Ord rs' (es ++ [(pl, (rs.length : Int))])) (ep : rs[pl.toNat]? = some row) (a1 : aq ≤ (row.length : Int)) (hm : m = (es.length : Int)) (hr : rs' = (rs ++ [[m]]).set pl.toNat (insR row aq.toNat m)) : EulE (es ++ [(pl, (rs.length : Int))]) rs' := by
  obtain ⟨lab, fs, h⟩ := u
  have hp := (List.getElem?_eq_some_iff.mp ep).1
  have ip : ((pl.toNat : Nat) : Int) = pl := by omega
  have ll : (rs ++ [[m]]).length = rs.length + 1 := by rw [List.length_append, List.length_singleton]
  obtain ⟨lab', fs', h'⟩ := h.leaf (p := pl.toNat) (i := aq.toNat) (rs' := rs') (by rw [ip]; exact od') ep (by omega) (by rw [hr, List.length_set, ll]) (by rw [hr, List.getElem?_set_self (by omega), hm]) (by rw [hr, List.getElem?_set_ne (by omega), List.getElem?_append_right (Nat.le_refl _), Nat.sub_self, hm]; rfl) (fun r r1 r2 => by rw [hr, List.getElem?_set_ne r2.symm, List.getElem?_append_left r1])
  rw [ip] at h'
  exact ⟨_, _, h'⟩
def spGrown : Sp := fun vs H Q _ => ∃ (d : Addr) (most many : Int), vs = [.ref d, .int most, .int many] ∧ FDk H d ∧ 1 ≤ most ∧ most ≤ 50 ∧ 0 ≤ many ∧ many ≤ 100 ∧
  ∀ r T O us es A rs H', H' r = some (.tup [.ref T, .ref O]) → Grw H d T O H' us es A rs → Ord rs es → EulE es rs → 1 ≤ rs.length → (rs.length : Int) ≤ most → (es.length : Int) ≤ many → Q (.ref r) H'
section
variable {P : Program} {w : World} {K : PySem.W.Frag} {mg : Str → Option Value} {base : Heap}
set_option maxHeartbeats 4000000 in
theorem ok_l_grown {f : Addr} {fd : FuncData} (F : Fun K "_law_grown" "_law_grown" s_l_grown f fd) (M : Free mg) (D_l_take : Df P w K mg base 2 "_law_take" ["_law_deck_here", "_law_most"] spTake) (D_l_corners : Df P w K mg base 1 "_law_corners" ["_law_ties", "_law_orders", "_law_place", "_law_at"] spCorners) : FnOk P w K mg base CX0 3 f fd ["_law_deck_here", "_law_most", "_law_many_ties"] spGrown := by
  obtain ⟨f_l_take, fd_l_take, G_l_take, g_l_take, k_l_take, b_l_take⟩ := D_l_take
  obtain ⟨f_l_corners, fd_l_corners, G_l_corners, g_l_corners, k_l_corners, b_l_corners⟩ := D_l_corners
  refine F.ok sc_l_grown (fun vs H Q E h => ?_) (fun cdv A outer s H vs Q E hr h => ?_)
  · obtain ⟨d, most, many, rfl, _⟩ := h
    rfl
  · obtain ⟨d, most, many, rfl, hD, m0, m1, y0, y1, q⟩ := h
    refine ⟨_, (pss_cons (ps_set (i := 3) sc_l_grown.nd rfl (.inl rfl) (pe_lst (pa_cons (pe_lst pa_nil) pa_nil)))
      (pss_cons (ps_set (i := 4) sc_l_grown.nd rfl (.inl rfl) (pe_lst pa_nil))
      (pss_cons (ps_for PassesOwn.never rfl (pi_range1 (by rfl) M.range (pa_cons (pv 2) pa_nil)) (pg_name (i := 5) sc_l_grown.nd rfl (.inl rfl))
        (pss_cons (ps_set (i := 6) sc_l_grown.nd rfl (.inl rfl) (pe_call G_l_take (hr.mono (by decide)) (by rfl) g_l_take k_l_take b_l_take .nil pass0 (pa_cons (pv 0) (pa_cons pe_int pa_nil))))
        (pss_cons (ps_set (i := 7) sc_l_grown.nd rfl (.inr rfl) (pe_call G_l_take (hr.mono (by decide)) (by rfl) g_l_take k_l_take b_l_take .nil pass0 (pa_cons (pv 0) (pa_cons (pe_callB call_len_seq (by rfl) M.len PySem.boot_len (pa_cons (pv 3) pa_nil)) pa_nil))))
        (pss_cons (ps_set (i := 8) sc_l_grown.nd rfl (.inl rfl) (pe_call G_l_take (hr.mono (by decide)) (by rfl) g_l_take k_l_take b_l_take .nil pass0 (pa_cons (pv 0) (pa_cons (pe_op op_add (pe_callB call_len_seq (by rfl) M.len PySem.boot_len (pa_cons (pe_ix ix_list (pv 3) (pv 7) (fun _ _ => rfl)) pa_nil)) pe_int) pa_nil))))
        (pss_one (ps_if (PW.pt (pw_and (pt_cmpR op_lt (pv 6) pe_int (nomark _)) (pw_and1 (pt_cmpR op_lt (pe_callB call_len_seq (by rfl) M.len PySem.boot_len (pa_cons (pv 3) pa_nil)) (pv 1) (nomark _)))))
          (pss_cons (ps_expr (pe_bm PySem.F.plainAttrs_list PySem.F.slot_list_append PySem.F.type_list_append mt_append (pv 3) (pa_cons (pe_lst (pa_cons (pe_callB call_len_seq (by rfl) M.len PySem.boot_len (pa_cons (pv 4) pa_nil)) pa_nil)) pa_nil)))
          (pss_cons (ps_expr (pe_bm PySem.F.plainAttrs_list PySem.F.slot_list_insert PySem.F.type_list_insert mt_insert (pe_ix ix_list (pv 3) (pv 7) (fun _ _ => rfl)) (pa_cons (pv 8) (pa_cons (pe_callB call_len_seq (by rfl) M.len PySem.boot_len (pa_cons (pv 4) pa_nil)) pa_nil))))
          (pss_one (ps_expr (pe_bm PySem.F.plainAttrs_list PySem.F.slot_list_append PySem.F.type_list_append mt_append (pv 4) (pa_cons (pe_tup (pa_cons (pv 7) (pa_cons (pe_op op_sub (pe_callB call_len_seq (by rfl) M.len PySem.boot_len (pa_cons (pv 3) pa_nil)) pe_int) pa_nil))) pa_nil))))))
          (pss_one (ps_if (PW.pt (pw_and (pt_cmpR op_eq (pv 6) pe_int (nomark _)) (pw_and1 (pt_cmpR op_lt (pe_callB call_len_seq (by rfl) M.len PySem.boot_len (pa_cons (pv 3) pa_nil)) (pv 1) (nomark _)))))
            (pss_one (ps_expr (pe_bm PySem.F.plainAttrs_list PySem.F.slot_list_append PySem.F.type_list_append mt_append (pv 3) (pa_cons (pe_lst pa_nil) pa_nil))))
            (pss_cons (ps_setLc (i := 9) (own := [("_law_corner", 10)]) (g := (gName 10)) (te := tVar 10) rfl sc_l_grown.nd rfl rfl (sw_true rfl rfl rfl (by decide +kernel)) (pi_list (pe_call G_l_corners (hr.mono (by decide)) (by rfl) g_l_corners k_l_corners b_l_corners .nil pass0 (pa_cons (pv 4) (pa_cons (pv 3) (pa_cons (pv 7) (pa_cons (pv 8) pa_nil)))))) (blkOk_by (N := N_l_grown) (sc := defScope s_l_grown) (own := [("_law_corner", 10)]) (by decide +kernel)) (fun _ _ _ _ _ => (pg_name (i := 10) sc_l_grown.nd rfl (.inl rfl))) (fun _ _ _ _ _ => (pts_one (pt_cmpR op_ne (pe_ix (r := rIxT K) ix_tup (pv 10) pe_int (fun _ _ => rfl)) (pv 7) (nomark _)))) (fun _ _ _ _ _ => (pv 10)))
            (pss_one (ps_if (pt_cmpR (op_neE hr.units0) (pv 9) (pe_lst pa_nil) (nomark _))
              (pss_cons (ps_asg (pe_ix ix_list (pv 9) (pe_call G_l_take (hr.mono (by decide)) (by rfl) g_l_take k_l_take b_l_take .nil pass0 (pa_cons (pv 0) (pa_cons (pe_callB call_len_seq (by rfl) M.len PySem.boot_len (pa_cons (pv 9) pa_nil)) pa_nil))) (fun _ _ => rfl)) (pg_tup rfl (pgs_cons (pg_name (i := 11) sc_l_grown.nd rfl (.inl rfl)) (pgs_cons (pg_name (i := 12) sc_l_grown.nd rfl (.inl rfl)) pgs_nil))))
              (pss_cons (ps_expr (pe_bm PySem.F.plainAttrs_list PySem.F.slot_list_insert PySem.F.type_list_insert mt_insert (pe_ix ix_list (pv 3) (pv 7) (fun _ _ => rfl)) (pa_cons (pv 8) (pa_cons (pe_callB call_len_seq (by rfl) M.len PySem.boot_len (pa_cons (pv 4) pa_nil)) pa_nil))))
              (pss_cons (ps_expr (pe_bm PySem.F.plainAttrs_list PySem.F.slot_list_insert PySem.F.type_list_insert mt_insert (pe_ix ix_list (pv 3) (pv 11) (fun _ _ => rfl)) (pa_cons (pv 12) (pa_cons (pe_callB call_len_seq (by rfl) M.len PySem.boot_len (pa_cons (pv 4) pa_nil)) pa_nil))))
              (pss_one (ps_expr (pe_bm PySem.F.plainAttrs_list PySem.F.slot_list_append PySem.F.type_list_append mt_append (pv 4) (pa_cons (pe_tup (pa_cons (pv 7) (pa_cons (pv 11) pa_nil))) pa_nil)))))))
              pss_nil)))))))))))
      (pss_one (ps_ret (pe_tup (pa_cons (pv 4) (pa_cons (pv 3) pa_nil)))))))), ?_⟩
    refine ⟨Nat.zero_le _, fun a0 na0 => ⟨by show 1 ≤ sizeLine; decide, fun O nO => ?_⟩⟩
    have s1 := same_new (o := .lst []) na0
    have ha1 : (upd H a0 (.lst [])) a0 = some (.lst (([] : List Int).map V.int)) := upd_same
    have a0d : a0 ≠ d := hD.ned na0
    have D1 := hD.same s1
    have nO0 : H O = none := s1.free nO
    have aO : a0 ≠ O := ne_of_none ha1 nO
    generalize upd H a0 (.lst []) = H1 at s1 ha1 D1 nO
    have s2 := same_new (o := .lst [.ref a0]) nO
    have hO2 : (upd H1 O (.lst [.ref a0])) O = some (.lst (([a0] : List Addr).map V.ref)) := upd_same
    have Od : O ≠ d := D1.ned nO
    have D2 := D1.same s2
    have ha2 := s2 _ _ ha1
    have s12 := s1.trans s2
    generalize upd H1 O (.lst [.ref a0]) = H2 at s2 hO2 D2 ha2 s12
    refine ⟨Nat.zero_le _, fun T nT => ?_⟩
    have s3 := same_new (o := .lst []) nT
    have g3 : Grw H d T O (upd H2 T (.lst [])) [] [] [a0] [[]] := ⟨upd_same, .nil, s3 _ _ hO2, ⟨by simp, rfl, fun j a e => by
      match j, e with
      | 0, e => cases e; exact ⟨[], rfl, s3 _ _ ha2⟩
      | j + 1, e => simp at e⟩, (ne_of_none hO2 nT).symm, D2.ned nT, Od, s12.free nT, nO0, fun a ha => by
        rw [List.mem_singleton.mp ha]
        exact ⟨ne_of_none ha2 nT, aO, a0d, na0⟩, D2.same s3, Same.kp (s12.trans s3)⟩
    generalize upd H2 T (.lst []) = H3 at g3
    refine ⟨.int many, rfl, many, rfl, by omega, by omega, ?_⟩
    refine for_range (lo := 0) (n := many.toNat) (fun i σ' H' => ∃ (y5 y6 y7 y8 y9 y11 y12 : Option V) (us : List V) (es : List (Int × Int)) (A : List Addr) (rs : List (List Int)), σ' = [some (.ref d), some (.int most), some (.int many), some (.ref O), some (.ref T), y5, y6, y7, y8, y9, none, y11, y12] ∧ Grw H d T O H' us es A rs ∧ EulE es rs ∧ 1 ≤ rs.length ∧ (rs.length : Int) ≤ most ∧ es.length ≤ i) ⟨none, none, none, none, none, none, none, [], [], [a0], [[]], rfl, g3, EulE.start, by simp, by simp; omega, by simp⟩ ?_ ?_
    · rintro i σ' H4 hi ⟨y5, y6, y7, y8, y9, y11, y12, us, es, A, rs, rfl, g, ue, r1, r50, le⟩
      have od := ue.od
      have lA := g.rw'.len
      have lu : us.length = es.length := Paired.length g.hu
      have lAm : (A.map V.ref).length = rs.length := by rw [List.length_map, lA]
      -- way
      refine ⟨.ref d, rfl, d, 8, rfl, g.dk, by decide, by decide, fun wy H5 w0 w1 D5 K5 => ?_⟩
      have g := g.take K5 D5
      -- place
      refine ⟨.ref d, rfl, .ref O, rfl, O, _, rfl, .inl (SqL.of g.hO), d, _, rfl, g.dk, by omega, by omega, fun pl H6 p0 p1 D6 K6 => ?_⟩
      rw [lAm] at p1
      have g := g.take K6 D6
      obtain ⟨ra, row, ea, e1, er, hra⟩ := g.at' p0 p1
      have lrow := od.row_len (List.mem_of_getElem? er)
      -- at
      refine ⟨.ref d, rfl, .ref O, rfl, .int pl, rfl, O, _, pl, .ref ra, rfl, rfl, SqL.of g.hO, e1, ra, _, rfl, .inl (SqL.of hra), _, _, rfl, rfl, d, _, rfl, g.dk, by omega, by rw [List.length_map]; omega, fun at' H7 t0 t1 D7 K7 => ?_⟩
      rw [List.length_map] at t1
      have g := g.take K7 D7
      obtain ⟨ra', row', ea', e1', er', hra⟩ := g.at' p0 p1
      rw [ea] at ea'
      cases ea'
      rw [er] at er'
      cases er'
      clear e1' D5 K5 D6 K6 D7 K7
      refine ⟨.int wy, rfl, _, _, rfl, rfl, _, rfl, ?_⟩
      by_cases h1 : wy < 4
      · rw [decide_eq_true h1]
        refine ⟨.ref O, rfl, O, _, rfl, .inl (SqL.of g.hO), .int most, rfl, _, _, rfl, rfl, _, rfl, ?_⟩
        by_cases h2 : (((A.map V.ref).length : Nat) : Int) < most
        · rw [decide_eq_true h2]
          refine ⟨.ref O, rfl, .inl ⟨rfl, _, SqL.of g.hO⟩, .ref T, rfl, T, us, rfl, .inl (SqL.of g.hT), by show 1 ≤ sizeLine; decide, fun p np => ?_⟩
          have g1 := g.more np [((us.length : Nat) : Int)]
          refine ⟨O, _, _, rfl, rfl, same_new np _ _ g.hO, small1000 (by omega), ?_⟩
          have hx : upd (upd H7 p (.lst ([((us.length : Nat) : Int)].map V.int))) O (.lst (A.map V.ref ++ [.ref p])) = upd (upd H7 p (.lst [V.int (us.length : Nat)])) O (.lst (A.map V.ref ++ [.ref p])) := rfl
          rw [hx] at g1
          generalize upd (upd H7 p (.lst [V.int (us.length : Nat)])) O (.lst (A.map V.ref ++ [.ref p])) = H8 at g1
          obtain ⟨ra1, row1, ea1, e11, er1, hra1⟩ := g1.at' (p := pl) p0 (by rw [List.length_append]; show pl < ((rs.length + 1 : Nat) : Int); omega)
          have er1' := er1
          rw [List.getElem?_append_left (by omega), er] at er1'
          cases er1'
          refine ⟨.ref O, rfl, .int pl, rfl, O, _, pl, .ref ra1, rfl, rfl, SqL.of g1.hO, e11, .inl ⟨rfl, _, SqL.of hra1⟩, .int at', rfl, .ref T, rfl, T, us, rfl, .inl (SqL.of g1.hT), ra1, _, at', _, rfl, rfl, hra1, small1000 (by rw [List.length_map]; omega), t0, by omega, ?_⟩
          rw [insR_map]
          have g2 := g1.row ea1 hra1 (insR row at'.toNat (us.length : Nat))
          generalize upd H8 ra1 (.lst ((insR row at'.toNat (us.length : Nat)).map V.int)) = H9 at g2
          refine ⟨.ref T, rfl, .inl ⟨rfl, _, SqL.of g2.hT⟩, .int pl, rfl, .ref O, rfl, O, _, rfl, .inl (SqL.of g2.hO), _, _, rfl, rfl, by show 2 ≤ sizeLine; decide, fun c nc => ?_⟩
          have sc := same_new (o := .tup [.int pl, .int ((((A ++ [p]).map V.ref).length : Nat) - 1)]) nc
          have g3 := (g2.same sc).tie (c := c) upd_same
          refine ⟨T, us, _, rfl, rfl, (g2.same sc).hT, small1000 (by omega), ?_⟩
          have el : ((((A ++ [p]).map V.ref).length : Nat) : Int) - 1 = (rs.length : Int) := by
            rw [List.length_map, List.length_append, lA]
            show (((rs.length + 1 : Nat)) : Int) - 1 = _
            omega
          refine ⟨_, _, _, _, _, _, _, us ++ [.ref c], _, A ++ [p], _, rfl, g3, ?_, by rw [List.length_set, List.length_append]; show 1 ≤ _ + 1; omega, by rw [List.length_set, List.length_append]; show (((rs.length + 1 : Nat)) : Int) ≤ most; omega, by rw [List.length_append]; show _ + 1 ≤ _; omega⟩
          rw [el]
          have no : ∀ {r : List Int}, r ∈ rs → ((us.length : Nat) : Int) ∉ r := fun hr z => by
            have := (od.row_in hr _ z).2
            omega
          have lk := od.more.link (rs' := (rs ++ [[((us.length : Nat) : Int)]]).set pl.toNat (insR row at'.toNat (us.length : Nat))) (p := pl.toNat) (q := rs.length) (by rw [List.length_set, List.length_append, List.length_append]; rfl) (by rw [List.length_append]; show _ < _ + 1; omega) (by rw [List.length_append]; show _ < _ + 1; omega) (by omega) (fun i' row' e' => ?_)
          · rw [show ((pl.toNat : Nat) : Int) = pl by omega] at lk
            exact ue.leaf (m := ((us.length : Nat) : Int)) p0 lk er (by omega) (by rw [lu]) rfl
          · by_cases c2 : pl.toNat = i'
            · subst c2
              rw [List.getElem?_set_self (by rw [List.length_append]; show _ < _ + 1; omega)] at e'
              cases e'
              exact ⟨row, by rw [List.getElem?_append_left (by omega)]; exact er, fun _ => ⟨fun x => by rw [insR_mem, lu], insR_nd (od.nd _ (List.mem_of_getElem? er)) (no (List.mem_of_getElem? er))⟩, fun z => (z (.inl rfl)).elim⟩
            · rw [List.getElem?_set_ne c2] at e'
              by_cases c3 : i' < rs.length
              · rw [List.getElem?_append_left c3] at e'
                exact ⟨row', by rw [List.getElem?_append_left c3]; exact e', fun z => (z.elim (fun y => c2 y.symm) fun y => by omega).elim, fun _ => rfl⟩
              · have hl := (List.getElem?_eq_some_iff.mp e').1
                rw [List.length_append] at hl
                have hl : i' < rs.length + 1 := hl
                obtain rfl : i' = rs.length := by omega
                rw [List.getElem?_append_right (Nat.le_refl _), Nat.sub_self] at e'
                cases e'
                exact ⟨[], by rw [List.getElem?_append_right (Nat.le_refl _), Nat.sub_self]; rfl, fun _ => ⟨fun x => by rw [← lu]; simp, by simp⟩, fun z => (z (.inr rfl)).elim⟩
        · rw [decide_eq_false h2]
          refine ⟨.int wy, rfl, rfl, false, (by rw [dec_intF, decide_eq_false (show ¬ wy = 4 by omega)]), ?_⟩
          refine ⟨.ref T, rfl, .ref O, rfl, .int pl, rfl, .int at', rfl, T, O, pl, at', us, es, A, rs, rfl, g.hT, g.hu, g.hO, g.rw', od, by omega, by omega, ⟨p0, p1⟩, ⟨row, er, t0, by omega⟩, fun L ws cs H8 s8 nL hL hw hc lc => ?_⟩
          have lw := Paired.length hw
          refine ⟨L, rfl, ⟨ws, SqL.of hL⟩, fun Z nZ => ?_⟩
          refine lc_list (xs := ws) (fun j H' => ∃ (us' : List V) (cs' : List (Int × Int)), H' Z = some (.lst us') ∧ Paired (PrV H') us' cs' ∧ (∀ c ∈ cs', c.1 ≠ pl ∧ (0 ≤ c.1 ∧ c.1 < (rs.length : Int)) ∧ (0 ≤ c.2 ∧ c.2 ≤ 1000) ∧ ∃ row0, rs[pl.toNat]? = some row0 ∧ row0 ≠ [] ∧ CrOk es rs pl at' row0 c) ∧ us'.length ≤ j ∧ Same H8 H') ⟨[], [], upd_same, .nil, fun c hc => (by cases hc), Nat.le_refl _, same_new nZ⟩ (fun j H' _ h => by
            obtain ⟨_, _, _, _, _, _, s⟩ := h
            exact SqL.of (s _ _ hL)) ?_ ?_
          · rintro j x H9 ex ⟨us', cs', hZ, hu', hc', lu', s9⟩
            have jl := (List.getElem?_eq_some_iff.mp ex).1
            obtain ⟨q0, eq0, c, rfl, hcc⟩ := Paired.at hw ex
            refine ⟨rfl, .ref c, rfl, c, _, 0, .int q0.1, rfl, rfl, SqT.of (s9 _ _ hcc), rfl, .int pl, rfl, rfl, _, rfl, ?_⟩
            rw [dec_intF]
            by_cases e : q0.1 = pl
            · rw [decide_eq_true e]
              exact ⟨us', cs', hZ, hu', hc', by omega, s9⟩
            · rw [decide_eq_false e]
              have tk := tk_lst (ys := us' ++ [.ref c]) hZ
              refine ⟨.ref c, rfl, _, hZ, small1000 (by omega), us' ++ [.ref c], cs' ++ [q0], upd_same, Paired.snoc (pr_tk tk hu') ⟨c, rfl, tk _ _ (s9 _ _ hcc)⟩, fun z hz => ?_, by rw [List.length_append]; show _ + 1 ≤ _; omega, Same.mut s9 nZ⟩
              rcases List.mem_append.mp hz with h | h
              · exact hc' z h
              · rw [List.mem_singleton.mp h]
                exact ⟨e, (hc q0 (List.mem_of_getElem? eq0)).1.1, (hc q0 (List.mem_of_getElem? eq0)).1.2, (hc q0 (List.mem_of_getElem? eq0)).2 e⟩
          · rintro H9 ⟨us', cs', hZ, hu', hc', lu', s9⟩
            have g9 := (g.same s8).same s9
            refine ⟨.ref Z, rfl, Nat.zero_le _, fun E nE => ⟨Z, E, _, rfl, rfl, SqL.of (same_new nE _ _ hZ), SqL.of upd_same, _, rfl, ?_⟩⟩
            have sE := same_new (o := .lst []) nE
            have gE := g9.same sE
            have hZE := sE _ _ hZ
            have huE := pr_tk (Same.tk sE) hu'
            generalize upd H9 E (.lst []) = H10 at gE hZE huE
            by_cases en : us' = []
            · rw [en]
              exact ⟨_, _, _, _, _, _, _, us, es, A, rs, rfl, gE, ue, r1, r50, by omega⟩
            · rw [show (!us'.isEmpty) = true from by cases us'; exact absurd rfl en; rfl]
              have lpos := List.length_pos_iff.mpr en
              have Zd : Z ≠ d := (g.dk.same s8).ned nZ
              refine ⟨.ref Z, rfl, .ref d, rfl, .ref Z, rfl, Z, us', rfl, .inl (SqL.of hZE), d, _, rfl, gE.dk, by omega, by omega, fun v H11 v0 v1 D11 K11 => ?_⟩
              have g11 := gE.take K11 D11
              have hu11 := pr_tk (gE.dk.tk K11) huE
              obtain ⟨u, e2, e3⟩ := getI v0 v1
              obtain ⟨q0, eq0, c, rfl, hcc⟩ := Paired.at hu11 e3
              obtain ⟨qn, qb, qa, qcr⟩ := hc' q0 (List.mem_of_getElem? eq0)
              refine ⟨Z, us', v, .ref c, rfl, rfl, SqL.of (K11 _ _ Zd Zd hZE), e2, c, _, rfl, SqT.of hcc, rfl, _, _, rfl, _, _, rfl, rfl, ?_⟩
              clear gE g9 hu11 huE hZE hcc D11 K11
              obtain ⟨ra1, row1, ea1, e11, er1, hra1⟩ := g11.at' p0 p1
              rw [er] at er1
              cases er1
              refine ⟨.ref O, rfl, .int pl, rfl, O, _, pl, .ref ra1, rfl, rfl, SqL.of g11.hO, e11, .inl ⟨rfl, _, SqL.of hra1⟩, .int at', rfl, .ref T, rfl, T, us, rfl, .inl (SqL.of g11.hT), ra1, _, at', _, rfl, rfl, hra1, small1000 (by rw [List.length_map]; omega), t0, by omega, ?_⟩
              rw [insR_map]
              have g12 := g11.row ea1 hra1 (insR row at'.toNat (us.length : Nat))
              generalize upd H11 ra1 (.lst ((insR row at'.toNat (us.length : Nat)).map V.int)) = H12 at g12
              obtain ⟨rb, rowb, eb, e1b, erb, hrb⟩ := g12.at' qb.1 (by rw [List.length_set]; exact qb.2)
              have ne1 : pl.toNat ≠ q0.1.toNat := by omega
              have erb' := erb
              rw [List.getElem?_set_ne ne1] at erb'
              have lrb := od.row_len (List.mem_of_getElem? erb')
              refine ⟨.ref O, rfl, .int q0.1, rfl, O, _, q0.1, .ref rb, rfl, rfl, SqL.of g12.hO, e1b, .inl ⟨rfl, _, SqL.of hrb⟩, .int q0.2, rfl, .ref T, rfl, T, us, rfl, .inl (SqL.of g12.hT), rb, _, q0.2, _, rfl, rfl, hrb, small1000 (by rw [List.length_map]; omega), qa.1, by omega, ?_⟩
              rw [insR_map]
              have g13 := g12.row eb hrb (insR rowb q0.2.toNat (us.length : Nat))
              generalize upd H12 rb (.lst ((insR rowb q0.2.toNat (us.length : Nat)).map V.int)) = H13 at g13
              refine ⟨.ref T, rfl, .inl ⟨rfl, _, SqL.of g13.hT⟩, .int pl, rfl, .int q0.1, rfl, by show 2 ≤ sizeLine; decide, fun c' nc => ?_⟩
              have sc := same_new (o := .tup [.int pl, .int q0.1]) nc
              have g14 := (g13.same sc).tie (c := c') upd_same
              refine ⟨T, us, _, rfl, rfl, (g13.same sc).hT, small1000 (by omega), ?_⟩
              refine ⟨_, _, _, _, _, _, _, us ++ [.ref c'], es ++ [(pl, q0.1)], A, _, rfl, g14, ?_, by rw [List.length_set, List.length_set]; exact r1, by rw [List.length_set, List.length_set]; exact r50, by rw [List.length_append]; show _ + 1 ≤ _; omega⟩
              have lk := od.link (rs' := (rs.set pl.toNat (insR row at'.toNat (us.length : Nat))).set q0.1.toNat (insR rowb q0.2.toNat (us.length : Nat))) (p := pl.toNat) (q := q0.1.toNat) (by rw [List.length_set, List.length_set]) (by omega) (by omega) ne1 (fun i' row' e' => ?_)
              · rw [show ((pl.toNat : Nat) : Int) = pl by omega, show ((q0.1.toNat : Nat) : Int) = q0.1 by omega] at lk
                exact ue.link (m := ((us.length : Nat) : Int)) p0 qb.1 lk ne1 er (by omega) qcr erb' (by rw [lu]) rfl
              · have no : ∀ {r : List Int}, r ∈ rs → ((us.length : Nat) : Int) ∉ r := fun hr z => by
                  have := (od.row_in hr _ z).2
                  omega
                by_cases c1 : q0.1.toNat = i'
                · subst c1
                  rw [List.getElem?_set_self (by rw [List.length_set]; omega)] at e'
                  cases e'
                  refine ⟨rowb, erb', fun _ => ⟨fun x => by rw [insR_mem, lu], insR_nd (od.nd _ (List.mem_of_getElem? erb')) (no (List.mem_of_getElem? erb'))⟩, fun z => (z (.inr rfl)).elim⟩
                · rw [List.getElem?_set_ne c1] at e'
                  by_cases c2 : pl.toNat = i'
                  · subst c2
                    rw [List.getElem?_set_self (by omega)] at e'
                    cases e'
                    exact ⟨row, er, fun _ => ⟨fun x => by rw [insR_mem, lu], insR_nd (od.nd _ (List.mem_of_getElem? er)) (no (List.mem_of_getElem? er))⟩, fun z => (z (.inl rfl)).elim⟩
                  · rw [List.getElem?_set_ne c2] at e'
                    exact ⟨row', e', fun z => (z.elim (fun y => c2 y.symm) fun y => c1 y.symm).elim, fun _ => rfl⟩
      · rw [decide_eq_false h1]
        by_cases h3 : wy = 4
        · refine ⟨.int wy, rfl, rfl, true, (by rw [dec_intF, decide_eq_true h3]), ?_⟩
          refine ⟨.ref O, rfl, O, _, rfl, .inl (SqL.of g.hO), .int most, rfl, _, _, rfl, rfl, _, rfl, ?_⟩
          by_cases h2 : (((A.map V.ref).length : Nat) : Int) < most
          · rw [decide_eq_true h2]
            refine ⟨.ref O, rfl, .inl ⟨rfl, _, SqL.of g.hO⟩, Nat.zero_le _, fun p np => ?_⟩
            refine ⟨O, _, _, rfl, rfl, same_new np _ _ g.hO, small1000 (by omega), ?_⟩
            exact ⟨_, _, _, _, _, _, _, us, es, A ++ [p], rs ++ [[]], rfl, g.more np [], ue.more, by rw [List.length_append]; show 1 ≤ _ + 1; omega, by rw [List.length_append]; show (((rs.length + 1 : Nat)) : Int) ≤ most; omega, by omega⟩
          · rw [decide_eq_false h2]
            refine ⟨.ref T, rfl, .ref O, rfl, .int pl, rfl, .int at', rfl, T, O, pl, at', us, es, A, rs, rfl, g.hT, g.hu, g.hO, g.rw', od, by omega, by omega, ⟨p0, p1⟩, ⟨row, er, t0, by omega⟩, fun L ws cs H8 s8 nL hL hw hc lc => ?_⟩
            have lw := Paired.length hw
            refine ⟨L, rfl, ⟨ws, SqL.of hL⟩, fun Z nZ => ?_⟩
            refine lc_list (xs := ws) (fun j H' => ∃ (us' : List V) (cs' : List (Int × Int)), H' Z = some (.lst us') ∧ Paired (PrV H') us' cs' ∧ (∀ c ∈ cs', c.1 ≠ pl ∧ (0 ≤ c.1 ∧ c.1 < (rs.length : Int)) ∧ (0 ≤ c.2 ∧ c.2 ≤ 1000) ∧ ∃ row0, rs[pl.toNat]? = some row0 ∧ row0 ≠ [] ∧ CrOk es rs pl at' row0 c) ∧ us'.length ≤ j ∧ Same H8 H') ⟨[], [], upd_same, .nil, fun c hc => (by cases hc), Nat.le_refl _, same_new nZ⟩ (fun j H' _ h => by
              obtain ⟨_, _, _, _, _, _, s⟩ := h
              exact SqL.of (s _ _ hL)) ?_ ?_
            · rintro j x H9 ex ⟨us', cs', hZ, hu', hc', lu', s9⟩
              have jl := (List.getElem?_eq_some_iff.mp ex).1
              obtain ⟨q0, eq0, c, rfl, hcc⟩ := Paired.at hw ex
              refine ⟨rfl, .ref c, rfl, c, _, 0, .int q0.1, rfl, rfl, SqT.of (s9 _ _ hcc), rfl, .int pl, rfl, rfl, _, rfl, ?_⟩
              rw [dec_intF]
              by_cases e : q0.1 = pl
              · rw [decide_eq_true e]
                exact ⟨us', cs', hZ, hu', hc', by omega, s9⟩
              · rw [decide_eq_false e]
                have tk := tk_lst (ys := us' ++ [.ref c]) hZ
                refine ⟨.ref c, rfl, _, hZ, small1000 (by omega), us' ++ [.ref c], cs' ++ [q0], upd_same, Paired.snoc (pr_tk tk hu') ⟨c, rfl, tk _ _ (s9 _ _ hcc)⟩, fun z hz => ?_, by rw [List.length_append]; show _ + 1 ≤ _; omega, Same.mut s9 nZ⟩
                rcases List.mem_append.mp hz with h | h
                · exact hc' z h
                · rw [List.mem_singleton.mp h]
                  exact ⟨e, (hc q0 (List.mem_of_getElem? eq0)).1.1, (hc q0 (List.mem_of_getElem? eq0)).1.2, (hc q0 (List.mem_of_getElem? eq0)).2 e⟩
            · rintro H9 ⟨us', cs', hZ, hu', hc', lu', s9⟩
              have g9 := (g.same s8).same s9
              refine ⟨.ref Z, rfl, Nat.zero_le _, fun E nE => ⟨Z, E, _, rfl, rfl, SqL.of (same_new nE _ _ hZ), SqL.of upd_same, _, rfl, ?_⟩⟩
              have sE := same_new (o := .lst []) nE
              have gE := g9.same sE
              have hZE := sE _ _ hZ
              have huE := pr_tk (Same.tk sE) hu'
              generalize upd H9 E (.lst []) = H10 at gE hZE huE
              by_cases en : us' = []
              · rw [en]
                exact ⟨_, _, _, _, _, _, _, us, es, A, rs, rfl, gE, ue, r1, r50, by omega⟩
              · rw [show (!us'.isEmpty) = true from by cases us'; exact absurd rfl en; rfl]
                have lpos := List.length_pos_iff.mpr en
                have Zd : Z ≠ d := (g.dk.same s8).ned nZ
                refine ⟨.ref Z, rfl, .ref d, rfl, .ref Z, rfl, Z, us', rfl, .inl (SqL.of hZE), d, _, rfl, gE.dk, by omega, by omega, fun v H11 v0 v1 D11 K11 => ?_⟩
                have g11 := gE.take K11 D11
                have hu11 := pr_tk (gE.dk.tk K11) huE
                obtain ⟨u, e2, e3⟩ := getI v0 v1
                obtain ⟨q0, eq0, c, rfl, hcc⟩ := Paired.at hu11 e3
                obtain ⟨qn, qb, qa, qcr⟩ := hc' q0 (List.mem_of_getElem? eq0)
                refine ⟨Z, us', v, .ref c, rfl, rfl, SqL.of (K11 _ _ Zd Zd hZE), e2, c, _, rfl, SqT.of hcc, rfl, _, _, rfl, _, _, rfl, rfl, ?_⟩
                clear gE g9 hu11 huE hZE hcc D11 K11
                obtain ⟨ra1, row1, ea1, e11, er1, hra1⟩ := g11.at' p0 p1
                rw [er] at er1
                cases er1
                refine ⟨.ref O, rfl, .int pl, rfl, O, _, pl, .ref ra1, rfl, rfl, SqL.of g11.hO, e11, .inl ⟨rfl, _, SqL.of hra1⟩, .int at', rfl, .ref T, rfl, T, us, rfl, .inl (SqL.of g11.hT), ra1, _, at', _, rfl, rfl, hra1, small1000 (by rw [List.length_map]; omega), t0, by omega, ?_⟩
                rw [insR_map]
                have g12 := g11.row ea1 hra1 (insR row at'.toNat (us.length : Nat))
                generalize upd H11 ra1 (.lst ((insR row at'.toNat (us.length : Nat)).map V.int)) = H12 at g12
                obtain ⟨rb, rowb, eb, e1b, erb, hrb⟩ := g12.at' qb.1 (by rw [List.length_set]; exact qb.2)
                have ne1 : pl.toNat ≠ q0.1.toNat := by omega
                have erb' := erb
                rw [List.getElem?_set_ne ne1] at erb'
                have lrb := od.row_len (List.mem_of_getElem? erb')
                refine ⟨.ref O, rfl, .int q0.1, rfl, O, _, q0.1, .ref rb, rfl, rfl, SqL.of g12.hO, e1b, .inl ⟨rfl, _, SqL.of hrb⟩, .int q0.2, rfl, .ref T, rfl, T, us, rfl, .inl (SqL.of g12.hT), rb, _, q0.2, _, rfl, rfl, hrb, small1000 (by rw [List.length_map]; omega), qa.1, by omega, ?_⟩
                rw [insR_map]
                have g13 := g12.row eb hrb (insR rowb q0.2.toNat (us.length : Nat))
                generalize upd H12 rb (.lst ((insR rowb q0.2.toNat (us.length : Nat)).map V.int)) = H13 at g13
                refine ⟨.ref T, rfl, .inl ⟨rfl, _, SqL.of g13.hT⟩, .int pl, rfl, .int q0.1, rfl, by show 2 ≤ sizeLine; decide, fun c' nc => ?_⟩
                have sc := same_new (o := .tup [.int pl, .int q0.1]) nc
                have g14 := (g13.same sc).tie (c := c') upd_same
                refine ⟨T, us, _, rfl, rfl, (g13.same sc).hT, small1000 (by omega), ?_⟩
                refine ⟨_, _, _, _, _, _, _, us ++ [.ref c'], es ++ [(pl, q0.1)], A, _, rfl, g14, ?_, by rw [List.length_set, List.length_set]; exact r1, by rw [List.length_set, List.length_set]; exact r50, by rw [List.length_append]; show _ + 1 ≤ _; omega⟩
                have lk := od.link (rs' := (rs.set pl.toNat (insR row at'.toNat (us.length : Nat))).set q0.1.toNat (insR rowb q0.2.toNat (us.length : Nat))) (p := pl.toNat) (q := q0.1.toNat) (by rw [List.length_set, List.length_set]) (by omega) (by omega) ne1 (fun i' row' e' => ?_)
                · rw [show ((pl.toNat : Nat) : Int) = pl by omega, show ((q0.1.toNat : Nat) : Int) = q0.1 by omega] at lk
                  exact ue.link (m := ((us.length : Nat) : Int)) p0 qb.1 lk ne1 er (by omega) qcr erb' (by rw [lu]) rfl
                · have no : ∀ {r : List Int}, r ∈ rs → ((us.length : Nat) : Int) ∉ r := fun hr z => by
                    have := (od.row_in hr _ z).2
                    omega
                  by_cases c1 : q0.1.toNat = i'
                  · subst c1
                    rw [List.getElem?_set_self (by rw [List.length_set]; omega)] at e'
                    cases e'
                    refine ⟨rowb, erb', fun _ => ⟨fun x => by rw [insR_mem, lu], insR_nd (od.nd _ (List.mem_of_getElem? erb')) (no (List.mem_of_getElem? erb'))⟩, fun z => (z (.inr rfl)).elim⟩
                  · rw [List.getElem?_set_ne c1] at e'
                    by_cases c2 : pl.toNat = i'
                    · subst c2
                      rw [List.getElem?_set_self (by omega)] at e'
                      cases e'
                      exact ⟨row, er, fun _ => ⟨fun x => by rw [insR_mem, lu], insR_nd (od.nd _ (List.mem_of_getElem? er)) (no (List.mem_of_getElem? er))⟩, fun z => (z (.inl rfl)).elim⟩
                    · rw [List.getElem?_set_ne c2] at e'
                      exact ⟨row', e', fun z => (z.elim (fun y => c2 y.symm) fun y => c1 y.symm).elim, fun _ => rfl⟩
        · refine ⟨.int wy, rfl, rfl, false, (by rw [dec_intF, decide_eq_false h3]), ?_⟩
          refine ⟨.ref T, rfl, .ref O, rfl, .int pl, rfl, .int at', rfl, T, O, pl, at', us, es, A, rs, rfl, g.hT, g.hu, g.hO, g.rw', od, by omega, by omega, ⟨p0, p1⟩, ⟨row, er, t0, by omega⟩, fun L ws cs H8 s8 nL hL hw hc lc => ?_⟩
          have lw := Paired.length hw
          refine ⟨L, rfl, ⟨ws, SqL.of hL⟩, fun Z nZ => ?_⟩
          refine lc_list (xs := ws) (fun j H' => ∃ (us' : List V) (cs' : List (Int × Int)), H' Z = some (.lst us') ∧ Paired (PrV H') us' cs' ∧ (∀ c ∈ cs', c.1 ≠ pl ∧ (0 ≤ c.1 ∧ c.1 < (rs.length : Int)) ∧ (0 ≤ c.2 ∧ c.2 ≤ 1000) ∧ ∃ row0, rs[pl.toNat]? = some row0 ∧ row0 ≠ [] ∧ CrOk es rs pl at' row0 c) ∧ us'.length ≤ j ∧ Same H8 H') ⟨[], [], upd_same, .nil, fun c hc => (by cases hc), Nat.le_refl _, same_new nZ⟩ (fun j H' _ h => by
            obtain ⟨_, _, _, _, _, _, s⟩ := h
            exact SqL.of (s _ _ hL)) ?_ ?_
          · rintro j x H9 ex ⟨us', cs', hZ, hu', hc', lu', s9⟩
            have jl := (List.getElem?_eq_some_iff.mp ex).1
            obtain ⟨q0, eq0, c, rfl, hcc⟩ := Paired.at hw ex
            refine ⟨rfl, .ref c, rfl, c, _, 0, .int q0.1, rfl, rfl, SqT.of (s9 _ _ hcc), rfl, .int pl, rfl, rfl, _, rfl, ?_⟩
            rw [dec_intF]
            by_cases e : q0.1 = pl
            · rw [decide_eq_true e]
              exact ⟨us', cs', hZ, hu', hc', by omega, s9⟩
            · rw [decide_eq_false e]
              have tk := tk_lst (ys := us' ++ [.ref c]) hZ
              refine ⟨.ref c, rfl, _, hZ, small1000 (by omega), us' ++ [.ref c], cs' ++ [q0], upd_same, Paired.snoc (pr_tk tk hu') ⟨c, rfl, tk _ _ (s9 _ _ hcc)⟩, fun z hz => ?_, by rw [List.length_append]; show _ + 1 ≤ _; omega, Same.mut s9 nZ⟩
              rcases List.mem_append.mp hz with h | h
              · exact hc' z h
              · rw [List.mem_singleton.mp h]
                exact ⟨e, (hc q0 (List.mem_of_getElem? eq0)).1.1, (hc q0 (List.mem_of_getElem? eq0)).1.2, (hc q0 (List.mem_of_getElem? eq0)).2 e⟩
          · rintro H9 ⟨us', cs', hZ, hu', hc', lu', s9⟩
            have g9 := (g.same s8).same s9
            refine ⟨.ref Z, rfl, Nat.zero_le _, fun E nE => ⟨Z, E, _, rfl, rfl, SqL.of (same_new nE _ _ hZ), SqL.of upd_same, _, rfl, ?_⟩⟩
            have sE := same_new (o := .lst []) nE
            have gE := g9.same sE
            have hZE := sE _ _ hZ
            have huE := pr_tk (Same.tk sE) hu'
            generalize upd H9 E (.lst []) = H10 at gE hZE huE
            by_cases en : us' = []
            · rw [en]
              exact ⟨_, _, _, _, _, _, _, us, es, A, rs, rfl, gE, ue, r1, r50, by omega⟩
            · rw [show (!us'.isEmpty) = true from by cases us'; exact absurd rfl en; rfl]
              have lpos := List.length_pos_iff.mpr en
              have Zd : Z ≠ d := (g.dk.same s8).ned nZ
              refine ⟨.ref Z, rfl, .ref d, rfl, .ref Z, rfl, Z, us', rfl, .inl (SqL.of hZE), d, _, rfl, gE.dk, by omega, by omega, fun v H11 v0 v1 D11 K11 => ?_⟩
              have g11 := gE.take K11 D11
              have hu11 := pr_tk (gE.dk.tk K11) huE
              obtain ⟨u, e2, e3⟩ := getI v0 v1
              obtain ⟨q0, eq0, c, rfl, hcc⟩ := Paired.at hu11 e3
              obtain ⟨qn, qb, qa, qcr⟩ := hc' q0 (List.mem_of_getElem? eq0)
              refine ⟨Z, us', v, .ref c, rfl, rfl, SqL.of (K11 _ _ Zd Zd hZE), e2, c, _, rfl, SqT.of hcc, rfl, _, _, rfl, _, _, rfl, rfl, ?_⟩
              clear gE g9 hu11 huE hZE hcc D11 K11
              obtain ⟨ra1, row1, ea1, e11, er1, hra1⟩ := g11.at' p0 p1
              rw [er] at er1
              cases er1
              refine ⟨.ref O, rfl, .int pl, rfl, O, _, pl, .ref ra1, rfl, rfl, SqL.of g11.hO, e11, .inl ⟨rfl, _, SqL.of hra1⟩, .int at', rfl, .ref T, rfl, T, us, rfl, .inl (SqL.of g11.hT), ra1, _, at', _, rfl, rfl, hra1, small1000 (by rw [List.length_map]; omega), t0, by omega, ?_⟩
              rw [insR_map]
              have g12 := g11.row ea1 hra1 (insR row at'.toNat (us.length : Nat))
              generalize upd H11 ra1 (.lst ((insR row at'.toNat (us.length : Nat)).map V.int)) = H12 at g12
              obtain ⟨rb, rowb, eb, e1b, erb, hrb⟩ := g12.at' qb.1 (by rw [List.length_set]; exact qb.2)
              have ne1 : pl.toNat ≠ q0.1.toNat := by omega
              have erb' := erb
              rw [List.getElem?_set_ne ne1] at erb'
              have lrb := od.row_len (List.mem_of_getElem? erb')
              refine ⟨.ref O, rfl, .int q0.1, rfl, O, _, q0.1, .ref rb, rfl, rfl, SqL.of g12.hO, e1b, .inl ⟨rfl, _, SqL.of hrb⟩, .int q0.2, rfl, .ref T, rfl, T, us, rfl, .inl (SqL.of g12.hT), rb, _, q0.2, _, rfl, rfl, hrb, small1000 (by rw [List.length_map]; omega), qa.1, by omega, ?_⟩
              rw [insR_map]
              have g13 := g12.row eb hrb (insR rowb q0.2.toNat (us.length : Nat))
              generalize upd H12 rb (.lst ((insR rowb q0.2.toNat (us.length : Nat)).map V.int)) = H13 at g13
              refine ⟨.ref T, rfl, .inl ⟨rfl, _, SqL.of g13.hT⟩, .int pl, rfl, .int q0.1, rfl, by show 2 ≤ sizeLine; decide, fun c' nc => ?_⟩
              have sc := same_new (o := .tup [.int pl, .int q0.1]) nc
              have g14 := (g13.same sc).tie (c := c') upd_same
              refine ⟨T, us, _, rfl, rfl, (g13.same sc).hT, small1000 (by omega), ?_⟩
              refine ⟨_, _, _, _, _, _, _, us ++ [.ref c'], es ++ [(pl, q0.1)], A, _, rfl, g14, ?_, by rw [List.length_set, List.length_set]; exact r1, by rw [List.length_set, List.length_set]; exact r50, by rw [List.length_append]; show _ + 1 ≤ _; omega⟩
              have lk := od.link (rs' := (rs.set pl.toNat (insR row at'.toNat (us.length : Nat))).set q0.1.toNat (insR rowb q0.2.toNat (us.length : Nat))) (p := pl.toNat) (q := q0.1.toNat) (by rw [List.length_set, List.length_set]) (by omega) (by omega) ne1 (fun i' row' e' => ?_)
              · rw [show ((pl.toNat : Nat) : Int) = pl by omega, show ((q0.1.toNat : Nat) : Int) = q0.1 by omega] at lk
                exact ue.link (m := ((us.length : Nat) : Int)) p0 qb.1 lk ne1 er (by omega) qcr erb' (by rw [lu]) rfl
              · have no : ∀ {r : List Int}, r ∈ rs → ((us.length : Nat) : Int) ∉ r := fun hr z => by
                  have := (od.row_in hr _ z).2
                  omega
                by_cases c1 : q0.1.toNat = i'
                · subst c1
                  rw [List.getElem?_set_self (by rw [List.length_set]; omega)] at e'
                  cases e'
                  refine ⟨rowb, erb', fun _ => ⟨fun x => by rw [insR_mem, lu], insR_nd (od.nd _ (List.mem_of_getElem? erb')) (no (List.mem_of_getElem? erb'))⟩, fun z => (z (.inr rfl)).elim⟩
                · rw [List.getElem?_set_ne c1] at e'
                  by_cases c2 : pl.toNat = i'
                  · subst c2
                    rw [List.getElem?_set_self (by omega)] at e'
                    cases e'
                    exact ⟨row, er, fun _ => ⟨fun x => by rw [insR_mem, lu], insR_nd (od.nd _ (List.mem_of_getElem? er)) (no (List.mem_of_getElem? er))⟩, fun z => (z (.inl rfl)).elim⟩
                  · rw [List.getElem?_set_ne c2] at e'
                    exact ⟨row', e', fun z => (z.elim (fun y => c2 y.symm) fun y => c1 y.symm).elim, fun _ => rfl⟩
    · rintro σ' H4 ⟨y5, y6, y7, y8, y9, y11, y12, us, es, A, rs, rfl, g, ue, r1, r50, le⟩
      have od := ue.od
      refine ⟨.ref T, rfl, .ref O, rfl, by show 2 ≤ sizeLine; decide, fun r nr => ?_⟩
      exact q r T O us es A rs _ upd_same (g.same (same_new nr)) od ue r1 r50 (by omega)
end
/-! ### flats: sorted(d), the keys of d pairs of ints -/
def kPr (H : Hp) (v : Value) : Int × Int := match v with
  | .ref t => (match H t with
    | some (.tup [.int x, .int y]) => (x, y)
    | _ => (0, 0))
  | _ => (0, 0)
section
variable {X : Cx}
theorem call_sortedDP (hcalm : X.calm = true) : CallR X (.builtin "sorted") (fun xs H Q => ∃ (a : Addr) (kvs : List (List Key × V)) (bs : List St2), xs = [.ref a] ∧ H a = some (.dT kvs) ∧ Paired (BhV H) kvs bs ∧
    ∀ (ys : List V) (zs : List (Int × Int)) (p : Addr), Paired (PrV H) ys zs → zs.Perm (bs.map (·.1)) → zs.Pairwise (fun x y => SrtO.lexB y x = false) → H p = none → Q (.ref p) (upd H p (.lst ys))) := by
  intro pins s σ H xs us Q I r q
  obtain ⟨a, kvs, bs, ex, hd, hb, q⟩ := q
  subst ex
  obtain ⟨u, eu, rx⟩ := vals1 r
  subst eu
  cases rx
  obtain ⟨z, lo, ms, pr, o', es, ep, ho, hx, hdt, he, _⟩ := (show ObjOk X.prog X.w H s.heap a (.dT kvs) from I.hok a _ hd)
  have hraw : s.heap.DictRaw a es ep := ⟨o', ho, hx, hdt⟩
  have lE : es.size = kvs.length := by
    have l1 : es.size = ms.length := size_of_entries he
    have l2 : kvs.length = ms.length := Paired.length pr
    omega
  have lB : kvs.length = bs.length := Paired.length hb
  have ent : ∀ (i : Nat) (b : St2), bs[i]? = some b → ∃ (en : DictEntry) (t : Addr), es[i]? = some en ∧ en.key = .ref t ∧ H t = some (.tup [.int b.1.1, .int b.1.2]) := fun i b e => by
    obtain ⟨kv, ekv, h1, _⟩ := Paired.at' hb e
    obtain ⟨m, hm, e1, e2, _⟩ := paired_get pr ekv
    have g := entry_at he i
    rw [hm] at g
    rw [h1] at e2
    exact ⟨_, m.2.1, g, rfl, e2⟩
  refine Calls.call_function_entry PyProof.Rows.kind_sorted PyProof.Rows.plain_sorted PyProof.Rows.entry_sorted (PyProof.Rows.args_sorted1 _) ?_
  unfold Builtin.«sorted»
  refine wpAny_bind (m := checkCount "sorted" 1 1 _) (wpAny_pure ?_)
  refine wpAny_bind (PySem.W.kdu_collect (A := X.A.in1) (KdlSrc.rawDict lo) (I.ok.hd hcalm) hraw (by rw [lE]; exact z) fun h' tk acc hk hacc => ?_)
  have hal : acc.toList.length = bs.length := by rw [Array.length_toList, hacc.1, lE, lB]
  have each : ∀ (i : Nat) (b : St2), bs[i]? = some b → ∃ t : Addr, acc.toList[i]? = some (.ref t) ∧ H t = some (.tup [.int b.1.1, .int b.1.2]) := fun i b e => by
    obtain ⟨en, t, e1, e2, e3⟩ := ent i b e
    have il := (List.getElem?_eq_some_iff.mp e).1
    have ea := List.getElem?_eq_getElem (show i < acc.toList.length by omega)
    obtain ⟨hi, hv⟩ := hacc.2 i acc.toList[i] (by rw [← Array.getElem?_toList]; exact ea)
    have e4 : es[i] = en := by
      rw [Array.getElem?_eq_getElem hi] at e1
      exact Option.some.inj e1
    rw [e4, e2] at hv
    exact ⟨t, by rw [ea, hv], e3⟩
  have inv : ∀ v ∈ acc.toList, ∃ (t : Addr) (b : St2), v = .ref t ∧ H t = some (.tup [.int b.1.1, .int b.1.2]) ∧ kPr H v = b.1 := fun v hv => by
    obtain ⟨i, hi⟩ := List.getElem?_of_mem hv
    have il := (List.getElem?_eq_some_iff.mp hi).1
    obtain ⟨t, e1, e2⟩ := each i _ (List.getElem?_eq_getElem (show i < bs.length by omega))
    rw [hi] at e1
    obtain rfl := Option.some.inj e1
    exact ⟨t, _, rfl, e2, by unfold kPr; simp only [e2]⟩
  have em : acc.toList.map (kPr H) = bs.map (·.1) := by
    refine List.ext_getElem? fun i => ?_
    rw [List.getElem?_map, List.getElem?_map]
    by_cases il : i < bs.length
    · obtain ⟨t, e1, e2⟩ := each i _ (List.getElem?_eq_getElem il)
      rw [e1, List.getElem?_eq_getElem il]
      show some (kPr H (.ref t)) = _
      unfold kPr
      simp only [e2]
      rfl
    · rw [List.getElem?_eq_none (by omega), List.getElem?_eq_none (by omega)]
      rfl
  have I1 : Inv X pins σ H { s with heap := h', toks := tk } := I.kept hk
  have hz : acc.toList.length ≤ sizeLine := by omega
  have pair : ∀ v ∈ acc.toList, Srt.IsPair h' v (kPr H v).1 (kPr H v).2 := fun v hv => by
    obtain ⟨t, b, rfl, ht, ek⟩ := inv v hv
    obtain ⟨_, its2, r2, o, ho, hc, n, hd⟩ := I1.hok _ _ ht
    obtain ⟨u1, u2, rfl, ri, rj⟩ := vals2 r2
    obtain ⟨t1, rfl⟩ := ri
    obtain ⟨t2, rfl⟩ := rj
    rw [ek]
    exact ⟨t, o, t1, t2, n, rfl, ho, hc, hd⟩
  refine wpAny_bind (wpAny_newList ?_ hz)
  have hoL : (h'.push (seqObj "list" acc.toList.toArray 0)).get? h'.objs.size = some (seqObj "list" acc.toList.toArray 0) := Heap.get?_push_size _ rfl
  show wpAny _ _ _ _ _ { s with heap := h'.push (seqObj "list" acc.toList.toArray 0), toks := tk }
  refine wpAny_bind (wpAny_holding (wpAny_call_entry PyProof.Rows.slot_list_sort ⟨_, hoL, rfl⟩ PyProof.Rows.entry_list_sort
    (SrtO.list_sort_ord (s := { s with heap := h'.push (seqObj "list" acc.toList.toArray 0), toks := tk }) (SrtO.swo_lex (kPr H)) hoL hz (fun h2 => SrtO.pairs_sortableO (by omega) (fun v hv => (pair v hv).keeps fun b o e _ => Heap.get?_push_of_some _ e) fun o e => ?_) fun out g1 g2 => ⟨_, rfl, ?_⟩) (PyProof.Rows.args_list_sort _)))
  · have e' : some o = some (seqObj "list" acc.toList.toArray 0) := e.symm.trans hoL
    cases e'
    intro c
    exact absurd (Value.type.inj c) (by decide)
  · obtain ⟨e', he'⟩ := PyProof.Rows.sortedHeap_at (vs := acc.toList) (out := out.toArray) hoL
    have hout : ∀ v ∈ out, v ∈ acc.toList := fun v hv => g2.perm.mem_iff.mp hv
    have refs : ∀ v ∈ out, ∃ a, v = Value.ref a := fun v hv => by
      obtain ⟨t, _, e, _⟩ := inv v (hout v hv)
      exact ⟨t, e⟩
    have prs : ∀ l : List Value, (∀ v ∈ l, v ∈ acc.toList) → Paired (PrV H) (l.map backV) (l.map (kPr H)) := fun l => by
      induction l with
      | nil => intro _; exact .nil
      | cons v l ih =>
        intro hl
        obtain ⟨t, b, rfl, ht, ek⟩ := inv v (hl v List.mem_cons_self)
        refine .cons ⟨t, rfl, ?_⟩ (ih fun u hu => hl u (List.mem_cons_of_mem _ hu))
        rw [ek]
        exact ht
    have hlen : (out.map backV).length ≤ sizeLine := by
      rw [List.length_map, g2.perm.length_eq]
      exact hz
    refine wpAny_pure ⟨_, rfl, .ref h'.objs.size, upd H h'.objs.size (.lst (out.map backV)), I1.laid (t' := tk) (fun b u e => ?_) (Nat.le_refl _)
      (show ObjOk X.prog X.w _ _ _ (.lst (out.map backV)) from ⟨hlen, out, e', vals_back refs, he'⟩), rfl, q (out.map backV) (out.map (kPr H)) _ (prs out hout) ?_ ?_ (I1.hok.fresh (Nat.le_refl _))⟩
    · have hb : b < h'.objs.size := Heap.lt_size e
      rw [PyProof.Rows.sortedHeap_old (Nat.ne_of_lt hb) (by rw [size_push']; exact Nat.lt_succ_of_lt hb)]
      exact Heap.get?_push_of_some _ e
    · rw [← em]
      exact g2.perm.map _
    · rw [List.pairwise_map]
      exact g1
end
/-! ### flats: faces_of -/
def kvP (P : List (Int × Int)) : List (List Key × V) := P.map fun q => ([Sum.inl q.1, Sum.inl q.2], V.bl true)
def addP (P : List (Int × Int)) (q : Int × Int) : List (Int × Int) := if q ∈ P then P else P ++ [q]
theorem kvP_val {q : Int × Int} : ∀ {P : List (Int × Int)}, valV (kvP P) [Sum.inl q.1, Sum.inl q.2] = if q ∈ P then some (.bl true) else none
  | [] => rfl
  | p :: P => by
    show valV (([Sum.inl p.1, Sum.inl p.2], V.bl true) :: kvP P) [Sum.inl q.1, Sum.inl q.2] = _
    by_cases e : p = q
    · rw [valV_pos (p := (([Sum.inl p.1, Sum.inl p.2] : List Key), V.bl true)) (by rw [e]), e, if_pos List.mem_cons_self]
    · rw [valV_neg (p := (([Sum.inl p.1, Sum.inl p.2] : List Key), V.bl true)) (fun z => by
        simp only [List.cons.injEq, Sum.inl.injEq, and_true] at z
        exact e (Prod.ext z.1 z.2)), kvP_val (P := P)]
      by_cases h : q ∈ P
      · rw [if_pos h, if_pos (List.mem_cons_of_mem _ h)]
      · rw [if_neg h, if_neg fun z => h ((List.mem_cons.mp z).resolve_left fun y => e y.symm)]
theorem kvP_put {P : List (Int × Int)} {q : Int × Int} : putK (kvP P) [Sum.inl q.1, Sum.inl q.2] (.bl true) = kvP (addP P q) := by
  unfold putK
  rw [valV_any, kvP_val]
  unfold addP
  by_cases h : q ∈ P
  · rw [if_pos h, if_pos h]
    show List.map (fun kv : List Key × V => if kv.1 = [Sum.inl q.1, Sum.inl q.2] then (kv.1, V.bl true) else kv) (kvP P) = _
    unfold kvP
    rw [List.map_map]
    refine List.map_congr_left fun p _ => ?_
    show (if ([Sum.inl p.1, Sum.inl p.2] : List Key) = [Sum.inl q.1, Sum.inl q.2] then (([Sum.inl p.1, Sum.inl p.2] : List Key), V.bl true) else ([Sum.inl p.1, Sum.inl p.2], V.bl true)) = _
    split <;> rfl
  · rw [if_neg h, if_neg h, if_neg (by simp)]
    unfold kvP
    rw [List.map_append]
    rfl
theorem addP_nd {P : List (Int × Int)} {q : Int × Int} (nd : P.Nodup) : (addP P q).Nodup := by
  unfold addP
  split
  · exact nd
  · rename_i h
    exact List.nodup_append.mpr ⟨nd, by simp, fun a ha b hb e => h (by rw [List.mem_singleton.mp hb] at e; exact e ▸ ha)⟩
theorem addP_mem {P : List (Int × Int)} {q x : Int × Int} : x ∈ addP P q ↔ x ∈ P ∨ x = q := by
  unfold addP
  split
  · rename_i h
    exact ⟨.inl, fun z => z.elim id fun e => e ▸ h⟩
  · simp
open Classical in
noncomputable def perB (bs : List St2) (s : Int × Int) : Nat := epsilon fun c => 1 ≤ c ∧ c ≤ bs.length ∧ itF (nxB bs) c s = s ∧ (∀ j, 0 < j → j < c → itF (nxB bs) j s ≠ s) ∧ Cyc bs s ((List.range c).map fun n => itF (nxB bs) n s)
noncomputable def cycB (bs : List St2) (s : Int × Int) : List (Int × Int) := (List.range (perB bs s)).map fun n => itF (nxB bs) n s
theorem Rnd.per {bs : List St2} (r : Rnd bs) {s : Int × Int} (hs : s ∈ bs.map (·.1)) : 1 ≤ perB bs s ∧ perB bs s ≤ bs.length ∧ itF (nxB bs) (perB bs s) s = s ∧ (∀ j, 0 < j → j < perB bs s → itF (nxB bs) j s ≠ s) ∧ Cyc bs s (cycB bs s) :=
  Classical.epsilon_spec (p := fun c => 1 ≤ c ∧ c ≤ bs.length ∧ itF (nxB bs) c s = s ∧ (∀ j, 0 < j → j < c → itF (nxB bs) j s ≠ s) ∧ Cyc bs s ((List.range c).map fun n => itF (nxB bs) n s)) (r.cyc hs)
theorem cycB_len (bs : List St2) (s : Int × Int) : (cycB bs s).length = perB bs s := by
  unfold cycB
  rw [List.length_map, List.length_range]
theorem Rnd.cyc_in {bs : List St2} (r : Rnd bs) {s : Int × Int} (hs : s ∈ bs.map (·.1)) : ∀ x ∈ cycB bs s, x ∈ bs.map (·.1) := fun x hx => by
  unfold cycB at hx
  obtain ⟨n, _, rfl⟩ := List.mem_map.mp hx
  exact r.it hs n
noncomputable def faceStep (bs : List St2) (st : List (List (Int × Int)) × List (Int × Int)) (s : Int × Int) : List (List (Int × Int)) × List (Int × Int) := if s ∈ st.2 then st else (st.1 ++ [cycB bs s], (cycB bs s).foldl addP st.2)
noncomputable def facesG (bs : List St2) (S : List (Int × Int)) : List (List (Int × Int)) × List (Int × Int) := S.foldl (faceStep bs) ([], [])
theorem facesG_snoc (bs : List St2) (S : List (Int × Int)) (s : Int × Int) : facesG bs (S ++ [s]) = faceStep bs (facesG bs S) s := by
  unfold facesG
  rw [List.foldl_append]
  rfl
theorem stepsB_len {es : List (Int × Int)} {rs : List (List Int)} {b : Nat} (h : ∀ row ∈ rs, row.length ≤ b) : ∀ m, (stepsB es rs m).length ≤ b * m
  | 0 => Nat.zero_le _
  | m + 1 => by
    rw [stepsB_succ, List.length_append, stepR_len]
    have := stepsB_len (es := es) h m
    have l : (rs.getD m []).length ≤ b := by
      rw [List.getD_eq_getElem?_getD]
      cases e : rs[m]? with
      | none => exact Nat.zero_le _
      | some row => exact h row (List.mem_of_getElem? e)
    rw [Nat.mul_succ]
    omega
def FcV (H : Hp) (v : V) (ps : List (Int × Int)) : Prop := ∃ a ws, v = .ref a ∧ H a = some (.tup ws) ∧ Paired (PrV H) ws ps
theorem FcV.tk {H H' : Hp} (k : Tk H H') {v : V} {ps : List (Int × Int)} (h : FcV H v ps) : FcV H' v ps := by
  obtain ⟨a, ws, e, h1, h2⟩ := h
  exact ⟨a, ws, e, k _ _ h1, pr_tk k h2⟩
theorem fc_tk {H H' : Hp} (k : Tk H H') {vs : List V} {fs : List (List (Int × Int))} (h : Paired (FcV H) vs fs) : Paired (FcV H') vs fs := Paired.mono (fun _ _ x => x.tk k) h
theorem tk_dT {H : Hp} {D : Addr} {kvs kvs' : List (List Key × V)} (h : H D = some (.dT kvs)) : Tk H (upd H D (.dT kvs')) := fun b zs e => by
  rw [upd_ne (fun z => by rw [z, h] at e; cases e)]
  exact e
def spFaces : Sp := fun vs H Q _ => ∃ (wv : V) (n : Int) (ts : List Tie) (o : Addr) (us : List V) (rs : List (List Int)) (es : List (Int × Int)), vs = [wv, .ref o] ∧ WebAt H wv n ts ∧ H o = some (.tup us) ∧ Paired (IntsV H) us rs ∧ Ord rs es ∧ TwE ts es ∧ rs.length ≤ 4 * 12 + 2 ∧ es.length ≤ 100 ∧ (stepsB es rs rs.length).length ≤ 1000 ∧
  ∀ r vs' S H', Same H H' → S.Perm ((stepsB es rs rs.length).map (·.1)) → S.Pairwise (fun x y => SrtO.lexB y x = false) → H' r = some (.tup vs') → Paired (FcV H') vs' (facesG (stepsB es rs rs.length) S).1 → Q (.ref r) H'
section
variable {P : Program} {w : World} {K : PySem.W.Frag} {mg : Str → Option Value} {base : Heap}
set_option maxHeartbeats 2000000 in
theorem ok_faces_of {f : Addr} {fd : FuncData} (F : Fun K "faces_of" "faces_of" s_faces_of f fd) (M : Free mg) (m_sorted : mg "sorted" = none) (D_steps_behind : Df P w K mg base 1 "steps_behind" ["web", "orders"] spSteps) (D_face_from : Df P w K mg base 1 "face_from" ["first", "behind"] spFace) : FnOk P w K mg base CX0 2 f fd ["web", "orders"] spFaces := by
  obtain ⟨f_steps_behind, fd_steps_behind, G_steps_behind, g_steps_behind, k_steps_behind, b_steps_behind⟩ := D_steps_behind
  obtain ⟨f_face_from, fd_face_from, G_face_from, g_face_from, k_face_from, b_face_from⟩ := D_face_from
  refine F.ok sc_faces_of (fun vs H Q E h => ?_) (fun cdv A outer s H vs Q E hr h => ?_)
  · obtain ⟨wv, n, ts, o, us, rs, es, rfl, _⟩ := h
    rfl
  · obtain ⟨wv, n, ts, o, us, rs, es, rfl, hW, ho, hp, od, tw, lr, le, lS, q⟩ := h
    have hu := room1 hr
    refine ⟨_, (pss_cons (ps_set (i := 2) sc_faces_of.nd rfl (.inl rfl) (pe_call G_steps_behind (hr.mono (by decide)) (by rfl) g_steps_behind k_steps_behind b_steps_behind .nil pass0 (pa_cons (pv 0) (pa_cons (pv 1) pa_nil))))
      (pss_cons (ps_set (i := 3) sc_faces_of.nd rfl (.inl rfl) (pe_lst pa_nil))
      (pss_cons (ps_set (i := 4) sc_faces_of.nd rfl (.inl rfl) pe_dnewT)
      (pss_cons (ps_for PassesOwn.never rfl (pi_list (pe_callB (call_sortedDP rfl) (by rfl) m_sorted (by decide +kernel) (pa_cons (pv 2) pa_nil))) (pg_name (i := 5) sc_faces_of.nd rfl (.inl rfl))
        (pss_one (ps_if (pt_cmp (pc_dnotin hu (pv 5) (pv 4)))
          (pss_cons (ps_set (i := 6) sc_faces_of.nd rfl (.inl rfl) (pe_call G_face_from (hr.mono (by decide)) (by rfl) g_face_from k_face_from b_face_from .nil pass0 (pa_cons (pv 5) (pa_cons (pv 2) pa_nil))))
          (pss_cons (ps_expr (pe_bm PySem.F.plainAttrs_list PySem.F.slot_list_append PySem.F.type_list_append mt_append (pv 3) (pa_cons (pv 6) pa_nil)))
          (pss_one (ps_for PassesOwn.never rfl (pi_tup (pv 6)) (pg_name (i := 7) sc_faces_of.nd rfl (.inl rfl))
            (pss_one (ps_dput hu (pv 4) (pv 7) pe_bl rfl))))))
          pss_nil)))
      (pss_one (ps_ret (pe_callTy call_tuple_of (by rfl) M.tuple (by decide +kernel) (pa_cons (pv 3) pa_nil)))))))), ?_⟩
    refine ⟨wv, rfl, .ref o, rfl, wv, n, ts, o, us, rs, es, rfl, hW, ho, hp, od, tw, by omega, by omega, fun D kvs H1 s1 hD hb => ?_⟩
    have rnd := stepsB_rnd od
    generalize ebs : stepsB es rs rs.length = bs at hb rnd lS
    refine ⟨Nat.zero_le _, fun F0 nF => ?_⟩
    have sF := same_new (o := .lst []) nF
    have hF2 : (upd H1 F0 (.lst [])) F0 = some (.lst []) := upd_same
    have hD2 := sF _ _ hD
    have hb2 := bh_tk (Same.tk sF) hb
    have s2 := s1.trans sF
    have nF0 := s1.free nF
    generalize upd H1 F0 (.lst []) = H2 at hF2 hD2 hb2 s2
    refine fun P0 nP => ?_
    have sP := same_new (o := .dT []) nP
    have hP3 : (upd H2 P0 (.dT [])) P0 = some (.dT (kvP [])) := upd_same
    have hD3 := sP _ _ hD2
    have hF3 := sP _ _ hF2
    have hb3 := bh_tk (Same.tk sP) hb2
    have s3 := s2.trans sP
    have nP0 := s2.free nP
    have FP : F0 ≠ P0 := ne_of_none hF2 nP
    have DP : D ≠ P0 := ne_of_none hD2 nP
    generalize upd H2 P0 (.dT []) = H3 at hP3 hD3 hF3 hb3 s3
    refine ⟨.ref D, rfl, D, kvs, bs, rfl, hD3, hb3, fun ys zs S0 hys hpm hso nS => ⟨S0, rfl, ⟨_, SqL.of upd_same⟩, ?_⟩⟩
    have sS := same_new (o := .lst ys) nS
    have hS4 := upd_same (H := H3) (a := S0) (o := .lst ys)
    have hD4 := sS _ _ hD3
    have hF4 := sS _ _ hF3
    have hP4 := sS _ _ hP3
    have hb4 := bh_tk (Same.tk sS) hb3
    have hy4 := pr_tk (Same.tk sS) hys
    have s4 := s3.trans sS
    have FS : F0 ≠ S0 := ne_of_none hF3 nS
    have PS : P0 ≠ S0 := ne_of_none hP3 nS
    have DF : D ≠ F0 := ne_of_none hD nF
    generalize upd H3 S0 (.lst ys) = H4 at hS4 hD4 hF4 hP4 hb4 hy4 s4
    have lz : zs.length = bs.length := by rw [hpm.length_eq, List.length_map]
    have ly : ys.length = zs.length := Paired.length hys
    clear hys hD3 hF3 hP3 hb3 hD2 hF2 hb2 hD hb
    refine for_list (xs := ys) (fun i σ' H' => ∃ (y5 y6 y7 : Option V) (vs' : List V), σ' = [some wv, some (.ref o), some (.ref D), some (.ref F0), some (.ref P0), y5, y6, y7] ∧ H' D = some (.dT kvs) ∧ Paired (BhV H') kvs bs ∧ H' F0 = some (.lst vs') ∧ Paired (FcV H') vs' (facesG bs (zs.take i)).1 ∧ H' P0 = some (.dT (kvP (facesG bs (zs.take i)).2)) ∧ (facesG bs (zs.take i)).2.Nodup ∧ (∀ q ∈ (facesG bs (zs.take i)).2, q ∈ bs.map (fun b : St2 => b.1)) ∧ vs'.length ≤ i ∧ H' S0 = some (.lst ys) ∧ Paired (PrV H') ys zs ∧ Same H H') ⟨none, none, none, [], rfl, hD4, hb4, hF4, .nil, hP4, List.nodup_nil, fun q hq => (by cases hq), Nat.zero_le _, hS4, hy4, s4⟩ (fun i σ' H' _ h => by
      obtain ⟨_, _, _, _, _, _, _, _, _, _, _, _, _, h, _⟩ := h
      exact SqL.of h) ?_ ?_
    · clear hD4 hb4 hF4 hP4 hS4 hy4 s4
      rintro i x σ' H5 ex ⟨y5, y6, y7, vs', rfl, hD5, hb5, hF5, hv5, hP5, nd5, in5, lv5, hS5, hy5, s5⟩
      have il := (List.getElem?_eq_some_iff.mp ex).1
      obtain ⟨st, est, c, rfl, hc⟩ := Paired.at hy5 ex
      have hst : st ∈ bs.map (·.1) := hpm.mem_iff.mp (List.mem_of_getElem? est)
      have eT : facesG bs (zs.take (i + 1)) = faceStep bs (facesG bs (zs.take i)) st := by
        rw [List.take_add_one, est]
        exact facesG_snoc bs _ st
      generalize facesG bs (zs.take i) = G at eT hv5 hP5 nd5 in5
      refine ⟨.ref c, rfl, .ref P0, rfl, P0, _, rfl, DGet.t (k := [Sum.inl st.1, Sum.inl st.2]) hP5 hc, _, rfl, ?_⟩
      rw [kvP_val]
      by_cases h : st ∈ G.2
      · rw [if_pos h]
        have eG : facesG bs (zs.take (i + 1)) = G := by rw [eT]; unfold faceStep; rw [if_pos h]
        exact ⟨_, _, _, vs', rfl, hD5, hb5, hF5, by rw [eG]; exact hv5, by rw [eG]; exact hP5, by rw [eG]; exact nd5, by rw [eG]; exact in5, by omega, hS5, hy5, s5⟩
      · rw [if_neg h]
        have eG : facesG bs (zs.take (i + 1)) = (G.1 ++ [cycB bs st], (cycB bs st).foldl addP G.2) := by rw [eT]; unfold faceStep; rw [if_neg h]
        have per := rnd.per hst
        refine ⟨.ref c, rfl, .ref D, rfl, c, D, kvs, bs, st, cycB bs st, rfl, hc, hD5, hb5, rnd.nk, per.2.2.2.2, by rw [cycB_len]; omega, fun r ws H6 s6 hr hws => ?_⟩
        have hF6 := s6 _ _ hF5
        refine ⟨.ref F0, rfl, .inl ⟨rfl, _, SqL.of hF6⟩, .ref r, rfl, F0, vs', _, rfl, rfl, hF6, Nat.lt_of_succ_le (Evl.sz_of (by omega)), ?_⟩
        have tk := tk_lst (ys := vs' ++ [.ref r]) hF6
        have tk6 := (Same.tk s6).trans tk
        have hD7 : (upd H6 F0 (.lst (vs' ++ [.ref r]))) D = some (.dT kvs) := by rw [upd_ne DF]; exact s6 _ _ hD5
        have hP7 : (upd H6 F0 (.lst (vs' ++ [.ref r]))) P0 = some (.dT (kvP G.2)) := by rw [upd_ne FP.symm]; exact s6 _ _ hP5
        have hS7 : (upd H6 F0 (.lst (vs' ++ [.ref r]))) S0 = some (.lst ys) := by rw [upd_ne FS.symm]; exact s6 _ _ hS5
        have hF7 : (upd H6 F0 (.lst (vs' ++ [.ref r]))) F0 = some (.lst (vs' ++ [.ref r])) := upd_same
        have hr7 := tk _ _ hr
        have hws7 := pr_tk tk hws
        have hb7 := bh_tk tk6 hb5
        have hv7 : Paired (FcV (upd H6 F0 (.lst (vs' ++ [.ref r])))) (vs' ++ [.ref r]) (G.1 ++ [cycB bs st]) := Paired.snoc (fc_tk tk6 hv5) ⟨r, ws, rfl, hr7, hws7⟩
        have hy7 := pr_tk tk6 hy5
        have s7 : Same H (upd H6 F0 (.lst (vs' ++ [.ref r]))) := Same.mut (s5.trans s6) nF0
        generalize upd H6 F0 (.lst (vs' ++ [.ref r])) = H7 at hD7 hP7 hS7 hF7 hr7 hws7 hb7 hv7 hy7 s7
        have lws : ws.length = (cycB bs st).length := Paired.length hws7
        refine ⟨.ref r, rfl, r, rfl, ⟨_, SqT.of hr7⟩, ?_⟩
        refine for_tup (xs := ws) (fun j σ' H' => ∃ y7 : Option V, σ' = [some wv, some (.ref o), some (.ref D), some (.ref F0), some (.ref P0), some (.ref c), some (.ref r), y7] ∧ H' D = some (.dT kvs) ∧ Paired (BhV H') kvs bs ∧ H' F0 = some (.lst (vs' ++ [.ref r])) ∧ Paired (FcV H') (vs' ++ [.ref r]) (G.1 ++ [cycB bs st]) ∧ H' P0 = some (.dT (kvP (((cycB bs st).take j).foldl addP G.2))) ∧ (((cycB bs st).take j).foldl addP G.2).Nodup ∧ (∀ q ∈ ((cycB bs st).take j).foldl addP G.2, q ∈ bs.map (fun b : St2 => b.1)) ∧ H' S0 = some (.lst ys) ∧ Paired (PrV H') ys zs ∧ H' r = some (.tup ws) ∧ Paired (PrV H') ws (cycB bs st) ∧ Same H H') ⟨_, rfl, hD7, hb7, hF7, hv7, hP7, nd5, in5, hS7, hy7, hr7, hws7, s7⟩ (fun i σ' H' _ h => by
          obtain ⟨_, _, _, _, _, _, _, _, _, _, _, h, _⟩ := h
          exact SqT.of h) ?_ ?_
        · clear hD7 hb7 hF7 hv7 hP7 hS7 hy7 hr7 hws7 s7
          rintro j x σ' H8 ex8 ⟨y7, rfl, hD8, hb8, hF8, hv8, hP8, nd8, in8, hS8, hy8, hr8, hws8, s8⟩
          obtain ⟨q0, eq0, t, rfl, ht⟩ := Paired.at hws8 ex8
          have eJ : ((cycB bs st).take (j + 1)).foldl addP G.2 = addP (((cycB bs st).take j).foldl addP G.2) q0 := by
            rw [List.take_add_one, eq0, List.foldl_append]
            rfl
          generalize ((cycB bs st).take j).foldl addP G.2 = P8 at eJ hP8 nd8 in8
          have lP : P8.length ≤ 1000 := by
            have := sub_lenG nd8 in8
            rw [List.length_map] at this
            omega
          have hlt : (kvP P8).length < sizeLine := by
            unfold kvP
            rw [List.length_map]
            exact Nat.lt_of_succ_le (Evl.sz_of (by omega))
          refine ⟨.ref P0, rfl, .ref t, rfl, P0, _, rfl, DPut.t (k := [Sum.inl q0.1, Sum.inl q0.2]) hP8 ht hlt, ?_⟩
          rw [kvP_put]
          have tkP := tk_dT (kvs' := kvP (addP P8 q0)) hP8
          refine ⟨_, rfl, by rw [upd_ne DP]; exact hD8, bh_tk tkP hb8, by rw [upd_ne FP]; exact hF8, fc_tk tkP hv8, by rw [eJ]; exact upd_same, by rw [eJ]; exact addP_nd nd8, fun x hx => ?_, by rw [upd_ne PS.symm]; exact hS8, pr_tk tkP hy8, tkP _ _ hr8, pr_tk tkP hws8, Same.mut s8 nP0⟩
          rw [eJ, addP_mem] at hx
          rcases hx with z | z
          · exact in8 x z
          · rw [z]
            exact rnd.cyc_in hst q0 (List.mem_of_getElem? eq0)
        · rintro σ' H8 ⟨y7, rfl, hD8, hb8, hF8, hv8, hP8, nd8, in8, hS8, hy8, hr8, hws8, s8⟩
          rw [lws, List.take_length] at hP8 nd8 in8
          exact ⟨_, _, _, vs' ++ [.ref r], rfl, hD8, hb8, hF8, by rw [eG]; exact hv8, by rw [eG]; exact hP8, by rw [eG]; exact nd8, by rw [eG]; exact in8, by rw [List.length_append]; show _ + 1 ≤ _; omega, hS8, hy8, s8⟩
    · rintro σ' H5 ⟨y5, y6, y7, vs', rfl, hD5, hb5, hF5, hv5, hP5, nd5, in5, lv5, hS5, hy5, s5⟩
      rw [ly, List.take_length] at hv5
      refine ⟨.ref F0, rfl, F0, _, rfl, .inl ⟨SqL.of hF5, fun r nr => ?_⟩⟩
      have sr := same_new (o := .tup vs') nr
      rw [← ebs] at hpm hv5
      exact q r vs' zs _ (s5.trans sr) hpm hso upd_same (fc_tk (Same.tk sr) hv5)
end
/-! ### d.update(e) -/
def rUpdate : V → List V → Hp → VK → Prop := fun x vs H Q => ∃ (a b : Addr) (kvs more : List (Key × V)), x = .ref a ∧ vs = [.ref b] ∧ H a = some (.dK kvs) ∧ H b = some (.dK more) ∧ a ≠ b ∧ kvs.length + more.length ≤ sizeLine ∧ Q .non (upd H a (.dK (mergeK kvs more)))
theorem mt_update {X : Cx} : MtR X "dict.update" rUpdate := by
  intro pins s σ H x vs v us Q I rx rv h
  obtain ⟨a, b, kvs, more, ex, ev, e1, e2, ne, hl, q⟩ := h
  subst ex
  subst ev
  obtain rfl : v = Value.ref a := rx
  obtain ⟨u, eu, r1⟩ := vals1 rv
  subst eu
  obtain rfl : u = Value.ref b := r1
  obtain ⟨z1, hd1, vs1, rel1, dd1⟩ := dk_of I.hok e1
  obtain ⟨z2, hd2, vs2, rel2, dd2⟩ := dk_of I.hok e2
  refine call_meetsIn PySem.F.slot_dict_update dd1.typeIs PySem.F.entry_dict_update (PySem.F.args_dict_update_2 _ _) (meets_dict_update (mixKind X.prog X.w) a b ne hd2) ⟨vs1, vs2, dd1, dd2, by rw [← rel1.length, ← rel2.length]; exact hl, fun h' dd' _ hs => ⟨.non, _, ?_, rfl, q⟩⟩
  have he : ∃ q, h'.get? a = some q := let ⟨q, _, _, hq, _⟩ := dd'; ⟨q, hq⟩
  exact d_write (t' := s.toks) I (by rw [e1]; exact True.intro) hs he (dk_new (Nat.le_trans (length_mergeK more kvs) hl) hd1 (rel2.merge rel1) dd')
/-! ### for each place its ties -/
def NbV (H : Hp) (v : V) (p : Nb) : Prop := ∃ a, v = .ref a ∧ H a = some (.tup [.int p.1, .str (kindS p.2)])
theorem NbV.tk {H H' : Hp} (k : Tk H H') {v : V} {p : Nb} (h : NbV H v p) : NbV H' v p := by
  obtain ⟨a, rfl, e⟩ := h
  exact ⟨a, rfl, k _ _ e⟩
structure Around (H : Hp) (L : Addr) (As : List Addr) (N : Nat → List Nb) : Prop where
  at' : H L = some (.lst (As.map V.ref))
  nd : As.Nodup
  each : ∀ j a, As[j]? = some a → ∃ vs, H a = some (.lst vs) ∧ Paired (NbV H) vs (N j)
  out : L ∉ As
theorem Around.same {H H' : Hp} {L : Addr} {As : List Addr} {N : Nat → List Nb} (h : Around H L As N) (s : Same H H') : Around H' L As N :=
  ⟨s _ _ h.at', h.nd, fun j a e => by
    obtain ⟨vs, h1, h2⟩ := h.each j a e
    exact ⟨vs, s _ _ h1, Paired.mono (fun _ _ x => x.tk (Same.tk s)) h2⟩, h.out⟩
theorem Around.put {H : Hp} {L q : Addr} {As : List Addr} {N : Nat → List Nb} (h : Around H L As N) {j : Nat} {a : Addr} {vs : List V} {p : Nb} (ea : As[j]? = some a) (ev : H a = some (.lst vs)) (eq : NbV H (.ref q) p) :
    Around (upd H a (.lst (vs ++ [.ref q]))) L As (fun i => N i ++ if i = j then [p] else []) := by
  have k : Tk H (upd H a (.lst (vs ++ [.ref q]))) := tk_lst ev
  refine ⟨?_, h.nd, fun i b e => ?_, h.out⟩
  · have ne : L ≠ a := fun z => h.out (by rw [z]; exact List.mem_of_getElem? ea)
    rw [upd_ne ne]
    exact h.at'
  · obtain ⟨ws, h1, h2⟩ := h.each i b e
    by_cases hij : i = j
    · subst hij
      rw [ea] at e
      cases e
      rw [ev] at h1
      cases h1
      refine ⟨_, upd_same, ?_⟩
      rw [if_pos rfl]
      exact Paired.snoc (Paired.mono (fun _ _ x => x.tk k) h2) (eq.tk k)
    · have ne : b ≠ a := fun z => hij (by
        subst z
        exact (List.getElem?_inj (List.getElem?_eq_some_iff.mp e).1 h.nd).mp (e.trans ea.symm))
      refine ⟨ws, by rw [upd_ne ne]; exact h1, ?_⟩
      rw [if_neg hij, List.append_nil]
      exact Paired.mono (fun _ _ x => x.tk k) h2
/-- the list that neighbours tells -/
def AroundAt (H : Hp) (v : V) (n : Int) (ts : List Tie) : Prop := ∃ L As, v = .ref L ∧ (As.length : Int) = n ∧ Around H L As (fun j => nbs ts j)
theorem AroundAt.same {H H' : Hp} {v : V} {n : Int} {ts : List Tie} (h : AroundAt H v n ts) (s : Same H H') : AroundAt H' v n ts := by
  obtain ⟨L, As, rfl, h1, h2⟩ := h
  exact ⟨L, As, rfl, h1, h2.same s⟩
def spNeighbours : Sp := fun vs H Q _ => ∃ (v : V) (n : Int) (ts : List Tie), vs = [v] ∧ WebAt H v n ts ∧ WebOk n ts ∧
  ∀ v' H', AroundAt H' v' n ts → Same H H' → Q v' H'
section
variable {P : Program} {w : World} {K : PySem.W.Frag} {mg : Str → Option Value} {base : Heap}
theorem ok_neighbours {f : Addr} {fd : FuncData} (F : Fun K "neighbours" "neighbours" s_neighbours f fd) (M : Free mg) : FnOk P w K mg base CX0 1 f fd ["web"] spNeighbours := by
  refine F.ok sc_neighbours (fun vs H Q E h => ?_) (fun cdv A outer s H vs Q E hr h => ?_)
  · obtain ⟨v, n, ts, rfl, _⟩ := h
    rfl
  · obtain ⟨v, n, ts, rfl, ⟨a, b, us, rfl, ha, hb, hp⟩, ok, q⟩ := h
    refine ⟨_, (pss_cons (ps_asg (pv 0) (pg_tup rfl (pgs_cons (pg_name (i := 1) sc_neighbours.nd rfl (.inl rfl)) (pgs_cons (pg_name (i := 2) sc_neighbours.nd rfl (.inl rfl)) pgs_nil))))
      (pss_cons (ps_setLc (i := 3) (own := [("place", 4)]) (g := gName 4) (tt := tYes) rfl sc_neighbours.nd rfl rfl (sw_true rfl rfl rfl (by decide +kernel)) (pi_range1 (by rfl) M.range (pa_cons (pv 1) pa_nil)) (blkOk_by (N := N_neighbours) (sc := defScope s_neighbours) (own := [("place", 4)]) (by decide +kernel)) (fun _ _ _ _ _ => (pg_name (i := 4) sc_neighbours.nd rfl (.inl rfl))) (fun _ _ _ _ _ => pts_nil) (fun _ _ _ _ _ => (pe_lst pa_nil)))
      (pss_cons (ps_for PassesOwn.never rfl (pi_tup (pv 2)) (pg_tup rfl (pgs_cons (pg_name (i := 5) sc_neighbours.nd rfl (.inl rfl)) (pgs_cons (pg_name (i := 6) sc_neighbours.nd rfl (.inl rfl)) (pgs_cons (pg_name (i := 7) sc_neighbours.nd rfl (.inl rfl)) pgs_nil))))
        (pss_cons (ps_expr (pe_bm PySem.F.plainAttrs_list PySem.F.slot_list_append PySem.F.type_list_append mt_append (pe_ix ix_list (pv 3) (pv 5) (fun _ _ => rfl)) (pa_cons (pe_tup (pa_cons (pv 6) (pa_cons (pv 7) pa_nil))) pa_nil)))
        (pss_one (ps_expr (pe_bm PySem.F.plainAttrs_list PySem.F.slot_list_append PySem.F.type_list_append mt_append (pe_ix ix_list (pv 3) (pv 6) (fun _ _ => rfl)) (pa_cons (pe_tup (pa_cons (pv 5) (pa_cons (pv 7) pa_nil))) pa_nil))))))
      (pss_one (ps_ret (pv 3)))))), ?_⟩
    obtain ⟨k, rfl⟩ : ∃ k : Nat, n = k := ⟨n.toNat, by have := ok.lo; omega⟩
    have hk : k ≤ 40 := by have := ok.hi; omega
    -- many, ties = web
    refine ⟨.ref a, rfl, a, _, rfl, SqT.of ha, rfl, _, _, rfl, _, _, rfl, rfl, ?_⟩
    -- around
    refine ⟨.int k, rfl, k, rfl, by omega, by omega, fun L nL => ?_⟩
    rw [Int.toNat_natCast]
    refine lc_range (lo := 0) (n := k) (fun i H' => ∃ As : List Addr, As.length = i ∧ Around H' L As (fun _ => []) ∧ (∀ x ∈ As, H x = none) ∧ Same H H') ?_ ?_ ?_
    · exact ⟨[], rfl, ⟨upd_same, List.nodup_nil, fun j a e => by simp at e, by simp⟩, fun x hx => by simp at hx, same_new nL⟩
    · rintro i H1 hi ⟨As, hl, hA, hf, s1⟩
      refine ⟨rfl, Nat.zero_le _, fun p np => ?_⟩
      have hA2 := hA.same (same_new (o := .lst []) np)
      refine ⟨_, hA2.at', by rw [List.length_map]; exact small1000 (by omega), As ++ [p], by rw [List.length_append, hl]; rfl, ?_, fun x hx => ?_, Same.mut (s1.trans (same_new np)) nL⟩
      · have npA : p ∉ As := fun z => by
          obtain ⟨j, hj⟩ := List.getElem?_of_mem z
          obtain ⟨vs, h1, _⟩ := hA.each j p hj
          rw [np] at h1
          cases h1
        have npL : p ≠ L := fun z => by
          have h1 := hA.at'
          rw [← z, np] at h1
          cases h1
        refine ⟨by rw [upd_same, List.map_append]; rfl, ?_, fun j x e => ?_, ?_⟩
        · rw [List.nodup_append]
          refine ⟨hA.nd, by simp, fun x hx y hy z => ?_⟩
          rw [List.mem_singleton] at hy
          subst hy
          subst z
          exact npA hx
        · have hx : x ≠ L := fun z => by
            subst z
            rcases List.mem_append.mp (List.mem_of_getElem? e) with h | h
            · exact hA.out h
            · exact npL (List.mem_singleton.mp h).symm
          rcases List.mem_append.mp (List.mem_of_getElem? e) with h | h
          · obtain ⟨j2, e2⟩ := List.getElem?_of_mem h
            obtain ⟨vs, h1, h2⟩ := hA2.each j2 x e2
            cases h2
            exact ⟨[], by rw [upd_ne hx]; exact h1, .nil⟩
          · rw [List.mem_singleton] at h
            subst h
            exact ⟨[], by rw [upd_ne hx]; exact upd_same, .nil⟩
        · intro z
          rcases List.mem_append.mp z with h | h
          · exact hA.out h
          · exact npL (List.mem_singleton.mp h).symm
      · rcases List.mem_append.mp hx with h | h
        · exact hf x h
        · rw [List.mem_singleton.mp h]
          exact s1.free np
    rintro H0 ⟨As, hl, hA, hf, s0⟩
    have nLH : H L = none := nL
    -- the loop
    refine ⟨.ref b, rfl, b, rfl, ⟨_, SqT.of (s0 _ _ hb)⟩, ?_⟩
    have hlen : us.length = ts.length := Paired.length hp
    refine for_tup (xs := us) (fun i σ' H' => ∃ y5 y6 y7 : Option V, σ' = [some (.ref a), some (.int k), some (.ref b), some (.ref L), none, y5, y6, y7] ∧ Around H' L As (fun j => nbs (ts.take i) j) ∧ Same H H') ?_ ?_ ?_ ?_
    · exact ⟨none, none, none, rfl, hA, s0⟩
    · rintro i σ' H' _ ⟨y5, y6, y7, rfl, hA1, s1⟩
      exact SqT.of (s1 _ _ hb)
    · rintro i x σ' H1 ex ⟨y5, y6, y7, rfl, hA1, s1⟩
      obtain ⟨t, et, c, rfl, hc⟩ := Paired.at hp ex
      have okt := ok.ok t (List.mem_of_getElem? et)
      have hti := (List.getElem?_eq_some_iff.mp et).1
      have etk : ts.take (i + 1) = ts.take i ++ [t] := by
        rw [List.take_add_one, et]
        rfl
      have hts := ok.few
      refine ⟨c, _, rfl, SqT.of (s1 _ _ hc), rfl, _, _, rfl, _, _, rfl, _, _, rfl, rfl, ?_⟩
      obtain ⟨o1, o2, o3, o4, o5⟩ := okt
      -- the first
      obtain ⟨x1, e1, e1'⟩ := getI (xs := As) o1 (by omega)
      obtain ⟨vs1, g1, p1⟩ := hA1.each _ _ e1'
      have l1 := Paired.length p1
      have l1' := nbs_len (ts.take i) (t.one.toNat : Int)
      rw [List.length_take] at l1'
      refine ⟨.ref L, rfl, .int t.one, rfl, L, _, t.one, .ref x1, rfl, rfl, SqL.of hA1.at', ?_, .inl ⟨rfl, _, SqL.of g1⟩, .int t.other, rfl, .str (kindS t.foe), rfl, by show 2 ≤ sizeLine; decide, fun p np => ?_⟩
      · exact atI_of o1 (by rw [List.getElem?_map, e1']; rfl)
      have A2 := hA1.same (same_new (o := .tup [.int t.other, .str (kindS t.foe)]) np)
      refine ⟨x1, vs1, _, rfl, rfl, same_new np _ _ g1, small1000 (by omega), ?_⟩
      have A3 := A2.put e1' (same_new np _ _ g1) (q := p) (p := (t.other, t.foe)) ⟨p, rfl, upd_same⟩
      have s3 : Same H (upd (upd H1 p (.tup [.int t.other, .str (kindS t.foe)])) x1 (.lst (vs1 ++ [.ref p]))) := Same.mut (s1.trans (same_new np)) (hf _ (List.mem_of_getElem? e1'))
      generalize upd (upd H1 p (.tup [.int t.other, .str (kindS t.foe)])) x1 (.lst (vs1 ++ [.ref p])) = H3 at A3 s3
      -- the second
      obtain ⟨x2, e2, e2'⟩ := getI (xs := As) o3 (by omega)
      obtain ⟨vs2, g2, p2⟩ := A3.each _ _ e2'
      have l2 := Paired.length p2
      rw [List.length_append] at l2
      have l2' := nbs_len (ts.take i) (t.other.toNat : Int)
      rw [List.length_take] at l2'
      have l2'' : (if t.other.toNat = t.one.toNat then [(t.other, t.foe)] else []).length ≤ 1 := by split <;> simp
      refine ⟨.ref L, rfl, .int t.other, rfl, L, _, t.other, .ref x2, rfl, rfl, SqL.of A3.at', ?_, .inl ⟨rfl, _, SqL.of g2⟩, .int t.one, rfl, .str (kindS t.foe), rfl, by show 2 ≤ sizeLine; decide, fun p' np' => ?_⟩
      · exact atI_of o3 (by rw [List.getElem?_map, e2']; rfl)
      have A4 := A3.same (same_new (o := .tup [.int t.one, .str (kindS t.foe)]) np')
      refine ⟨x2, vs2, _, rfl, rfl, same_new np' _ _ g2, small1000 (by omega), ?_⟩
      have A5 := A4.put e2' (same_new np' _ _ g2) (q := p') (p := (t.one, t.foe)) ⟨p', rfl, upd_same⟩
      refine ⟨_, _, _, rfl, ?_, Same.mut (s3.trans (same_new np')) (hf _ (List.mem_of_getElem? e2'))⟩
      refine ⟨A5.at', A5.nd, fun j z ez => ?_, A5.out⟩
      obtain ⟨ws, w1, w2⟩ := A5.each j z ez
      refine ⟨ws, w1, ?_⟩
      rw [etk, nbs_snoc]
      have en : nb1 t j = (if j = t.one.toNat then [(t.other, t.foe)] else []) ++ (if j = t.other.toNat then [(t.one, t.foe)] else []) := by
        unfold nb1
        congr 1
        · by_cases h : j = t.one.toNat
          · rw [if_pos h, if_pos (by omega)]
          · rw [if_neg h, if_neg (by omega)]
        · by_cases h : j = t.other.toNat
          · rw [if_pos h, if_pos (by omega)]
          · rw [if_neg h, if_neg (by omega)]
      rw [en, ← List.append_assoc]
      exact w2
    · rintro σ' H1 ⟨y5, y6, y7, rfl, hA1, s1⟩
      rw [hlen, List.take_length] at hA1
      exact ⟨.ref L, rfl, q _ _ ⟨L, As, rfl, by rw [hl], hA1⟩ s1⟩
end
/-! ### the places that ties lead to -/
def sideI (b : Bool) : Int := if b then 1 else 0
def kvOf (ks : List Nb) : List (Key × V) := ks.map fun p => (Sum.inl p.1, V.int (sideI p.2))
theorem kvOf_none {z : Int} : ∀ {ks : List Nb}, z ∉ ks.map (·.1) → valV (kvOf ks) (Sum.inl z) = none
  | [], _ => rfl
  | p :: ks, h => by
    rw [List.map_cons, List.mem_cons, not_or] at h
    have e := kvOf_none (ks := ks) h.2
    have h1 := h.1
    unfold kvOf at e ⊢
    rw [List.map_cons, valV_neg (fun z => h1 (Sum.inl.inj z).symm)]
    exact e
theorem kvOf_some {z : Int} {b : Bool} : ∀ {ks : List Nb}, (ks.map (·.1)).Nodup → (z, b) ∈ ks → valV (kvOf ks) (Sum.inl z) = some (.int (sideI b))
  | p :: ks, nd, h => by
    rw [List.map_cons, List.nodup_cons] at nd
    rcases List.mem_cons.mp h with e | e
    · subst e
      unfold kvOf
      rw [List.map_cons, valV_pos rfl]
    · have q := kvOf_some (ks := ks) nd.2 e
      have ne : p.1 ≠ z := fun y => nd.1 (by rw [y]; exact List.mem_map.mpr ⟨_, e, rfl⟩)
      unfold kvOf at q ⊢
      rw [List.map_cons, valV_neg (fun y => ne (Sum.inl.inj y))]
      exact q
theorem kvOf_put {ks : List Nb} {z : Int} {b : Bool} (h : z ∉ ks.map (·.1)) : putK (kvOf ks) (Sum.inl z) (.int (sideI b)) = kvOf (ks ++ [(z, b)]) := by
  unfold putK
  rw [if_neg]
  · unfold kvOf
    rw [List.map_append]
    rfl
  · intro g
    rw [List.any_eq_true] at g
    obtain ⟨kv, h1, h2⟩ := g
    unfold kvOf at h1
    rw [List.mem_map] at h1
    obtain ⟨p, hp, rfl⟩ := h1
    exact h (List.mem_map.mpr ⟨p, hp, Sum.inl.inj (of_decide_eq_true h2)⟩)
theorem kvOf_len (ks : List Nb) : (kvOf ks).length = ks.length := by unfold kvOf; rw [List.length_map]
theorem side_xor (b f : Bool) : (if decide (V.str (kindS f) = V.str "friend") = true then sideI b else 1 - sideI b) = sideI (b ^^ f) := by
  cases f
  · cases b <;> rfl
  · cases b <;> rfl
structure SidesOf (ts : List Tie) (s : Int) (ks : List Nb) : Prop where
  nd : (ks.map (·.1)).Nodup
  rp : ∀ p ∈ ks, RP ts s p.1 p.2
  all : ∀ z, z ∈ ks.map (·.1) ↔ Rch ts s z
def spSidesFrom : Sp := fun vs H Q _ => ∃ (v : V) (n : Int) (s : Int) (ts : List Tie), vs = [.int s, v] ∧ AroundAt H v n ts ∧ WebOk n ts ∧ 0 ≤ s ∧ s < n ∧
  ∀ d ks H', H d = none → H' d = some (.dK (kvOf ks)) → Same H H' → SidesOf ts s ks → Q (.ref d) H'
section
variable {P : Program} {w : World} {K : PySem.W.Frag} {mg : Str → Option Value} {base : Heap}
theorem ok_sides_from {f : Addr} {fd : FuncData} (F : Fun K "sides_from" "sides_from" s_sides_from f fd) (M : Free mg) : FnOk P w K mg base CX0 1 f fd ["start", "around"] spSidesFrom := by
  refine F.ok sc_sides_from (fun vs H Q E h => ?_) (fun cdv A outer sh H vs Q E hr h => ?_)
  · obtain ⟨v, n, s, ts, rfl, _⟩ := h
    rfl
  · obtain ⟨v, n, s, ts, rfl, ⟨L, As, rfl, hl, hA⟩, ok, hs0, hs1, q⟩ := h
    have hu := room1 hr
    refine ⟨_, (pss_cons (ps_set (i := 2) sc_sides_from.nd rfl (.inl rfl) (pe_disp (pps_cons (pv 0) pe_int pps_nil) (by rfl) (by rfl) (fun z => by cases z) (by decide)))
      (pss_cons (ps_set (i := 3) sc_sides_from.nd rfl (.inl rfl) (pe_lst (pa_cons (pv 0) pa_nil)))
      (pss_cons (ps_while PassesOwn.never (pt_truth (pv 3) (by intro _; rfl))
        (pss_cons (ps_set (i := 4) sc_sides_from.nd rfl (.inl rfl) (pe_bm0 PySem.F.plainAttrs_list PySem.F.slot_list_pop PySem.F.type_list_pop mt_pop (pv 3)))
        (pss_one (ps_for PassesOwn.never rfl (pi_list (pe_ix ix_list (pv 1) (pv 4) (fun _ _ => rfl))) (pg_tup rfl (pgs_cons (pg_name (i := 5) sc_sides_from.nd rfl (.inl rfl)) (pgs_cons (pg_name (i := 6) sc_sides_from.nd rfl (.inl rfl)) pgs_nil)))
          (pss_one (ps_if (pt_cmp (pc_dnotin hu (pv 5) (pv 2)))
            (Evl.pss_cut (ps_dput hu (pv 2) (pv 5) (pe_ifExp (pt_cmpR op_eq (pv 6) pe_str (nomark _)) (pe_dget hu (pv 2) (pv 4) (fun _ _ => rfl)) (pe_op op_sub pe_int (pe_dget hu (pv 2) (pv 4) (fun _ _ => rfl)))) rfl)
            (pss_one (ps_expr (pe_bm PySem.F.plainAttrs_list PySem.F.slot_list_append PySem.F.type_list_append mt_append (pv 3) (pa_cons (pv 5) pa_nil)))))
            pss_nil))))))
      (pss_one (ps_ret (pv 2)))))), ?_⟩
    obtain ⟨k, rfl⟩ : ∃ k : Nat, n = k := ⟨n.toNat, by have := ok.lo; omega⟩
    have hk : k ≤ 40 := by have := ok.hi; omega
    have hts := ok.few
    -- sides
    refine fun d nd => ⟨.int s, rfl, upd_same, [(Sum.inl s, .int 0)], rfl, (by show 1 ≤ 15; decide), ?_⟩
    have eH : upd (upd H d (.dK [])) d (.dK (mergeK [] [(Sum.inl s, .int 0)])) = upd H d (.dK (kvOf [(s, false)])) := by
      funext b
      by_cases hb : b = d
      · subst hb
        rw [upd_same, upd_same]
        rfl
      · rw [upd_ne hb, upd_ne hb, upd_ne hb]
    rw [eH]
    -- waiting
    refine ⟨.int s, rfl, by show 1 ≤ sizeLine; decide, fun W nW => ?_⟩
    have hdW : W ≠ d := (ne_of_none upd_same nW).symm
    have nWH : H W = none := by rw [upd_ne hdW] at nW; exact nW
    refine ⟨fun m σ' H' => ∃ (y4 y5 y6 : Option V) (ks : List Nb) (wl : List Int), σ' = [some (.int s), some (.ref L), some (.ref d), some (.ref W), y4, y5, y6] ∧ H' d = some (.dK (kvOf ks)) ∧ H' W = some (.lst (wl.map V.int)) ∧ Same H H' ∧ SF ts s ks wl [] ∧ m = 2 * (k - ks.length) + wl.length, ⟨_, none, none, none, [(s, false)], [s], rfl, ?_, upd_same, Same.mut (same_new nd) nWH, ?_, rfl⟩, ?_⟩
    · rw [upd_ne (Ne.symm hdW)]
      exact upd_same
    · exact ⟨by simp, fun p hp => by rw [List.mem_singleton.mp hp]; exact .nil, by simp, fun x hx => hx, Nat.le_refl _, fun x hx h1 => absurd hx h1⟩
    · rintro m σ' H1 ⟨y4, y5, y6, ks, wl, rfl, hd, hW, s1, sf, hm⟩
      refine ⟨.ref W, rfl, _, .inl ⟨_, SqL.of hW, rfl⟩, ?_⟩
      refine ite2 (fun hb => ?_) (fun hb => ?_)
      · -- a place
        cases hwl : wl with
        | nil => rw [hwl] at hb; cases hb
        | cons z zs =>
        obtain ⟨ys, p, e⟩ : ∃ (ys : List Int) (p : Int), z :: zs = ys ++ [p] := ⟨(z :: zs).dropLast, (z :: zs).getLast (by simp), (List.dropLast_concat_getLast (by simp)).symm⟩
        rw [hwl, e] at hW sf hm
        have hpk := sf.sub p (by simp)
        obtain ⟨b, hb1, hb2⟩ := sf.keys hpk
        have hpr := Rch.rng ok.ok ⟨hs0, hs1⟩ ⟨b, hb2⟩
        have sp := sf.pop
        have e3 : ((ys ++ [p]).map V.int).dropLast = ys.map V.int := by simp
        refine ⟨fun σ' H' => ∃ m', m' < m ∧ ∃ (y4 y5 y6 : Option V) (ks : List Nb) (wl : List Int), σ' = [some (.int s), some (.ref L), some (.ref d), some (.ref W), y4, y5, y6] ∧ H' d = some (.dK (kvOf ks)) ∧ H' W = some (.lst (wl.map V.int)) ∧ Same H H' ∧ SF ts s ks wl [] ∧ m' = 2 * (k - ks.length) + wl.length, fun _ _ h => h, ?_⟩
        refine ⟨.ref W, rfl, .inl ⟨rfl, _, SqL.of hW⟩, W, _, .int p, rfl, rfl, hW, by simp, ?_⟩
        rw [e3]
        have hd2 : (upd H1 W (.lst (ys.map V.int))) d = some (.dK (kvOf ks)) := by rw [upd_ne (Ne.symm hdW)]; exact hd
        have hW2 : (upd H1 W (.lst (ys.map V.int))) W = some (.lst (ys.map V.int)) := upd_same
        have s2 : Same H (upd H1 W (.lst (ys.map V.int))) := Same.mut s1 nWH
        generalize upd H1 W (.lst (ys.map V.int)) = H2 at hd2 hW2 s2
        have A2 := hA.same s2
        obtain ⟨x, ex, ex'⟩ := getI (xs := As) hpr.1 (by omega)
        obtain ⟨us, g, pr⟩ := A2.each _ _ ex'
        have epk : ((p.toNat : Nat) : Int) = p := by omega
        rw [epk] at pr
        refine ⟨.ref L, rfl, .int p, rfl, L, _, p, .ref x, rfl, rfl, SqL.of A2.at', atI_of hpr.1 (by rw [List.getElem?_map, ex']; rfl), x, rfl, ⟨_, SqL.of g⟩, ?_⟩
        have gH : H x = some (.lst us) := by
          obtain ⟨us', g', _⟩ := hA.each _ _ ex'
          rw [s2 _ _ g'] at g
          cases g
          exact g'
        refine for_list (xs := us) (fun i σ' H' => ∃ (y5 y6 : Option V) (ks : List Nb) (wl : List Int), σ' = [some (.int s), some (.ref L), some (.ref d), some (.ref W), some (.int p), y5, y6] ∧ H' d = some (.dK (kvOf ks)) ∧ H' W = some (.lst (wl.map V.int)) ∧ Same H H' ∧ SF ts s ks wl [p] ∧ (p, b) ∈ ks ∧ (∀ q ∈ (nbs ts p).take i, q.1 ∈ ks.map (·.1)) ∧ 2 * (k - ks.length) + wl.length < m) ?_ ?_ ?_ ?_
        · exact ⟨y5, y6, ks, ys, rfl, hd2, hW2, s2, sp, hb1, fun q hq => by simp at hq, by rw [hm, List.length_append]; simp⟩
        · rintro i σ' H' _ ⟨y5, y6, ks, wl, rfl, _, _, s3, _⟩
          exact SqL.of (s3 _ _ gH)
        · rintro i u σ' H3 eu ⟨y5, y6, ks, wl, rfl, hd3, hW3, s3, sf3, hb3, hdn, hlt⟩
          have A3 := hA.same s3
          obtain ⟨us', g', pr'⟩ := A3.each _ _ ex'
          rw [s3 _ _ gH] at g'
          cases g'
          rw [epk] at pr'
          obtain ⟨⟨y, fo⟩, ey, c, rfl, hc⟩ := Paired.at pr' eu
          have ady := mem_nbs.mp (List.mem_of_getElem? ey)
          have few := sf3.few ok.ok ⟨hs0, hs1⟩
          have etk : (nbs ts p).take (i + 1) = (nbs ts p).take i ++ [(y, fo)] := by
            rw [List.take_add_one, ey]
            rfl
          refine ⟨c, _, rfl, SqT.of hc, rfl, _, _, rfl, _, _, rfl, rfl, ?_⟩
          refine ⟨.int y, rfl, .ref d, rfl, d, _, rfl, DGet.k (k := Sum.inl y) hd3, _, rfl, ?_⟩
          by_cases hy : y ∈ ks.map (·.1)
          · obtain ⟨yb, yb1, _⟩ := sf3.keys hy
            rw [kvOf_some sf3.nd yb1]
            refine ⟨_, _, ks, wl, rfl, hd3, hW3, s3, sf3, hb3, fun q hq => ?_, hlt⟩
            rw [etk] at hq
            rcases List.mem_append.mp hq with h | h
            · exact hdn q h
            · rw [List.mem_singleton.mp h]
              exact hy
          · rw [kvOf_none hy]
            have sfp := sf3.push (sf3.rp _ hb3) ady hy
            have few2 := sfp.few ok.ok ⟨hs0, hs1⟩
            have lks : (kvOf ks).length < sizeLine := by rw [kvOf_len]; exact small1000 (by omega)
            have vp := kvOf_some sf3.nd hb3
            have ep := kvOf_put (b := b ^^ fo) hy
            refine ⟨fun σ' H' => σ' = [some (.int s), some (.ref L), some (.ref d), some (.ref W), some (.int p), some (.int y), some (.str (kindS fo))] ∧ H' = upd H3 d (.dK (kvOf (ks ++ [(y, b ^^ fo)]))), ?_, ?_⟩
            · refine ⟨.str (kindS fo), rfl, rfl, _, rfl, ?_⟩
              rw [← ep]
              cases fo
              · refine ⟨.ref d, rfl, .int p, rfl, d, _, rfl, (by rw [← vp]; exact DGet.k (k := Sum.inl p) hd3), .ref d, rfl, .int y, rfl, d, _, rfl, DPut.k (k := Sum.inl y) hd3 lks, rfl, ?_⟩
                rw [Bool.xor_false]
              · refine ⟨.ref d, rfl, .int p, rfl, d, _, rfl, (by rw [← vp]; exact DGet.k (k := Sum.inl p) hd3), 1, sideI b, rfl, rfl, .ref d, rfl, .int y, rfl, d, _, rfl, DPut.k (k := Sum.inl y) hd3 lks, rfl, ?_⟩
                cases b <;> rfl
            · rintro σ' H4 ⟨rfl, rfl⟩
              have hW4 : (upd H3 d (.dK (kvOf (ks ++ [(y, b ^^ fo)])))) W = some (.lst (wl.map V.int)) := by rw [upd_ne hdW]; exact hW3
              have lw := sf3.le
              refine ⟨.ref W, rfl, .inl ⟨rfl, _, SqL.of hW4⟩, .int y, rfl, W, _, _, rfl, rfl, hW4, by rw [List.length_map]; exact small1000 (by omega), ?_⟩
              refine ⟨_, _, ks ++ [(y, b ^^ fo)], wl ++ [y], rfl, ?_, by rw [upd_same, List.map_append]; rfl, Same.mut (Same.mut s3 nd) nWH, sfp, List.mem_append_left _ hb3, fun q hq => ?_, ?_⟩
              · rw [upd_ne (Ne.symm hdW)]
                exact upd_same
              · rw [List.map_append]
                rw [etk] at hq
                rcases List.mem_append.mp hq with h | h
                · exact List.mem_append_left _ (hdn q h)
                · rw [List.mem_singleton.mp h]
                  exact List.mem_append_right _ (by simp)
              · rw [List.length_append] at few2 ⊢
                rw [List.length_append]
                simp only [List.length_cons, List.length_nil] at few2 ⊢
                omega
        · rintro σ' H3 ⟨y5, y6, ks, wl, rfl, hd3, hW3, s3, sf3, hb3, hdn, hlt⟩
          rw [Paired.length pr, List.take_length] at hdn
          exact ⟨_, hlt, _, _, _, ks, wl, rfl, hd3, hW3, s3, sf3.done hdn, rfl⟩
      · -- none is left
        have hwl : wl = [] := by
          cases wl with
          | nil => rfl
          | cons z zs => exact absurd rfl hb
        subst hwl
        exact ⟨.ref d, rfl, q d ks H1 nd hd s1 ⟨sf.nd, sf.rp, sf.all⟩⟩
end
/-! ### the parts -/
theorem mem_putK {k z : Key} {v : V} {kvs : List (Key × V)} : z ∈ (putK kvs k v).map (·.1) ↔ z ∈ kvs.map (·.1) ∨ z = k := by
  unfold putK
  split
  · rename_i h
    rw [List.any_eq_true] at h
    obtain ⟨kv, h1, h2⟩ := h
    have h3 := of_decide_eq_true h2
    rw [List.map_map]
    have e : (Prod.fst ∘ fun kv : Key × V => if kv.1 = k then (kv.1, v) else kv) = Prod.fst := by
      funext p
      show (if p.1 = k then (p.1, v) else p).1 = p.1
      split <;> rfl
    rw [show ((fun x : Key × V => x.1) ∘ fun kv : Key × V => if kv.1 = k then (kv.1, v) else kv) = Prod.fst from e]
    constructor
    · exact .inl
    · rintro (h | h)
      · exact h
      · rw [h, ← h3]
        exact List.mem_map.mpr ⟨kv, h1, rfl⟩
  · rw [List.map_append, List.mem_append]
    simp
theorem mem_mergeK {z : Key} : ∀ {more kvs : List (Key × V)}, z ∈ (mergeK kvs more).map (·.1) ↔ z ∈ kvs.map (·.1) ∨ z ∈ more.map (·.1)
  | [], kvs => by
    show z ∈ kvs.map (·.1) ↔ _
    simp
  | p :: r, kvs => by
    have q := mem_mergeK (z := z) (more := r) (kvs := putK kvs p.1 p.2)
    rw [mem_putK] at q
    show z ∈ (mergeK (putK kvs p.1 p.2) r).map (·.1) ↔ _
    rw [q, List.map_cons, List.mem_cons, or_assoc]
theorem valV_isSome {k : Key} : ∀ {kvs : List (Key × V)}, (valV kvs k).isSome = true ↔ k ∈ kvs.map (·.1)
  | [] => by simp [valV_nil]
  | p :: r => by
    by_cases h : p.1 = k
    · rw [valV_pos h, List.map_cons, List.mem_cons]
      simp [h]
    · rw [valV_neg h, List.map_cons, List.mem_cons, valV_isSome]
      constructor
      · exact .inr
      · rintro (e | e)
        · exact absurd e.symm h
        · exact e
theorem kvOf_keys (ks : List Nb) : (kvOf ks).map (·.1) = (ks.map (·.1)).map Sum.inl := by
  unfold kvOf
  rw [List.map_map, List.map_map]
  rfl
theorem lead_iff {ts : List Tie} {n : Nat} (ok : ∀ t ∈ ts, TieOk n t) {i : Int} (h0 : 0 ≤ i ∧ i < n) : leader ts i ↔ ¬ ∃ x, 0 ≤ x ∧ x < i ∧ Rch ts x i := by
  constructor
  · rintro h ⟨x, h1, h2, h3⟩
    have := h x h3.symm
    omega
  · intro h q hq
    rcases Int.lt_or_le q i with l | l
    · exact absurd ⟨q, (hq.rng ok h0).1, l, hq.symm⟩ h
    · exact l
def PartsAt (H : Hp) (v : V) (ps : List (List Int)) : Prop := ∃ a bs, v = .ref a ∧ H a = some (.tup bs) ∧ Paired (IntsV H) bs ps
theorem parts_tk {H H' : Hp} (k : Tk H H') {bs : List V} {ps : List (List Int)} (h : Paired (IntsV H) bs ps) : Paired (IntsV H') bs ps := Paired.mono (fun _ _ x => x.tk k) h
theorem partsTo_len (ts : List Tie) (n i : Nat) : (partsTo ts n i).length ≤ i := by
  induction i with
  | zero => simp [partsTo, rng]
  | succ i ih =>
    rw [partsTo_succ, List.length_append]
    split
    · simp
      omega
    · simp
      omega
def spPartsOf : Sp := fun vs H Q _ => ∃ (v : V) (n : Nat) (ts : List Tie), vs = [v] ∧ WebAt H v n ts ∧ WebOk n ts ∧
  ∀ v' H', Same H H' → PartsAt H' v' (partsTo ts n n) → Q v' H'
section
variable {P : Program} {w : World} {K : PySem.W.Frag} {mg : Str → Option Value} {base : Heap}
theorem ok_parts_of {f : Addr} {fd : FuncData} (F : Fun K "parts_of" "parts_of" s_parts_of f fd) (M : Free mg) (ms : mg "sorted" = none) (D1 : Df P w K mg base 1 "neighbours" ["web"] spNeighbours) (D2 : Df P w K mg base 1 "sides_from" ["start", "around"] spSidesFrom) : FnOk P w K mg base CX0 2 f fd ["web"] spPartsOf := by
  obtain ⟨f1, fd1, G1, g1, k1, b1⟩ := D1
  obtain ⟨f2, fd2, G2, g2, k2, b2⟩ := D2
  refine F.ok sc_parts_of (fun vs H Q E h => ?_) (fun cdv A outer sh H vs Q E hr h => ?_)
  · obtain ⟨v, n, ts, rfl, _⟩ := h
    rfl
  · obtain ⟨v, n, ts, rfl, hw, ok, q⟩ := h
    have hu := room1 hr
    have hk : n ≤ 40 := by have := ok.hi; omega
    refine ⟨_, (pss_cons (ps_set (i := 1) sc_parts_of.nd rfl (.inl rfl) (pe_call G1 hr (by rfl) g1 k1 b1 .nil pass0 (pa_cons (pv 0) pa_nil)))
      (pss_cons (ps_set (i := 2) sc_parts_of.nd rfl (.inl rfl) (pe_lst pa_nil))
      (pss_cons (ps_set (i := 3) sc_parts_of.nd rfl (.inl rfl) pe_dnewK)
      (pss_cons (ps_for PassesOwn.never rfl (pi_range1 (by rfl) M.range (pa_cons (pe_ix ix_tup (pv 0) pe_int (fun _ _ => rfl)) pa_nil)) (pg_name (i := 4) sc_parts_of.nd rfl (.inl rfl))
        (pss_one (ps_if (pt_cmp (pc_dnotin hu (pv 4) (pv 3)))
          (pss_cons (ps_set (i := 5) sc_parts_of.nd rfl (.inl rfl) (pe_call G2 hr (by rfl) g2 k2 b2 .nil pass0 (pa_cons (pv 4) (pa_cons (pv 1) pa_nil))))
          (pss_cons (ps_expr (pe_bm PySem.F.plainAttrs_dict PySem.F.slot_dict_update PySem.F.type_dict_update mt_update (pv 3) (pa_cons (pv 5) pa_nil)))
          (pss_one (ps_expr (pe_bm PySem.F.plainAttrs_list PySem.F.slot_list_append PySem.F.type_list_append mt_append (pv 2) (pa_cons (pe_callTy call_tuple_of (by rfl) M.tuple (by decide +kernel) (pa_cons (pe_callB (call_sortedDI rfl) (by rfl) ms (by decide +kernel) (pa_cons (pv 5) pa_nil)) pa_nil)) pa_nil))))))
          pss_nil)))
      (pss_one (ps_ret (pe_callTy call_tuple_of (by rfl) M.tuple (by decide +kernel) (pa_cons (pv 2) pa_nil)))))))), ?_⟩
    -- around
    refine ⟨v, rfl, v, n, ts, rfl, hw, ok, fun u H1 hA s1 => ?_⟩
    -- parts, placed
    refine ⟨Nat.zero_le _, fun L nL pD nD => ?_⟩
    have hLD : pD ≠ L := (ne_of_none upd_same nD).symm
    have nDH1 : H1 pD = none := by rw [upd_ne hLD] at nD; exact nD
    have nLH : H L = none := s1.free nL
    have nDH : H pD = none := s1.free nDH1
    have sA : Same H1 (upd (upd H1 L (.lst [])) pD (.dK [])) := (same_new nL).trans (same_new nD)
    obtain ⟨a, b, vs, rfl, ha, hb, hp⟩ := hw
    refine ⟨.ref a, rfl, a, _, 0, .int n, rfl, rfl, SqT.of (sA _ _ (s1 _ _ ha)), rfl, n, rfl, by omega, by omega, ?_⟩
    rw [Int.toNat_natCast]
    refine for_range (lo := 0) (n := n) (fun i σ' H' => ∃ (y4 y5 : Option V) (kvs : List (Key × V)) (bs : List V), σ' = [some (.ref a), some u, some (.ref L), some (.ref pD), y4, y5] ∧ H' L = some (.lst bs) ∧ Paired (IntsV H') bs (partsTo ts n i) ∧ H' pD = some (.dK kvs) ∧ kvs.length ≤ 40 * i ∧
      (∀ z, z ∈ kvs.map (·.1) ↔ ∃ y, z = Sum.inl y ∧ ∃ x, 0 ≤ x ∧ x < (i : Int) ∧ Rch ts x y) ∧ Same H1 H') ?_ ?_ ?_
    · refine ⟨none, none, [], [], rfl, by rw [upd_ne (Ne.symm hLD)]; exact upd_same, ?_, upd_same, by simp, fun z => ?_, sA⟩
      · have e0 : partsTo ts n 0 = [] := by simp [partsTo, rng]
        rw [e0]
        exact .nil
      · constructor
        · intro h
          simp at h
        · rintro ⟨y, _, x, h1, h2, _⟩
          omega
    · rintro i σ' H2 hi ⟨y4, y5, kvs, bs, rfl, hL, hP, hD, hlen, hkeys, s2⟩
      rw [show (0 : Int) + (i : Nat) = i from by omega]
      have hir : 0 ≤ (i : Int) ∧ (i : Int) < n := by omega
      have lbs : bs.length ≤ i := by rw [Paired.length hP]; exact partsTo_len ts n i
      refine ⟨.int i, rfl, .ref pD, rfl, pD, _, rfl, DGet.k (k := Sum.inl (i : Int)) hD, _, rfl, ?_⟩
      have nx : ∀ y : Int, (∃ x, 0 ≤ x ∧ x < ((i + 1 : Nat) : Int) ∧ Rch ts x y) ↔ (∃ x, 0 ≤ x ∧ x < (i : Int) ∧ Rch ts x y) ∨ Rch ts i y := fun y => by
        constructor
        · rintro ⟨x, h1, h2, h3⟩
          by_cases e : x = i
          · subst e
            exact .inr h3
          · exact .inl ⟨x, h1, by omega, h3⟩
        · rintro (⟨x, h1, h2, h3⟩ | h)
          · exact ⟨x, h1, by omega, h3⟩
          · exact ⟨i, by omega, by omega, h⟩
      by_cases hin : (valV kvs (Sum.inl (i : Int))).isSome = true
      · rw [hin]
        obtain ⟨y, e, x, h1, h2, h3⟩ := (hkeys _).mp (valV_isSome.mp hin)
        cases e
        have nl : ¬ leader ts (i : Int) := fun z => (lead_iff ok.ok hir).mp z ⟨x, h1, h2, h3⟩
        refine ⟨_, _, kvs, bs, rfl, hL, ?_, hD, by omega, fun z => ?_, s2⟩
        · rw [partsTo_succ, if_neg nl, List.append_nil]
          exact hP
        · rw [hkeys]
          constructor
          · rintro ⟨y, e, h⟩
            exact ⟨y, e, (nx y).mpr (.inl h)⟩
          · rintro ⟨y, e, h⟩
            refine ⟨y, e, ?_⟩
            rcases (nx y).mp h with h | h
            · exact h
            · exact ⟨x, h1, h2, h3.trans h⟩
      · rw [Bool.not_eq_true] at hin
        rw [hin]
        have ld : leader ts (i : Int) := (lead_iff ok.ok hir).mpr fun ⟨x, h1, h2, h3⟩ => by
          have := valV_isSome.mpr ((hkeys (Sum.inl (i : Int))).mpr ⟨_, rfl, x, h1, h2, h3⟩)
          rw [hin] at this
          cases this
        refine ⟨.int i, rfl, u, rfl, u, n, i, ts, rfl, hA.same s2, ok, hir.1, hir.2, fun d ks H3 nd hd s3 so => ?_⟩
        have lks : ks.length ≤ n := by
          have q := pigeon n (ks.map (·.1)) so.nd fun x hx => Rch.rng ok.ok hir ((so.all x).mp hx)
          rw [List.length_map] at q
          exact q
        have hpd : pD ≠ d := ne_of_none hD nd
        have hLd : L ≠ d := ne_of_none hL nd
        -- update
        refine ⟨.ref pD, rfl, .inr (.inr (.inl ⟨rfl, .inl ⟨_, s3 _ _ hD⟩⟩)), .ref d, rfl, pD, d, kvs, kvOf ks, rfl, rfl, s3 _ _ hD, hd, hpd, (by rw [kvOf_len, sizeLine_eq]; omega), ?_⟩
        have hL4 : (upd H3 pD (.dK (mergeK kvs (kvOf ks)))) L = some (.lst bs) := by rw [upd_ne (Ne.symm hLD)]; exact s3 _ _ hL
        have hd4 : (upd H3 pD (.dK (mergeK kvs (kvOf ks)))) d = some (.dK (kvOf ks)) := by rw [upd_ne (Ne.symm hpd)]; exact hd
        have hD4 : (upd H3 pD (.dK (mergeK kvs (kvOf ks)))) pD = some (.dK (mergeK kvs (kvOf ks))) := upd_same
        have s4 : Same H1 (upd H3 pD (.dK (mergeK kvs (kvOf ks)))) := Same.mut (s2.trans s3) nDH1
        have t4 : Tk H2 (upd H3 pD (.dK (mergeK kvs (kvOf ks)))) := fun c xs e => by
          rw [upd_ne (ne_of e hD (by intro z; cases z))]
          exact s3 _ _ e
        generalize upd H3 pD (.dK (mergeK kvs (kvOf ks))) = H4 at hL4 hd4 hD4 s4 t4
        -- append
        refine ⟨.ref L, rfl, .inl ⟨rfl, _, SqL.of hL4⟩, .ref d, rfl, d, _, ks.map (·.1), rfl, Rd.of hd4, kvOf_keys ks, by rw [List.length_map]; omega, fun ys p hperm hle np => ?_⟩
        have ey : ys = partOf ts n i := by
          refine rising_ext ?_ (part_rising ts n i) fun z => ?_
          · have nd2 : ys.Nodup := hperm.nodup_iff.mpr so.nd
            exact (hle.and nd2).imp fun {x y} h => by omega
          · rw [hperm.mem_iff, so.all, mem_part]
            exact ⟨fun h => ⟨h.rng ok.ok hir, h⟩, fun h => h.2⟩
        refine ⟨p, _, rfl, .inl ⟨SqL.of upd_same, fun t nt => ?_⟩⟩
        have s6 := (same_new (o := .lst (ys.map V.int)) np).trans (same_new (o := .tup (ys.map V.int)) nt)
        have hL6 := s6 _ _ hL4
        refine ⟨L, bs, _, rfl, rfl, hL6, small1000 (by omega), ?_⟩
        have t6 : Tk H2 (upd (upd (upd H4 p (.lst (ys.map V.int))) t (.tup (ys.map V.int))) L (.lst (bs ++ [.ref t]))) := (t4.trans (Same.tk s6)).trans (tk_lst hL6)
        refine ⟨_, _, mergeK kvs (kvOf ks), bs ++ [.ref t], rfl, upd_same, ?_, ?_, ?_, fun z => ?_, Same.mut (s4.trans s6) nL⟩
        · rw [partsTo_succ, if_pos ld]
          refine Paired.snoc (parts_tk t6 hP) ⟨t, rfl, ?_⟩
          rw [← ey]
          exact tk_lst hL6 _ _ upd_same
        · rw [upd_ne hLD]
          exact s6 _ _ hD4
        · have := length_mergeK (kvOf ks) kvs
          rw [kvOf_len] at this
          omega
        · rw [mem_mergeK, hkeys, kvOf_keys]
          constructor
          · rintro (⟨y, e, h⟩ | h)
            · exact ⟨y, e, (nx y).mpr (.inl h)⟩
            · obtain ⟨y, hy, rfl⟩ := List.mem_map.mp h
              exact ⟨y, rfl, (nx y).mpr (.inr ((so.all y).mp hy))⟩
          · rintro ⟨y, rfl, h⟩
            rcases (nx y).mp h with h | h
            · exact .inl ⟨y, rfl, h⟩
            · exact .inr (List.mem_map.mpr ⟨y, (so.all y).mpr h, rfl⟩)
    · rintro σ' H2 ⟨y4, y5, kvs, bs, rfl, hL, hP, hD, hlen, hkeys, s2⟩
      refine ⟨.ref L, rfl, L, bs, rfl, .inl ⟨SqL.of hL, fun t nt => ?_⟩⟩
      exact q _ _ ((s1.trans s2).trans (same_new nt)) ⟨t, bs, rfl, upd_same, parts_tk (Same.tk (same_new nt)) hP⟩
end
/-! ### flats: a face as the law walks it (mathematics) -/
def dueW (bs : List St2) : Nat → List (Int × Int) × List (Int × Int) × (Int × Int) → List (Int × Int) × List (Int × Int) × (Int × Int)
  | 0, st => st
  | n + 1, (K, f, x) => if x ∈ K then dueW bs n (K, f, x) else dueW bs n (addP K x, f ++ [x], nxB bs x)
theorem dueW_stay {bs : List St2} {K f : List (Int × Int)} {x : Int × Int} (h : x ∈ K) : ∀ n, dueW bs n (K, f, x) = (K, f, x)
  | 0 => rfl
  | n + 1 => by
    show (if x ∈ K then dueW bs n (K, f, x) else _) = _
    rw [if_pos h]
    exact dueW_stay h n
theorem fold_mem {x : Int × Int} : ∀ {ps K : List (Int × Int)}, x ∈ ps.foldl addP K ↔ x ∈ K ∨ x ∈ ps
  | [], K => by simp
  | p :: ps, K => by
    rw [List.foldl_cons, fold_mem, addP_mem, List.mem_cons, or_assoc]
/-- whole ways round only: with a step, the one behind it and the one before it -/
def Whole (bs : List St2) (K : List (Int × Int)) : Prop := ∀ x ∈ bs.map (·.1), (x ∈ K ↔ nxB bs x ∈ K)
theorem Whole.it {bs : List St2} {K : List (Int × Int)} (w : Whole bs K) (r : Rnd bs) {s : Int × Int} (hs : s ∈ bs.map (·.1)) : ∀ n, (s ∈ K ↔ itF (nxB bs) n s ∈ K)
  | 0 => Iff.rfl
  | n + 1 => (w.it r hs n).trans (w _ (r.it hs n))
theorem cyc_at {bs : List St2} {s : Int × Int} {j : Nat} (h : j < perB bs s) : (cycB bs s)[j]? = some (itF (nxB bs) j s) := by
  unfold cycB
  rw [List.getElem?_map, List.getElem?_range h]
  rfl
theorem Rnd.walk {bs : List St2} (r : Rnd bs) {s : Int × Int} (hs : s ∈ bs.map (·.1)) {K : List (Int × Int)} (w : Whole bs K) (no : s ∉ K) : ∀ j, j ≤ perB bs s → ∀ n, dueW bs (j + n) (K, [], s) = dueW bs n (((cycB bs s).take j).foldl addP K, (cycB bs s).take j, itF (nxB bs) j s)
  | 0, _, n => by
    rw [Nat.zero_add]
    rfl
  | j + 1, h, n => by
    rw [show j + 1 + n = j + (n + 1) by omega, r.walk hs w no j (by omega) (n + 1)]
    have per := r.per hs
    have out : itF (nxB bs) j s ∉ ((cycB bs s).take j).foldl addP K := fun z => by
      rcases fold_mem.mp z with z | z
      · exact no ((w.it r hs j).mpr z)
      · obtain ⟨i, hi⟩ := List.getElem?_of_mem z
        have il := (List.getElem?_eq_some_iff.mp hi).1
        rw [List.length_take] at il
        rw [List.getElem?_take_of_lt (by omega), cyc_at (by omega)] at hi
        have e := Option.some.inj hi
        refine per.2.2.2.1 (j - i) (by omega) (by omega) (r.back hs (j - i) i ?_)
        rw [show j - i + i = j by omega]
        exact e.symm
    show (if _ then _ else _) = _
    rw [if_neg out, List.take_add_one, cyc_at (by omega), List.foldl_append]
    rfl
theorem Rnd.due {bs : List St2} (r : Rnd bs) {s : Int × Int} (hs : s ∈ bs.map (·.1)) {K : List (Int × Int)} (w : Whole bs K) (no : s ∉ K) {N : Nat} (hN : bs.length ≤ N) : dueW bs N (K, [], s) = ((cycB bs s).foldl addP K, cycB bs s, s) := by
  have per := r.per hs
  have e := r.walk hs w no (perB bs s) (Nat.le_refl _) (N - perB bs s)
  rw [show perB bs s + (N - perB bs s) = N by omega, ← cycB_len, List.take_length, cycB_len, per.2.2.1] at e
  rw [e]
  refine dueW_stay (fold_mem.mpr (.inr ?_)) _
  have := cyc_at (bs := bs) (s := s) (j := 0) (by omega)
  exact List.mem_of_getElem? this
theorem Rnd.whole {bs : List St2} (r : Rnd bs) {s : Int × Int} (hs : s ∈ bs.map (·.1)) {K : List (Int × Int)} (w : Whole bs K) : Whole bs ((cycB bs s).foldl addP K) := fun x hx => by
  have per := r.per hs
  rw [fold_mem, fold_mem, w x hx]
  have cyc : x ∈ cycB bs s ↔ nxB bs x ∈ cycB bs s := by
    constructor
    · intro h
      obtain ⟨i, hi⟩ := List.getElem?_of_mem h
      have il := (List.getElem?_eq_some_iff.mp hi).1
      rw [cycB_len] at il
      rw [cyc_at il] at hi
      obtain rfl := Option.some.inj hi
      by_cases e : i + 1 < perB bs s
      · exact List.mem_of_getElem? (cyc_at e)
      · have : nxB bs (itF (nxB bs) i s) = s := by
          show itF (nxB bs) (i + 1) s = s
          rw [show i + 1 = perB bs s by omega, per.2.2.1]
        rw [this]
        exact List.mem_of_getElem? (cyc_at (bs := bs) (s := s) (j := 0) (by omega))
    · intro h
      obtain ⟨i, hi⟩ := List.getElem?_of_mem h
      have il := (List.getElem?_eq_some_iff.mp hi).1
      rw [cycB_len] at il
      rw [cyc_at il] at hi
      have e := Option.some.inj hi
      cases i with
      | zero =>
        have e2 : nxB bs (itF (nxB bs) (perB bs s - 1) s) = s := by
          show itF (nxB bs) (perB bs s - 1 + 1) s = s
          rw [show perB bs s - 1 + 1 = perB bs s by omega, per.2.2.1]
        have : x = itF (nxB bs) (perB bs s - 1) s := r.inj hx (r.it hs _) (e.symm.trans e2.symm)
        rw [this]
        exact List.mem_of_getElem? (cyc_at (by omega))
      | succ i =>
        have : x = itF (nxB bs) i s := r.inj hx (r.it hs _) e.symm
        rw [this]
        exact List.mem_of_getElem? (cyc_at (by omega))
  rw [cyc]
theorem sorted_one {S T : List (Int × Int)} (p : S.Perm T) (hS : S.Pairwise (fun x y => SrtO.lexB y x = false)) (hT : T.Pairwise (fun x y => SrtO.lexB y x = false)) : S = T := by
  refine List.Perm.eq_of_pairwise (fun a b _ _ h1 h2 => ?_) hS hT p
  have h1 := SrtO.lexB_no.mp h1
  have h2 := SrtO.lexB_no.mp h2
  exact Prod.ext (by omega) (by omega)
def endsL (es : List (Int × Int)) (m : Nat) : List (Int × Int) := (List.range m).flatMap fun k : Nat => [((k : Int), (es.getD k (0, 0)).1), ((k : Int), (es.getD k (0, 0)).2)]
theorem endsL_succ (es : List (Int × Int)) (m : Nat) : endsL es (m + 1) = endsL es m ++ [((m : Int), (es.getD m (0, 0)).1), ((m : Int), (es.getD m (0, 0)).2)] := by
  unfold endsL
  rw [List.range_succ, List.flatMap_append]
  simp
theorem endsL_len (es : List (Int × Int)) : ∀ m, (endsL es m).length = 2 * m
  | 0 => rfl
  | m + 1 => by
    rw [endsL_succ, List.length_append, endsL_len es m]
    rfl
theorem endsL_mem {es : List (Int × Int)} {x : Int × Int} : x ∈ endsL es es.length ↔ ∃ (k : Nat) (e : Int × Int), es[k]? = some e ∧ x.1 = (k : Int) ∧ (x.2 = e.1 ∨ x.2 = e.2) := by
  unfold endsL
  rw [List.mem_flatMap]
  constructor
  · rintro ⟨k, hk, h⟩
    have hk := List.mem_range.mp hk
    have ek := List.getElem?_eq_getElem hk
    have eg : es.getD k (0, 0) = es[k] := by rw [List.getD_eq_getElem?_getD, ek]; rfl
    rw [eg] at h
    refine ⟨k, _, ek, ?_⟩
    rcases List.mem_cons.mp h with h | h
    · rw [h]; exact ⟨rfl, .inl rfl⟩
    · rw [List.mem_singleton.mp h]; exact ⟨rfl, .inr rfl⟩
  · rintro ⟨k, e, ek, h1, h2⟩
    have eg : es.getD k (0, 0) = e := by rw [List.getD_eq_getElem?_getD, ek]; rfl
    refine ⟨k, List.mem_range.mpr (List.getElem?_eq_some_iff.mp ek).1, ?_⟩
    rw [eg]
    rcases h2 with h2 | h2
    · exact List.mem_cons.mpr (.inl (Prod.ext h1 h2))
    · exact List.mem_cons.mpr (.inr (List.mem_singleton.mpr (Prod.ext h1 h2)))
theorem stepsB_few {rs : List (List Int)} {es : List (Int × Int)} (od : Ord rs es) : (stepsB es rs rs.length).length ≤ 2 * es.length := by
  have := sub_lenG (stepsB_nk od _ (Nat.le_refl _)) (ys := endsL es es.length) fun x hx => endsL_mem.mpr ((stepsB_key od).mp hx)
  rw [List.length_map, endsL_len] at this
  exact this
/-! ### k53: parts, their ties and faces -/
theorem in_ints (z : Int) (ns : List Int) : inV (.int z) (ns.map V.int) = decide (z ∈ ns) := by
  rw [Bool.eq_iff_iff, decide_eq_true_iff]
  unfold inV
  rw [List.any_map, List.any_eq_true]
  constructor
  · rintro ⟨x, hx, e⟩
    have e' : (x == z) = true := e
    rw [beq_iff_eq] at e'
    rw [← e']
    exact hx
  · intro h
    exact ⟨z, h, by show (z == z) = true; simp⟩
def tinC (ts : List Tie) (P : List Int) : Nat := ts.countP fun t => decide (t.one ∈ P)
def hdIn (P : List Int) : List Dt → Bool
  | [] => false
  | x :: _ => decide (x.2 ∈ P)
def ownC (P : List Int) (fs : List (List Dt)) : Nat := fs.countP (hdIn P)
def flatP (ts : List Tie) (fs : List (List Dt)) (P : List Int) : Bool := decide (tinC ts P = 0 ∨ P.length + ownC P fs = tinC ts P + 2)
theorem tinC_succ {ts : List Tie} {P : List Int} {i : Nat} {t : Tie} (h : ts[i]? = some t) : tinC (ts.take (i + 1)) P = tinC (ts.take i) P + if t.one ∈ P then 1 else 0 := by
  unfold tinC
  rw [List.take_add_one, h, List.countP_append]
  show _ + List.countP _ [t] = _
  rw [List.countP_singleton]
  by_cases c : t.one ∈ P
  · rw [if_pos c, if_pos (decide_eq_true c)]
  · rw [if_neg c, if_neg (by rw [decide_eq_false c]; exact Bool.false_ne_true)]
theorem ownC_succ {fs : List (List Dt)} {P : List Int} {i : Nat} {f : List Dt} (h : fs[i]? = some f) : ownC P (fs.take (i + 1)) = ownC P (fs.take i) + if hdIn P f = true then 1 else 0 := by
  unfold ownC
  rw [List.take_add_one, h, List.countP_append]
  show _ + List.countP _ [f] = _
  rw [List.countP_singleton]
theorem tinC_le (ts : List Tie) (P : List Int) : tinC ts P ≤ ts.length := List.countP_le_length
theorem ownC_le (fs : List (List Dt)) (P : List Int) : ownC P fs ≤ fs.length := List.countP_le_length
def spTiesWithin : Sp := fun vs H Q _ => ∃ (wv : V) (p : Addr) (n : Int) (ts : List Tie) (P : List Int), vs = [wv, .ref p] ∧ WebAt H wv n ts ∧ WebOk n ts ∧ H p = some (.tup (P.map V.int)) ∧ ∀ r xs H', Same H H' → H' r = some (.tup xs) → xs.length = tinC ts P → Q (.ref r) H'
theorem foldFaces {bs : List St2} : ∀ {S : List Dt} {st : List (List Dt) × List Dt} {f : List Dt}, f ∈ (S.foldl (faceStep bs) st).1 → f ∈ st.1 ∨ ∃ s ∈ S, f = cycB bs s
  | [], _, _, h => .inl h
  | s :: S, st, f, h => by
    rcases foldFaces (S := S) h with z | ⟨t, ht, e⟩
    · unfold faceStep at z
      split at z
      · exact .inl z
      · rcases List.mem_append.mp z with y | y
        · exact .inl y
        · exact .inr ⟨s, List.mem_cons_self, List.mem_singleton.mp y⟩
    · exact .inr ⟨t, List.mem_cons_of_mem _ ht, e⟩
theorem foldFaces_len {bs : List St2} : ∀ {S : List Dt} {st : List (List Dt) × List Dt}, (S.foldl (faceStep bs) st).1.length ≤ st.1.length + S.length
  | [], _ => Nat.le_add_right _ _
  | s :: S, st => by
    refine Nat.le_trans (foldFaces_len (S := S)) ?_
    rw [List.length_cons]
    unfold faceStep
    split
    · omega
    · rw [List.length_append, List.length_singleton]
      omega
theorem facesG_ne {bs : List St2} (r : Rnd bs) {S : List Dt} (p : S.Perm (bs.map (·.1))) : ∀ f ∈ (facesG bs S).1, f ≠ [] := fun f hf z => by
  rcases foldFaces hf with h | ⟨s, hs, e⟩
  · cases h
  · have := (r.per (p.mem_iff.mp hs)).1
    rw [z] at e
    have l := cycB_len bs s
    rw [← e] at l
    simp at l
    omega
theorem facesG_few {bs : List St2} {S : List Dt} : (facesG bs S).1.length ≤ S.length := by
  have := foldFaces_len (bs := bs) (S := S) (st := ([], []))
  show (S.foldl (faceStep bs) ([], [])).1.length ≤ S.length
  simpa using this
def spAreFlat : Sp := fun vs H Q _ => ∃ (wv : V) (n : Nat) (ts : List Tie) (o : Addr) (us : List V) (rs : List (List Int)) (es : List (Int × Int)), vs = [wv, .ref o] ∧ WebAt H wv n ts ∧ WebOk n ts ∧ H o = some (.tup us) ∧ Paired (IntsV H) us rs ∧ Ord rs es ∧ TwE ts es ∧ rs.length ≤ 50 ∧ es.length ≤ 100 ∧
  ∀ S H', Same H H' → S.Perm ((stepsB es rs rs.length).map (·.1)) → Q (.bl ((partsTo ts n n).all (flatP ts (facesG (stepsB es rs rs.length) S).1))) H'
def spFlatF : Sp := fun vs H Q _ => ∃ (wv : V) (n : Nat) (ts : List Tie) (o : Addr) (us : List V) (fs : List (List Dt)), vs = [wv, .ref o] ∧ WebAt H wv n ts ∧ WebOk n ts ∧ H o = some (.tup us) ∧ Paired (FcV H) us fs ∧ (∀ f ∈ fs, f ≠ []) ∧ fs.length ≤ 500 ∧
  ∀ H', Same H H' → Q (.bl ((partsTo ts n n).all (flatP ts fs))) H'
theorem part_lenF {ts : List Tie} {n : Nat} {P : List Int} (h : P ∈ partsTo ts n n) : P.length ≤ n := by
  unfold partsTo at h
  obtain ⟨s, _, rfl⟩ := List.mem_map.mp h
  unfold partOf rng
  refine Nat.le_trans (List.length_filter_le _ _) ?_
  rw [List.length_map, List.length_range]
  exact Nat.le_refl n
section
variable {P : Program} {w : World} {K : PySem.W.Frag} {mg : Str → Option Value} {base : Heap}
set_option maxHeartbeats 4000000 in
theorem ok_ties_within {f : Addr} {fd : FuncData} (F : Fun K "ties_within" "ties_within" s_ties_within f fd) (M : Free mg) (m_enumerate : mg "enumerate" = none) : FnOk P w K mg base CX0 1 f fd ["web", "part"] spTiesWithin := by
  refine F.ok sc_ties_within (fun vs H Q E h => ?_) (fun cdv A outer s H vs Q E hr h => ?_)
  · obtain ⟨wv, p, n, ts, P, rfl, _⟩ := h
    rfl
  · obtain ⟨wv, p, n, ts, P, rfl, hW, ok, hp0, q⟩ := h
    refine ⟨_, (pss_one (ps_ret (pe_callTy call_tuple_of (by rfl) M.tuple (by decide +kernel) (pa_cons (pe_lc (own := [("number", 2), ("tie", 3)]) (g := (gTup K 2 (gCons (gName 2) (gCons (gName 3) gNil)))) (te := tVar 2) rfl sc_ties_within.nd (pi_enumT (by rfl) m_enumerate (pa_cons (pe_ix ix_tup (pv 0) pe_int (fun _ _ => rfl)) pa_nil)) (blkOk_by (N := N_ties_within) (sc := defScope s_ties_within) (own := [("number", 2), ("tie", 3)]) (by decide +kernel)) (fun _ _ _ _ _ => (pg_tup rfl (pgs_cons (pg_name (i := 2) sc_ties_within.nd rfl (.inl rfl)) (pgs_cons (pg_name (i := 3) sc_ties_within.nd rfl (.inl rfl)) pgs_nil)))) (fun _ _ _ _ _ => (pts_one (pt_cmpR (r := rIn K false) op_in_seq (pe_ix (r := rIxT K) ix_tup (pv 3) pe_int (fun _ _ => rfl)) (pv 1) rfl))) (fun _ _ _ _ _ => (pv 2))) pa_nil)))), ?_⟩
    obtain ⟨wa, wb, us, rfl, hwa, hwb, hp⟩ := hW
    have hlen : us.length = ts.length := Paired.length hp
    have few := ok.few
    refine ⟨.ref wa, rfl, wa, _, 1, .ref wb, rfl, rfl, SqT.of hwa, rfl, wb, us, rfl, SqT.of hwb, fun Z nZ => ?_⟩
    refine lc_it (walk_enumT (xs := us)) (fun i H' => (∃ zs, H' Z = some (.lst zs) ∧ zs.length = tinC (ts.take i) P) ∧ Same H H') ⟨⟨[], upd_same, rfl⟩, same_new nZ⟩ (fun i H' _ h => SqT.of (h.2 _ _ hwb)) ?_ ?_
    · rintro i x H1 H2 hi ⟨⟨zs, hZ, lz⟩, s1⟩ ⟨T, x1, y, rfl, nT, rfl, e1, e2⟩
      obtain rfl : V.int (i : Nat) = x1 := Option.some.inj e1
      obtain ⟨t, et, c, rfl, hc⟩ := Paired.at hp e2
      have s2 := s1.trans (same_new (o := .tup [.int (i : Nat), .ref c]) nT)
      have hZ2 := same_new (o := .tup [.int (i : Nat), .ref c]) nT _ _ hZ
      refine ⟨T, _, rfl, SqT.of upd_same, rfl, _, _, rfl, _, _, rfl, rfl, rfl, .ref c, rfl, c, _, 0, _, rfl, rfl, SqT.of (s2 _ _ hc), rfl, .ref p, rfl, p, _, rfl, .inr (SqT.of (s2 _ _ hp0)), rfl, in_flat _, _, rfl, ?_⟩
      have lt := tinC_le (ts.take i) P
      rw [List.length_take] at lt
      rw [in_ints]
      have sc := tinC_succ (P := P) et
      by_cases hb : t.one ∈ P
      · rw [decide_eq_true hb]
        rw [if_pos hb] at sc
        exact ⟨.int i, rfl, _, hZ2, small1000 (by omega), ⟨_, upd_same, by rw [List.length_append, sc, lz]; rfl⟩, fun b o e => by rw [upd_ne (ne_of_none e nZ)]; exact s2 b o e⟩
      · rw [decide_eq_false hb]
        rw [if_neg hb] at sc
        exact ⟨⟨zs, hZ2, by rw [sc, lz]; rfl⟩, s2⟩
    · rintro H1 ⟨⟨zs, hZ, lz⟩, s1⟩
      rw [hlen, List.take_length] at lz
      refine ⟨Z, _, rfl, .inl ⟨SqL.of hZ, fun r nr => ?_⟩⟩
      exact q r _ _ (s1.trans (same_new nr)) upd_same lz
set_option maxHeartbeats 4000000 in
theorem ok_are_flat_faces {f : Addr} {fd : FuncData} (F : Fun K "are_flat_faces" "are_flat_faces" s_are_flat_faces f fd) (M : Free mg) (D_parts_of : Df P w K mg base 2 "parts_of" ["web"] spPartsOf) (D_ties_within : Df P w K mg base 1 "ties_within" ["web", "part"] spTiesWithin) : FnOk P w K mg base CX0 3 f fd ["web", "faces"] spFlatF := by
  obtain ⟨f_parts_of, fd_parts_of, G_parts_of, g_parts_of, k_parts_of, b_parts_of⟩ := D_parts_of
  obtain ⟨f_ties_within, fd_ties_within, G_ties_within, g_ties_within, k_ties_within, b_ties_within⟩ := D_ties_within
  refine F.ok sc_are_flat_faces (fun vs H Q E h => ?_) (fun cdv A outer s H vs Q E hr h => ?_)
  · obtain ⟨wv, n, ts, o, us, fs, rfl, _⟩ := h
    rfl
  · obtain ⟨wv, n, ts, o, us, fs, rfl, hW, ok, ho, hf, hne, lf0, q⟩ := h
    refine ⟨_, (pss_cons (ps_for PassesOwn.never rfl (pi_tup (pe_call G_parts_of (hr.mono (by decide)) (by rfl) g_parts_of k_parts_of b_parts_of .nil pass0 (pa_cons (pv 0) pa_nil))) (pg_name (i := 2) sc_are_flat_faces.nd rfl (.inr rfl))
        (pss_cons (ps_set (i := 3) sc_are_flat_faces.nd rfl (.inl rfl) (pe_call G_ties_within (hr.mono (by decide)) (by rfl) g_ties_within k_ties_within b_ties_within .nil pass0 (pa_cons (pv 0) (pa_cons (pv 2) pa_nil))))
        (pss_cons (ps_setLc (i := 4) (own := [("face", 5)]) (g := (gName 5)) (te := tVar 5) rfl sc_are_flat_faces.nd rfl rfl (sw_true rfl rfl rfl (by decide +kernel)) (pi_tup (pv 1)) (blkOk_by (N := N_are_flat_faces) (sc := defScope s_are_flat_faces) (own := [("face", 5)]) (by decide +kernel)) (fun _ _ _ _ _ => (pg_name (i := 5) sc_are_flat_faces.nd rfl (.inl rfl))) (fun _ _ _ _ _ => (pts_one (pt_cmpR (r := rIn K false) op_in_seq (pe_ix (r := rIxT K) ix_tup (pe_ix (r := rIxT K) ix_tup (pv 5) pe_int (fun _ _ => rfl)) pe_int (fun _ _ => rfl)) (pv 2) rfl))) (fun _ _ _ _ _ => (pv 5)))
        (pss_one (ps_if (PW.pt (pw_and (pt_truth (pv 3) (by intro _; rfl)) (pw_and1 (pt_cmpR op_ne (pe_op op_add (pe_op op_sub (pe_callB call_len_seq (by rfl) M.len PySem.boot_len (pa_cons (pv 2) pa_nil)) (pe_callB call_len_seq (by rfl) M.len PySem.boot_len (pa_cons (pv 3) pa_nil))) (pe_callB call_len_seq (by rfl) M.len PySem.boot_len (pa_cons (pv 4) pa_nil))) pe_int (nomark _)))))
          (pss_one (ps_ret pe_bl))
          pss_nil)))))
      (pss_one (ps_ret pe_bl))), ?_⟩
    have lu := Paired.length hf
    have few := ok.few
    have hi := ok.hi
    refine ⟨wv, rfl, wv, n, ts, rfl, hW, ok, fun v' H1 s1 hP => ?_⟩
    obtain ⟨pa, bs, rfl, hpa, hbs⟩ := hP
    refine ⟨pa, rfl, ⟨bs, SqT.of hpa⟩, ?_⟩
    refine for_tup (fun i σ' H' => ∃ y2 y3 y4, σ' = [some wv, some (.ref o), y2, y3, y4, none] ∧ ((partsTo ts n n).take i).all (flatP ts fs) = true ∧ Same H H' ∧ Same H1 H') ⟨none, none, none, rfl, rfl, s1, fun _ _ e => e⟩ (fun i σ' H' _ h => by
      obtain ⟨_, _, _, _, _, _, s⟩ := h
      exact SqT.of (s _ _ hpa)) ?_ ?_
    · rintro i x σ' H2 ex ⟨y2, y3, y4, rfl, al, s2, s12⟩
      obtain ⟨P, eP, p, rfl, hp0⟩ := Paired.at hbs ex
      have hpm : P ∈ partsTo ts n n := List.mem_of_getElem? eP
      have lP := part_lenF hpm
      refine ⟨wv, rfl, .ref p, rfl, wv, p, n, ts, P, rfl, hW.tk (Same.tk s2), ok, s12 _ _ hp0, fun r xs H3 s3 hr3 lx => ?_⟩
      have s3H := s2.trans s3
      have lt := tinC_le ts P
      refine ⟨.ref o, rfl, o, rfl, ⟨us, SqT.of (s3H _ _ ho)⟩, fun Z nZ => ?_⟩
      refine lc_tup (xs := us) (fun j H' => (∃ zs, H' Z = some (.lst zs) ∧ zs.length = ownC P (fs.take j)) ∧ Same H3 H') ⟨⟨[], upd_same, rfl⟩, same_new nZ⟩ (fun j H' _ h => SqT.of (h.2 _ _ (s3H _ _ ho))) ?_ ?_
      · rintro j x H4 ex4 ⟨⟨zs, hZ, lz⟩, s4⟩
        obtain ⟨face, ef, c, ws, rfl, hc, hws⟩ := Paired.at hf ex4
        have s4H := s3H.trans s4
        obtain ⟨d, ds, efd⟩ : ∃ d ds, face = d :: ds := by
          cases face with
          | nil => exact (hne _ (List.mem_of_getElem? ef) rfl).elim
          | cons d ds => exact ⟨d, ds, rfl⟩
        subst efd
        obtain ⟨u0, eu0, c0, rfl, hc0⟩ := Paired.at' hws (i := 0) (b := d) rfl
        have lo := ownC_le (fs.take j) P
        rw [List.length_take] at lo
        refine ⟨rfl, .ref c, rfl, c, _, 0, .ref c0, rfl, rfl, SqT.of (s4H _ _ hc), atI_nat (j := 0) eu0, c0, _, 1, .int d.2, rfl, rfl, SqT.of (s4H _ _ hc0), rfl, .ref p, rfl, p, _, rfl, .inr (SqT.of ((s12.trans s3).trans s4 _ _ hp0)), rfl, in_flat _, _, rfl, ?_⟩
        have sc := ownC_succ (P := P) ef
        rw [in_ints]
        have hd : hdIn P (d :: ds) = decide (d.2 ∈ P) := rfl
        rw [hd] at sc
        by_cases hb : d.2 ∈ P
        · rw [decide_eq_true hb]
          rw [decide_eq_true hb, if_pos rfl] at sc
          exact ⟨.ref c, rfl, _, hZ, small1000 (by omega), ⟨_, upd_same, by rw [List.length_append, sc, lz]; rfl⟩, Same.mut s4 nZ⟩
        · rw [decide_eq_false hb]
          rw [decide_eq_false hb, if_neg Bool.false_ne_true] at sc
          exact ⟨⟨zs, hZ, by rw [sc, lz]; rfl⟩, s4⟩
      · rintro H4 ⟨⟨zs, hZ, lz⟩, s4⟩
        rw [lu, List.take_length] at lz
        have s4H := s3H.trans s4
        have lo := ownC_le fs P
        have fP : flatP ts fs P = decide (tinC ts P = 0 ∨ P.length + ownC P fs = tinC ts P + 2) := rfl
        have hr4 := s4 _ _ hr3
        have step : flatP ts fs P = true → ((partsTo ts n n).take (i + 1)).all (flatP ts fs) = true := fun z => by
          rw [List.take_add_one, eP, List.all_append, al]
          show (true && (flatP ts fs P && true)) = true
          rw [z]
          rfl
        have hp4 := ((s12.trans s3).trans s4) _ _ hp0
        have s14 := (s12.trans s3).trans s4
        refine ⟨.ref r, rfl, !xs.isEmpty, .inr (.inl ⟨xs, SqT.of hr4, rfl⟩), ?_⟩
        cases xs with
        | nil =>
          refine ⟨_, _, _, rfl, step ?_, s4H, s14⟩
          rw [fP]
          exact decide_eq_true (.inl lx.symm)
        | cons z0 zs0 =>
          refine ⟨.ref p, rfl, p, _, rfl, .inr (SqT.of hp4), .ref r, rfl, r, _, rfl, .inr (SqT.of hr4), _, _, rfl, rfl, .ref Z, rfl, Z, _, rfl, .inl (SqL.of hZ), _, _, rfl, rfl, ?_⟩
          rw [List.length_map, lx, lz]
          have lx' : tinC ts P ≠ 0 := by rw [← lx]; exact Nat.succ_ne_zero _
          by_cases hb : P.length + ownC P fs = tinC ts P + 2
          · refine ⟨rfl, false, congrArg V.bl (by
              show (!decide (V.int ((P.length : Int) - (tinC ts P : Nat) + (ownC P fs : Nat)) = V.int 2)) = false
              rw [dec_intF, decide_eq_true (by omega)]
              rfl), ?_⟩
            refine ⟨_, _, _, rfl, step ?_, s4H, s14⟩
            rw [fP]
            exact decide_eq_true (.inr hb)
          · refine ⟨rfl, true, congrArg V.bl (by
              show (!decide (V.int ((P.length : Int) - (tinC ts P : Nat) + (ownC P fs : Nat)) = V.int 2)) = true
              rw [dec_intF, decide_eq_false (by omega)]
              rfl), ?_⟩
            have fl : (partsTo ts n n).all (flatP ts fs) = false := by
              rw [List.all_eq_false]
              refine ⟨P, hpm, ?_⟩
              rw [fP, decide_eq_false (fun z => z.elim lx' hb)]
              exact Bool.false_ne_true
            have := q H4 s4H
            rw [fl] at this
            exact this
    · rintro σ' H2 ⟨y2, y3, y4, rfl, al, s2, s12⟩
      have lb := Paired.length hbs
      rw [lb, List.take_length] at al
      have := q H2 s2
      rw [al] at this
      exact this
end
/-! ### the faces that are told are the ways round -/
theorem nxR_iff {es : List (Int × Int)} {rs : List (List Int)} {x y : Dt} : NxR es rs x y ↔ (x, y) ∈ stepsB es rs rs.length := by
  rw [stepsB_mem]
  constructor
  · rintro ⟨p, row, e1, e2, e3, i, hi, c1, c2⟩
    have hp := (List.getElem?_eq_some_iff.mp e1).1
    have er : rs.getD p [] = row := by rw [List.getD_eq_getElem?_getD, e1]; rfl
    refine ⟨p, hp, ?_⟩
    rw [er, stepR_memI]
    have g1 : row.getD i 0 = x.1 := by rw [List.getD_eq_getElem?_getD, c1]; rfl
    have g2 : row.getD ((i + 1) % row.length) 0 = y.1 := by rw [List.getD_eq_getElem?_getD, c2]; rfl
    refine ⟨i, hi, ?_⟩
    rw [g1, g2, ← e3, ← e2]
  · rintro ⟨p, hp, h⟩
    have e1 : rs[p]? = some (rs.getD p []) := by rw [List.getD_eq_getElem?_getD, List.getElem?_eq_getElem hp]; rfl
    obtain ⟨i, hi, e⟩ := stepR_memI.mp h
    generalize rs.getD p [] = row at e1 hi e
    have ex : x = (row.getD i 0, othE es (row.getD i 0) p) := congrArg Prod.fst e
    have ey : y = (row.getD ((i + 1) % row.length) 0, (p : Int)) := congrArg Prod.snd e
    have l2 := Nat.mod_lt (i + 1) (show 0 < row.length by omega)
    refine ⟨p, row, e1, by rw [ey], by rw [ex], i, hi, ?_, ?_⟩
    · rw [ex, List.getD_eq_getElem?_getD, List.getElem?_eq_getElem hi]; rfl
    · rw [ey, List.getD_eq_getElem?_getD, List.getElem?_eq_getElem l2]; rfl
theorem dtE_iff {es : List (Int × Int)} {rs : List (List Int)} (od : Ord rs es) {x : Dt} : DtE es x ↔ x ∈ (stepsB es rs rs.length).map (·.1) := (stepsB_key od).symm
def BsR (bs : List St2) (x y : Dt) : Prop := (x, y) ∈ bs
theorem itF_wk {bs : List St2} {s : Dt} (h : ∀ n, (itF (nxB bs) n s, itF (nxB bs) (n + 1) s) ∈ bs) : ∀ m k, Wk (BsR bs) (itF (nxB bs) k s) ((List.range m).map fun n => itF (nxB bs) (k + 1 + n) s) (itF (nxB bs) (k + 1 + m) s)
  | 0, k => h k
  | m + 1, k => by
    rw [List.range_succ_eq_map, List.map_cons, List.map_map]
    refine ⟨h k, ?_⟩
    have := itF_wk h m (k + 1)
    have e1 : (fun n => itF (nxB bs) (k + 1 + 1 + n) s) = ((fun n => itF (nxB bs) (k + 1 + n) s) ∘ Nat.succ) := by
      funext n
      show itF (nxB bs) (k + 1 + 1 + n) s = itF (nxB bs) (k + 1 + (n + 1)) s
      rw [show k + 1 + 1 + n = k + 1 + (n + 1) by omega]
    rw [e1, show k + 1 + 1 + m = k + 1 + (m + 1) by omega] at this
    exact this
theorem Rnd.cyR {bs : List St2} (r : Rnd bs) {s : Dt} (hs : s ∈ bs.map (·.1)) : CyR (BsR bs) (cycB bs s) := by
  obtain ⟨c1, _, cc, _, _⟩ := r.per hs
  obtain ⟨m, em⟩ : ∃ m, perB bs s = m + 1 := ⟨perB bs s - 1, by omega⟩
  have st : ∀ n, (itF (nxB bs) n s, itF (nxB bs) (n + 1) s) ∈ bs := fun n => nxB_mem (r.it hs n)
  have := itF_wk st m 0
  unfold cycB
  rw [em, List.range_succ_eq_map, List.map_cons, List.map_map]
  have e1 : (fun n => itF (nxB bs) (0 + 1 + n) s) = ((fun n => itF (nxB bs) n s) ∘ Nat.succ) := by
    funext n
    show itF (nxB bs) (0 + 1 + n) s = itF (nxB bs) (n + 1) s
    rw [show 0 + 1 + n = n + 1 by omega]
  rw [e1, show 0 + 1 + m = m + 1 by omega, ← em, cc] at this
  exact this
theorem Rnd.cyN {bs : List St2} (r : Rnd bs) {s : Dt} (hs : s ∈ bs.map (·.1)) : (cycB bs s).Nodup := by
  obtain ⟨c1, _, cc, no, _⟩ := r.per hs
  unfold cycB
  rw [List.nodup_iff_pairwise_ne, List.pairwise_map]
  refine (List.pairwise_lt_range).imp_of_mem fun {a b} ha hb lt e => ?_
  have hb' := List.mem_range.mp hb
  refine no (b - a) (by omega) (by omega) (r.back hs (b - a) a ?_)
  rw [show b - a + a = b by omega]
  exact e.symm
structure FInv (bs : List St2) (st : List (List Dt) × List Dt) : Prop where
  mem : ∀ x, x ∈ st.2 ↔ ∃ f ∈ st.1, x ∈ f
  wh : Whole bs st.2
  cy : ∀ f ∈ st.1, ∃ s ∈ bs.map (·.1), f = cycB bs s
  dj : st.1.Pairwise fun f g => ∀ x ∈ f, x ∉ g
theorem FInv.step {bs : List St2} (r : Rnd bs) {st : List (List Dt) × List Dt} (h : FInv bs st) {s : Dt} (hs : s ∈ bs.map (·.1)) : FInv bs (faceStep bs st s) ∧ s ∈ (faceStep bs st s).2 ∧ ∀ x ∈ st.2, x ∈ (faceStep bs st s).2 := by
  unfold faceStep
  by_cases c : s ∈ st.2
  · rw [if_pos c]
    exact ⟨h, c, fun _ z => z⟩
  · rw [if_neg c]
    have s0 : s ∈ cycB bs s := by
      have := (r.per hs).2.2.2.2.hd
      exact List.mem_of_getElem? this
    refine ⟨⟨fun x => ?_, r.whole hs h.wh, fun f hf => ?_, ?_⟩, fold_mem.mpr (.inr s0), fun x hx => fold_mem.mpr (.inl hx)⟩
    · show x ∈ (cycB bs s).foldl addP st.2 ↔ _
      rw [fold_mem, h.mem x]
      constructor
      · rintro (⟨f, hf, xf⟩ | hx)
        · exact ⟨f, List.mem_append_left _ hf, xf⟩
        · exact ⟨_, List.mem_append_right _ (List.mem_singleton.mpr rfl), hx⟩
      · rintro ⟨f, hf, xf⟩
        rcases List.mem_append.mp hf with z | z
        · exact .inl ⟨f, z, xf⟩
        · exact .inr (List.mem_singleton.mp z ▸ xf)
    · rcases List.mem_append.mp hf with z | z
      · exact h.cy f z
      · exact ⟨s, hs, List.mem_singleton.mp z⟩
    · refine List.pairwise_append.mpr ⟨h.dj, List.pairwise_singleton _ _, fun f hf g hg x xf xg => ?_⟩
      rw [List.mem_singleton.mp hg] at xg
      unfold cycB at xg
      obtain ⟨n, _, rfl⟩ := List.mem_map.mp xg
      exact c ((h.wh.it r hs n).mpr ((h.mem _).mpr ⟨f, hf, xf⟩))
theorem FInv.fold {bs : List St2} (r : Rnd bs) : ∀ {S : List Dt} {st : List (List Dt) × List Dt}, (∀ s ∈ S, s ∈ bs.map (·.1)) → FInv bs st → FInv bs (S.foldl (faceStep bs) st) ∧ ∀ x, x ∈ st.2 ∨ x ∈ S → x ∈ (S.foldl (faceStep bs) st).2
  | [], _, _, h => ⟨h, fun x z => z.elim id fun z => (by cases z)⟩
  | s :: S, st, hS, h => by
    obtain ⟨h1, h2, h3⟩ := h.step r (hS s List.mem_cons_self)
    obtain ⟨h4, h5⟩ := FInv.fold r (S := S) (fun t ht => hS t (List.mem_cons_of_mem _ ht)) h1
    refine ⟨h4, fun x z => ?_⟩
    rcases z with z | z
    · exact h5 x (.inl (h3 x z))
    · rcases List.mem_cons.mp z with e | z
      · exact h5 x (.inl (e ▸ h2))
      · exact h5 x (.inr z)
theorem facesG_dec {bs : List St2} (r : Rnd bs) {S : List Dt} (hS : ∀ x, x ∈ S ↔ x ∈ bs.map (·.1)) : Dec (BsR bs) (fun x => x ∈ bs.map (·.1)) (facesG bs S).1 := by
  obtain ⟨h1, h2⟩ := FInv.fold r (S := S) (st := ([], [])) (fun s hs => (hS s).mp hs) ⟨fun x => ⟨fun z => (by cases z), fun ⟨f, z, _⟩ => (by cases z)⟩, fun x _ => ⟨fun z => (by cases z), fun z => (by cases z)⟩, fun f z => (by cases z), List.Pairwise.nil⟩
  refine ⟨fun f hf => ?_, fun f hf => ?_, h1.dj, fun x => ⟨fun hx => (h1.mem x).mp (h2 x (.inr ((hS x).mpr hx))), fun ⟨f, hf, xf⟩ => ?_⟩⟩
  · obtain ⟨s, hs, rfl⟩ := h1.cy f hf
    exact r.cyR hs
  · obtain ⟨s, hs, rfl⟩ := h1.cy f hf
    exact r.cyN hs
  · obtain ⟨s, hs, rfl⟩ := h1.cy f hf
    exact r.cyc_in hs x xf
theorem facesG_decE {es : List (Int × Int)} {rs : List (List Int)} (od : Ord rs es) {S : List Dt} (hS : ∀ x, x ∈ S ↔ x ∈ (stepsB es rs rs.length).map (·.1)) : Dec (NxR es rs) (DtE es) (facesG (stepsB es rs rs.length) S).1 := by
  have h := facesG_dec (stepsB_rnd od) hS
  exact ⟨fun f hf => (h.cy f hf).keep fun x y _ z => nxR_iff.mpr z, h.nd, h.dj, fun x => (dtE_iff od).trans (h.all x)⟩
theorem rgV_ints (n : Nat) : rgV 0 n = (rng n).map V.int := by
  unfold rgV rng
  rw [List.map_map, show ((n : Int) - 0).toNat = n from by omega]
  refine List.map_congr_left fun i _ => ?_
  show V.int (0 + (i : Int)) = V.int i
  rw [Int.zero_add]
/-! ### the law: the least place that each comes to -/
theorem relax_eq (f : Int → Int) (t : Tie) (y : Int) (hy : y = min (f t.one) (f t.other)) : (fun x => if x = t.other then y else if x = t.one then y else f x) = relax f t := by
  funext x
  unfold relax
  by_cases h1 : x = t.other
  · rw [if_pos h1, if_pos (.inr h1), hy]
  · by_cases h2 : x = t.one
    · rw [if_neg h1, if_pos h2, if_pos (.inl h2), hy]
    · rw [if_neg h1, if_neg h2, if_neg (fun h => h.elim h2 h1)]
def spPartOfL : Sp := fun vs H Q _ => ∃ (v : V) (n : Nat) (ts : List Tie), vs = [v] ∧ WebAt H v n ts ∧ WebOk n ts ∧
  ∀ a H', H a = none → Same H H' → H' a = some (.lst (lf (rounds ts n) n)) → Q (.ref a) H'
section
variable {P : Program} {w : World} {K : PySem.W.Frag} {mg : Str → Option Value} {base : Heap}
end
/-! ### flat or not: whatever the order of the faces, however the rows are turned -/
theorem Dec.fc {R : Dt → Dt → Prop} {D : Dt → Prop} {lab : Int → Int} {fs gs : List (List Dt)} (fn : ∀ x y y', R x y → R x y' → y = y') (nx : ∀ x y, R x y → lab x.2 = lab y.2) (h : Dec R D fs) (k : Dec R D gs) (c : Int) : fcC lab fs c = fcC lab gs c := by
  have one : ∀ {fs gs : List (List Dt)}, Dec R D fs → Dec R D gs → fcC lab fs c ≤ fcC lab gs c := fun {fs gs} h k => by
    refine h.le fn k _ fun f hf g hg ⟨x, xf, xg⟩ e => ?_
    have e' := of_decide_eq_true e
    rw [(h.cy f hf).hl nx xf] at e'
    exact decide_eq_true (by rw [(k.cy g hg).hl nx xg]; exact e')
  exact Nat.le_antisymm (one h k) (one k h)
def tcT (lab : Int → Int) (ts : List Tie) (c : Int) : Nat := ts.countP fun t => decide (lab t.one = c)
def FlatL (lab : Int → Int) (n : Nat) (ts : List Tie) (fs : List (List Dt)) : Prop := ∀ t ∈ ts, plC lab n (lab t.one) + fcC lab fs (lab t.one) = tcT lab ts (lab t.one) + 2
theorem FlatL.of {lab : Int → Int} {n : Nat} {ts : List Tie} {fs gs : List (List Dt)} (e : ∀ c, fcC lab fs c = fcC lab gs c) : FlatL lab n ts fs ↔ FlatL lab n ts gs :=
  ⟨fun h t ht => by rw [← e]; exact h t ht, fun h t ht => by rw [e]; exact h t ht⟩
theorem tw_lab {ts : List Tie} {es : List (Int × Int)} (tw : TwE ts es) {lab : Int → Int} : (∀ e ∈ es, lab e.1 = lab e.2) ↔ ∀ t ∈ ts, lab t.one = lab t.other := by
  constructor
  · intro h t ht
    obtain ⟨k, ek⟩ := List.getElem?_of_mem ht
    have hk := (List.getElem?_eq_some_iff.mp ek).1
    have ee := List.getElem?_eq_getElem (show k < es.length by rw [← tw.1]; exact hk)
    have := h _ (List.getElem_mem (show k < es.length by rw [← tw.1]; exact hk))
    rcases tw.2 k t _ ek ee with z | z <;> rw [z.1, z.2]
    · exact this
    · exact this.symm
  · intro h e he
    obtain ⟨k, ek⟩ := List.getElem?_of_mem he
    have hk := (List.getElem?_eq_some_iff.mp ek).1
    have ee := List.getElem?_eq_getElem (show k < ts.length by rw [tw.1]; exact hk)
    have := h _ (List.getElem_mem (show k < ts.length by rw [tw.1]; exact hk))
    rcases tw.2 k _ e ee ek with z | z <;> rw [z.1, z.2] at this
    · exact this
    · exact this.symm
theorem tc_eq {lab : Int → Int} {c : Int} : ∀ {ts : List Tie} {es : List (Int × Int)}, TwE ts es → (∀ e ∈ es, lab e.1 = lab e.2) → tcT lab ts c = tcC lab es c
  | [], [], _, _ => rfl
  | [], e :: es, tw, _ => by have := tw.1; simp at this
  | t :: ts, [], tw, _ => by have := tw.1; simp at this
  | t :: ts, e :: es, tw, l => by
    have ih := tc_eq (lab := lab) (c := c) (ts := ts) (es := es) ⟨by have := tw.1; simpa using this, fun k t' e' h1 h2 => tw.2 (k + 1) t' e' h1 h2⟩ fun e' he => l e' (List.mem_cons_of_mem _ he)
    have le := l e List.mem_cons_self
    have : lab t.one = lab e.1 := by
      rcases tw.2 0 t e rfl rfl with z | z <;> rw [z.1]
      exact le.symm
    unfold tcT tcC at ih ⊢
    rw [List.countP_cons, List.countP_cons, ih, this]
theorem cn_rch {ts : List Tie} {es : List (Int × Int)} (tw : TwE ts es) {p q : Int} (h : Cn es p q) : Rch ts p q := by
  have adj : ∀ e ∈ es, Rch ts e.1 e.2 := fun e he => by
    obtain ⟨k, ek⟩ := List.getElem?_of_mem he
    have hk : k < ts.length := by rw [tw.1]; exact (List.getElem?_eq_some_iff.mp ek).1
    have ee := List.getElem?_eq_getElem hk
    rcases tw.2 k _ e ee ek with z | z
    · exact Rch.adj ⟨_, List.getElem_mem hk, rfl, .inl ⟨z.1, z.2⟩⟩
    · exact Rch.adj ⟨_, List.getElem_mem hk, rfl, .inr ⟨z.1, z.2⟩⟩
  induction h with
  | refl => exact Rch.refl
  | fwd _ m ih => exact ih.trans (adj _ m)
  | bwd _ m ih => exact ih.trans (adj _ m).symm
theorem rch_lab {ts : List Tie} {lab : Int → Int} (l : ∀ t ∈ ts, lab t.one = lab t.other) {p q : Int} (h : Rch ts p q) : lab p = lab q := by
  refine h.ind (fun x => lab p = lab x) rfl fun x y k e ⟨t, ht, _, a⟩ => ?_
  rcases a with z | z
  · rw [e, ← z.1, ← z.2]; exact l t ht
  · rw [e, ← z.1, ← z.2]; exact (l t ht).symm
/-- what is grown is flat. -/
theorem Eul.flat {es : List (Int × Int)} {rs : List (List Int)} {lab : Int → Int} {fs : List (List Dt)} (u : Eul es rs lab fs) {ts : List Tie} (tw : TwE ts es) : FlatL lab rs.length ts fs := fun t ht => by
  obtain ⟨k, ek⟩ := List.getElem?_of_mem ht
  have hk : k < es.length := by rw [← tw.1]; exact (List.getElem?_eq_some_iff.mp ek).1
  have ee := List.getElem?_eq_getElem hk
  have hm := List.getElem_mem hk
  generalize es[k] = e at ee hm
  have en := u.od.ends e hm
  have lt : lab t.one = lab e.1 := by
    rcases tw.2 k t e ek ee with z | z <;> rw [z.1]
    exact (u.tie e hm).symm
  have hp : e.1.toNat < rs.length := by omega
  have er := List.getElem?_eq_getElem hp
  have ie : ((e.1.toNat : Nat) : Int) = e.1 := by omega
  have hx := (u.od.mem _ _ er (k : Int)).mpr ⟨k, e, rfl, ee, .inl ie.symm⟩
  have := u.eul _ _ er (fun z => by rw [z] at hx; cases hx)
  rw [ie] at this
  rw [lt, tc_eq tw u.tie]
  exact this
theorem part_lab {ts : List Tie} {n : Nat} {lab : Int → Int} (cls : ∀ x y, 0 ≤ x ∧ x < (n : Int) → 0 ≤ y ∧ y < (n : Int) → (lab x = lab y ↔ Rch ts x y)) {s z : Int} (hs : 0 ≤ s ∧ s < (n : Int)) (hz : 0 ≤ z ∧ z < (n : Int)) : z ∈ partOf ts n s ↔ lab z = lab s := by
  rw [mem_part, ← cls s z hs hz]
  exact ⟨fun h => h.2.symm, fun h => ⟨hz, h.symm⟩⟩
open Classical in
theorem flat_iff {ts : List Tie} {n : Nat} {lab : Int → Int} {fs : List (List Dt)} (ok : ∀ t ∈ ts, TieOk n t) (cls : ∀ x y, 0 ≤ x ∧ x < (n : Int) → 0 ≤ y ∧ y < (n : Int) → (lab x = lab y ↔ Rch ts x y)) (rg : ∀ f ∈ fs, ∀ x ∈ f, 0 ≤ x.2 ∧ x.2 < (n : Int)) : (partsTo ts n n).all (flatP ts fs) = true ↔ FlatL lab n ts fs := by
  have hlen : ∀ s, 0 ≤ s ∧ s < (n : Int) → (partOf ts n s).length = plC lab n (lab s) := fun s hs => by
    unfold partOf plC rng
    rw [← List.countP_eq_length_filter, List.countP_map]
    refine List.countP_congr fun p hp => ?_
    have hp' := List.mem_range.mp hp
    show decide (Rch ts s p) = true ↔ decide (lab p = lab s) = true
    rw [decide_eq_true_iff, decide_eq_true_iff, ← cls s p hs (by omega)]
    exact ⟨fun h => h.symm, fun h => h.symm⟩
  have htin : ∀ s, 0 ≤ s ∧ s < (n : Int) → tinC ts (partOf ts n s) = tcT lab ts (lab s) := fun s hs => by
    refine List.countP_congr fun t ht => ?_
    have o := ok t ht
    rw [decide_eq_true_iff, decide_eq_true_iff]
    exact part_lab cls hs ⟨o.1, o.2.1⟩
  have hown : ∀ s, 0 ≤ s ∧ s < (n : Int) → ownC (partOf ts n s) fs = fcC lab fs (lab s) := fun s hs => by
    refine List.countP_congr fun f hf => ?_
    cases f with
    | nil =>
      show (false = true) ↔ decide ((none : Option Int) = some (lab s)) = true
      simp
    | cons x xs =>
      show decide (x.2 ∈ partOf ts n s) = true ↔ decide (some (lab x.2) = some (lab s)) = true
      rw [decide_eq_true_iff, decide_eq_true_iff, Option.some.injEq]
      exact part_lab cls hs (rg _ hf x List.mem_cons_self)
  rw [List.all_eq_true]
  constructor
  · intro h t ht
    have o := ok t ht
    have ho : 0 ≤ t.one ∧ t.one < (n : Int) := ⟨o.1, o.2.1⟩
    obtain ⟨m, lm, hm, rm⟩ := has_leader ok ho
    have lt : lab t.one = lab m := ((cls m t.one hm ho).mpr rm).symm
    have := h (partOf ts n m) (by
      unfold partsTo
      exact List.mem_map.mpr ⟨m, List.mem_filter.mpr ⟨mem_rng.mpr hm, decide_eq_true lm⟩, rfl⟩)
    unfold flatP at this
    rw [decide_eq_true_iff, hlen m hm, htin m hm, hown m hm] at this
    rw [lt]
    refine this.resolve_left fun z => ?_
    exact List.countP_eq_zero.mp z t ht (decide_eq_true lt)
  · intro h P hP
    unfold partsTo at hP
    obtain ⟨s, hs, rfl⟩ := List.mem_map.mp hP
    have hs' := mem_rng.mp (List.mem_filter.mp hs).1
    unfold flatP
    rw [decide_eq_true_iff, hlen s hs', htin s hs', hown s hs']
    by_cases z : tcT lab ts (lab s) = 0
    · exact .inl z
    · obtain ⟨t, ht, e⟩ := List.countP_pos_iff.mp (Nat.pos_of_ne_zero z)
      have e' := of_decide_eq_true e
      have := h t ht
      rw [e'] at this
      exact .inr this
/-! ### flat or not: the rows turned, the rows backwards -/
theorem Rot.nx {es : List (Int × Int)} {rs rs' : List (List Int)} (h : Rot rs rs') {x y : Dt} (r : NxR es rs x y) : NxR es rs' x y := by
  obtain ⟨p, row, e1, e2, e3, c⟩ := r
  have hp := (List.getElem?_eq_some_iff.mp e1).1
  have er := List.getElem?_eq_getElem (show p < rs'.length by rw [h.len]; exact hp)
  obtain ⟨k, hk, e⟩ := h.each p row _ e1 er
  exact ⟨p, _, er, e2, e3, by rw [e]; exact c.rot hk⟩
def flipD (es : List (Int × Int)) (x : Dt) : Dt := (x.1, othE es x.1 x.2)
theorem othE_oth (es : List (Int × Int)) (k p : Int) : othE es k (othE es k p) = p := by
  unfold othE
  omega
theorem flip_flip (es : List (Int × Int)) (x : Dt) : flipD es (flipD es x) = x := Prod.ext rfl (othE_oth es x.1 x.2)
theorem DtE.flip {es : List (Int × Int)} {x : Dt} (h : DtE es x) : DtE es (flipD es x) := by
  obtain ⟨k, e, ek, e1, c⟩ := h
  have eo : ∀ p, othE es x.1 p = e.1 + e.2 - p := fun p => by
    unfold othE
    rw [e1, Int.toNat_natCast, List.getD_eq_getElem?_getD, ek]
    rfl
  refine ⟨k, e, ek, e1, ?_⟩
  show othE es x.1 x.2 = e.1 ∨ othE es x.1 x.2 = e.2
  rw [eo]
  rcases c with z | z <;> rw [z]
  · right; omega
  · left; omega
theorem CS.rev {row : List Int} {a b : Int} (h : CS row a b) : CS row.reverse b a := by
  obtain ⟨i, hi, e1, e2⟩ := h
  have hl : row.reverse.length = row.length := List.length_reverse
  by_cases c : i + 1 < row.length
  · rw [Nat.mod_eq_of_lt c] at e2
    refine ⟨row.length - 1 - (i + 1), by rw [hl]; omega, ?_, ?_⟩
    · rw [List.getElem?_reverse (by omega), show row.length - 1 - (row.length - 1 - (i + 1)) = i + 1 by omega]
      exact e2
    · rw [hl, show row.length - 1 - (i + 1) + 1 = row.length - 1 - i by omega, Nat.mod_eq_of_lt (by omega), List.getElem?_reverse (by omega), show row.length - 1 - (row.length - 1 - i) = i by omega]
      exact e1
  · have ei : i + 1 = row.length := by omega
    rw [ei, Nat.mod_self] at e2
    refine ⟨row.length - 1, by rw [hl]; omega, ?_, ?_⟩
    · rw [List.getElem?_reverse (by omega), show row.length - 1 - (row.length - 1) = 0 by omega]
      exact e2
    · rw [hl, show row.length - 1 + 1 = row.length by omega, Nat.mod_self, List.getElem?_reverse (by omega), show row.length - 1 - 0 = i by omega]
      exact e1
theorem NxR.rev {es : List (Int × Int)} {rs : List (List Int)} {x y : Dt} (r : NxR es rs x y) : NxR es (rs.map List.reverse) (flipD es y) (flipD es x) := by
  obtain ⟨p, row, e1, e2, e3, c⟩ := r
  refine ⟨p, row.reverse, by rw [List.getElem?_map, e1]; rfl, ?_, ?_, c.rev⟩
  · show othE es x.1 x.2 = (p : Int)
    rw [e3, othE_oth]
  · show othE es y.1 y.2 = othE es y.1 (p : Int)
    rw [e2]
theorem Wk.rev {R R' : Dt → Dt → Prop} {φ : Dt → Dt} (k : ∀ x y, R x y → R' (φ y) (φ x)) {b : Dt} : ∀ {xs : List Dt} {a : Dt}, Wk R a xs b → Wk R' (φ b) (xs.map φ).reverse (φ a)
  | [], _, h => k _ _ h
  | c :: cs, a, h => by
    rw [List.map_cons, List.reverse_cons]
    exact Wk.app.mpr ⟨Wk.rev k h.2, k _ _ h.1⟩
def mirF (es : List (Int × Int)) : List Dt → List Dt
  | [] => []
  | x :: xs => flipD es x :: (xs.map (flipD es)).reverse
theorem mem_mirF {es : List (Int × Int)} {f : List Dt} {z : Dt} : z ∈ mirF es f ↔ flipD es z ∈ f := by
  have key : ∀ l : List Dt, z ∈ l.map (flipD es) ↔ flipD es z ∈ l := fun l => by
    rw [List.mem_map]
    constructor
    · rintro ⟨w, hw, rfl⟩
      rw [flip_flip]
      exact hw
    · intro h
      exact ⟨_, h, flip_flip es z⟩
  cases f with
  | nil => exact ⟨fun h => (by cases h), fun h => (by cases h)⟩
  | cons x xs =>
    show z ∈ flipD es x :: (xs.map (flipD es)).reverse ↔ _
    rw [List.mem_cons, List.mem_reverse, key, List.mem_cons]
    refine or_congr_left ⟨fun h => by rw [h, flip_flip], fun h => by rw [← h, flip_flip]⟩
theorem Dec.rev {es : List (Int × Int)} {rs : List (List Int)} {fs : List (List Dt)} (h : Dec (NxR es rs) (DtE es) fs) : Dec (NxR es (rs.map List.reverse)) (DtE es) (fs.map (mirF es)) := by
  refine ⟨fun g hg => ?_, fun g hg => ?_, ?_, fun x => ⟨fun hx => ?_, fun ⟨g, hg, xg⟩ => ?_⟩⟩
  · obtain ⟨f, hf, rfl⟩ := List.mem_map.mp hg
    have := h.cy f hf
    cases f with
    | nil => exact this
    | cons x xs => exact Wk.rev (R := NxR es rs) (fun a b r => r.rev) this
  · obtain ⟨f, hf, rfl⟩ := List.mem_map.mp hg
    have := h.nd f hf
    cases f with
    | nil => exact List.nodup_nil
    | cons x xs =>
      have n1 := List.nodup_cons.mp this
      have inj : ∀ a b : Dt, flipD es a = flipD es b → a = b := fun a b e => by rw [← flip_flip es a, e, flip_flip]
      refine List.nodup_cons.mpr ⟨fun z => ?_, ?_⟩
      · obtain ⟨w, hw, e⟩ := List.mem_map.mp (List.mem_reverse.mp z)
        exact n1.1 (inj _ _ e ▸ hw)
      · refine (List.reverse_perm _).nodup_iff.mpr ?_
        rw [List.nodup_iff_pairwise_ne, List.pairwise_map]
        exact (List.nodup_iff_pairwise_ne.mp n1.2).imp fun ne e => ne (inj _ _ e)
  · rw [List.pairwise_map]
    exact h.dj.imp fun k x hx hy => k _ (mem_mirF.mp hx) (mem_mirF.mp hy)
  · obtain ⟨f, hf, xf⟩ := (h.all _).mp hx.flip
    exact ⟨_, List.mem_map.mpr ⟨f, hf, rfl⟩, mem_mirF.mpr xf⟩
  · obtain ⟨f, hf, rfl⟩ := List.mem_map.mp hg
    have := ((h.all _).mpr ⟨f, hf, mem_mirF.mp xg⟩).flip
    rwa [flip_flip] at this
theorem Ord.othLab {rs : List (List Int)} {es : List (Int × Int)} {lab : Int → Int} (t : ∀ e ∈ es, lab e.1 = lab e.2) {x : Dt} (h : DtE es x) : lab (flipD es x).2 = lab x.2 := by
  obtain ⟨k, e, ek, e1, c⟩ := h
  have tt := t e (List.mem_of_getElem? ek)
  have eo : (flipD es x).2 = e.1 + e.2 - x.2 := by
    show othE es x.1 x.2 = _
    unfold othE
    rw [e1, Int.toNat_natCast, List.getD_eq_getElem?_getD, ek]
    rfl
  rw [eo]
  rcases c with z | z <;> rw [z]
  · rw [show e.1 + e.2 - e.1 = e.2 by omega, tt]
  · rw [show e.1 + e.2 - e.2 = e.1 by omega, tt]
theorem Dec.revC {es : List (Int × Int)} {rs : List (List Int)} {fs : List (List Dt)} (h : Dec (NxR es rs) (DtE es) fs) {lab : Int → Int} (t : ∀ e ∈ es, lab e.1 = lab e.2) (c : Int) : fcC lab (fs.map (mirF es)) c = fcC lab fs c := by
  unfold fcC
  rw [List.countP_map]
  refine List.countP_congr fun f hf => ?_
  cases f with
  | nil => exact Iff.rfl
  | cons x xs =>
    show decide (some (lab (flipD es x).2) = some c) = true ↔ decide (some (lab x.2) = some c) = true
    rw [Ord.othLab (rs := rs) t ((h.all x).mpr ⟨_, hf, List.mem_cons_self⟩)]
/-- the web's own answer, told by any faces. -/
theorem flat_same {ts : List Tie} {es : List (Int × Int)} {rs rs' : List (List Int)} {lab : Int → Int} {n : Nat} {fs gs : List (List Dt)} (od' : Ord rs' es) (t : ∀ e ∈ es, lab e.1 = lab e.2) (h : Dec (NxR es rs) (DtE es) fs) (k : Dec (NxR es rs') (DtE es) gs) (r : Rot rs rs') : FlatL lab n ts fs ↔ FlatL lab n ts gs :=
  FlatL.of fun c => Dec.fc (NxR.fn od') (od'.nxLab t) (h.keep fun _ _ => r.nx) k c
theorem flat_back {ts : List Tie} {es : List (Int × Int)} {rs : List (List Int)} {lab : Int → Int} {n : Nat} {fs gs : List (List Dt)} (od' : Ord (rs.map List.reverse) es) (t : ∀ e ∈ es, lab e.1 = lab e.2) (h : Dec (NxR es rs) (DtE es) fs) (k : Dec (NxR es (rs.map List.reverse)) (DtE es) gs) : FlatL lab n ts fs ↔ FlatL lab n ts gs :=
  FlatL.of fun c => (h.revC t c).symm.trans (Dec.fc (NxR.fn od') (od'.nxLab t) h.rev k c)
/-! ### flats: _law_due -/
theorem endsL_lt {es : List (Int × Int)} {m : Nat} {x : Int × Int} (h : x ∈ endsL es m) : x.1 < (m : Int) := by
  unfold endsL at h
  obtain ⟨k, hk, h⟩ := List.mem_flatMap.mp h
  have hk := List.mem_range.mp hk
  rcases List.mem_cons.mp h with h | h
  · rw [h]; show (k : Int) < m; omega
  · rw [List.mem_singleton.mp h]; show (k : Int) < m; omega
theorem endsL_nd {rs : List (List Int)} {es : List (Int × Int)} (od : Ord rs es) : ∀ m, m ≤ es.length → (endsL es m).Nodup
  | 0, _ => List.nodup_nil
  | m + 1, h => by
    rw [endsL_succ]
    have ek := List.getElem?_eq_getElem (show m < es.length by omega)
    have eg : es.getD m (0, 0) = es[m] := by rw [List.getD_eq_getElem?_getD, ek]; rfl
    have ne := (od.ends _ (List.mem_of_getElem? ek)).2.2
    rw [eg]
    refine List.nodup_append.mpr ⟨endsL_nd od m (by omega), ?_, fun a ha b hb e => ?_⟩
    · refine List.nodup_cons.mpr ⟨fun z => ne (congrArg Prod.snd (List.mem_singleton.mp z)), by simp⟩
    · have := endsL_lt ha
      rcases List.mem_cons.mp hb with z | z
      · rw [e, z] at this; have : (m : Int) < m := this; omega
      · rw [e, List.mem_singleton.mp z] at this; have : (m : Int) < m := this; omega
def dueStep (bs : List St2) (st : List (Int × Int) × List (Int × Int) × (Int × Int)) : List (Int × Int) × List (Int × Int) × (Int × Int) := if st.2.2 ∈ st.1 then st else (addP st.1 st.2.2, st.2.1 ++ [st.2.2], nxB bs st.2.2)
theorem dueW_succ (bs : List St2) : ∀ (n : Nat) (st : List (Int × Int) × List (Int × Int) × (Int × Int)), dueW bs (n + 1) st = dueStep bs (dueW bs n st)
  | 0, (K, f, x) => rfl
  | n + 1, (K, f, x) => by
    show (if x ∈ K then dueW bs (n + 1) (K, f, x) else dueW bs (n + 1) (addP K x, f ++ [x], nxB bs x)) = dueStep bs (if x ∈ K then dueW bs n (K, f, x) else dueW bs n (addP K x, f ++ [x], nxB bs x))
    by_cases h : x ∈ K
    · rw [if_pos h, if_pos h]; exact dueW_succ bs n _
    · rw [if_neg h, if_neg h]; exact dueW_succ bs n _
theorem step_of {rs : List (List Int)} {es : List (Int × Int)} (od : Ord rs es) {x : Int × Int} (hx : x ∈ (stepsB es rs rs.length).map (·.1)) : ∃ (k p : Nat) (row : List Int) (i : Nat), k < es.length ∧ rs[p]? = some row ∧ row[i]? = some (k : Int) ∧ x = ((k : Int), othE es k p) ∧ nxB (stepsB es rs rs.length) x = (row.getD ((i + 1) % row.length) 0, (p : Int)) := by
  have r := stepsB_rnd od
  obtain ⟨b, hb, rfl⟩ := List.mem_map.mp hx
  obtain ⟨p, hp, z⟩ := stepsB_mem.mp hb
  have er := List.getElem?_eq_getElem hp
  have eg : rs.getD p [] = rs[p] := by rw [List.getD_eq_getElem?_getD, er]; rfl
  rw [eg] at z
  obtain ⟨i, hi, eb⟩ := stepR_memI.mp z
  have ei := List.getElem?_eq_getElem hi
  have gi : rs[p].getD i 0 = rs[p][i] := by rw [List.getD_eq_getElem?_getD, ei]; rfl
  obtain ⟨k, e, ek, ee, _⟩ := (od.mem p _ er rs[p][i]).mp (List.getElem_mem _)
  have hn : (b.1, nxB (stepsB es rs rs.length) b.1) = b := nd_inj r.nk (nxB_mem hx) hb rfl
  have hn2 : nxB (stepsB es rs rs.length) b.1 = b.2 := congrArg Prod.snd hn
  refine ⟨k, p, rs[p], i, (List.getElem?_eq_some_iff.mp ee).1, er, by rw [ei, ek], ?_, by rw [hn2, eb]⟩
  rw [eb, gi, ek]
theorem Paired.app2F {α β : Type} {R : α → β → Prop} : ∀ {xs : List α} {ys : List β} {xs' : List α} {ys' : List β}, Paired R xs ys → Paired R xs' ys' → Paired R (xs ++ xs') (ys ++ ys')
  | _, _, _, _, .nil, h => h
  | _, _, _, _, .cons a b, h => .cons a (Paired.app2F b h)
def spDueF : Sp := fun vs H Q _ => ∃ (wv : V) (n : Int) (ts : List Tie) (o : Addr) (us : List V) (rs : List (List Int)) (es : List (Int × Int)), vs = [wv, .ref o] ∧ WebAt H wv n ts ∧ H o = some (.tup us) ∧ Paired (IntsV H) us rs ∧ Ord rs es ∧ TwE ts es ∧ rs.length ≤ 50 ∧ es.length ≤ 100 ∧
  ∀ r vs' S H', Same H H' → S.Perm ((stepsB es rs rs.length).map (·.1)) → S.Pairwise (fun x y => SrtO.lexB y x = false) → H' r = some (.tup vs') → Paired (FcV H') vs' (facesG (stepsB es rs rs.length) S).1 → Q (.ref r) H'
section
variable {P : Program} {w : World} {K : PySem.W.Frag} {mg : Str → Option Value} {base : Heap}
set_option maxHeartbeats 2000000 in
theorem ok_l_due {f : Addr} {fd : FuncData} (F : Fun K "_law_due" "_law_due" s_l_due f fd) (M : Free mg) (m_enumerate : mg "enumerate" = none) (m_sorted : mg "sorted" = none) (D_l_behind : Df P w K mg base 1 "_law_behind" ["_law_web_here", "_law_orders", "_law_step"] spBehindL) : FnOk P w K mg base CX0 2 f fd ["_law_web_here", "_law_orders"] spDueF := by
  obtain ⟨f_l_behind, fd_l_behind, G_l_behind, g_l_behind, k_l_behind, b_l_behind⟩ := D_l_behind
  refine F.ok sc_l_due (fun vs H Q E h => ?_) (fun cdv A outer s H vs Q E hr h => ?_)
  · obtain ⟨wv, n, ts, o, us, rs, es, rfl, _⟩ := h
    rfl
  · obtain ⟨wv, n, ts, o, us, rs, es, rfl, hW, ho, hp, od, tw, lr, le, q⟩ := h
    have hu := room1 hr
    refine ⟨_, (pss_cons (ps_set (i := 2) sc_l_due.nd rfl (.inl rfl) (pe_lst pa_nil))
      (Evl.pss_cut (ps_for PassesOwn.never rfl (pi_enumT (by rfl) m_enumerate (pa_cons (pe_ix ix_tup (pv 0) pe_int (fun _ _ => rfl)) pa_nil)) (pg_tup rfl (pgs_cons (pg_name (i := 3) sc_l_due.nd rfl (.inl rfl)) (pgs_cons (pg_name (i := 4) sc_l_due.nd rfl (.inl rfl)) pgs_nil)))
        (pss_one (ps_set (i := 2) sc_l_due.nd rfl (.inl rfl) (pe_op op_cat (pv 2) (pe_callB cr_sortedPO (by rfl) m_sorted (by decide +kernel) (pa_cons (pe_lst (pa_cons (pe_tup (pa_cons (pv 3) (pa_cons (pe_ix ix_tup (pv 4) pe_int (fun _ _ => rfl)) pa_nil))) (pa_cons (pe_tup (pa_cons (pv 3) (pa_cons (pe_ix ix_tup (pv 4) pe_int (fun _ _ => rfl)) pa_nil))) pa_nil))) pa_nil))))))
      (pss_cons (ps_set (i := 5) sc_l_due.nd rfl (.inl rfl) pe_dnewT)
      (pss_cons (ps_set (i := 6) sc_l_due.nd rfl (.inl rfl) (pe_lst pa_nil))
      (pss_cons (ps_for PassesOwn.never rfl (pi_list (pv 2)) (pg_name (i := 7) sc_l_due.nd rfl (.inl rfl))
        (pss_one (ps_if (pt_cmp (pc_dnotin hu (pv 7) (pv 5)))
          (pss_cons (ps_set (i := 8) sc_l_due.nd rfl (.inl rfl) (pe_lst pa_nil))
          (pss_cons (ps_set (i := 9) sc_l_due.nd rfl (.inl rfl) (pv 7))
          (pss_cons (ps_for PassesOwn.never rfl (pi_range1 (by rfl) M.range (pa_cons (pe_callB call_len_seq (by rfl) M.len PySem.boot_len (pa_cons (pv 2) pa_nil)) pa_nil)) (pg_name (i := 10) sc_l_due.nd rfl (.inl rfl))
            (pss_one (ps_if (pt_cmp (pc_dnotin hu (pv 9) (pv 5)))
              (pss_cons (ps_dput hu (pv 5) (pv 9) pe_bl rfl)
              (pss_cons (ps_expr (pe_bm PySem.F.plainAttrs_list PySem.F.slot_list_append PySem.F.type_list_append mt_append (pv 8) (pa_cons (pv 9) pa_nil)))
              (pss_one (ps_set (i := 9) sc_l_due.nd rfl (.inl rfl) (pe_call G_l_behind (hr.mono (by decide)) (by rfl) g_l_behind k_l_behind b_l_behind .nil pass0 (pa_cons (pv 0) (pa_cons (pv 1) (pa_cons (pv 9) pa_nil))))))))
              pss_nil)))
          (pss_one (ps_expr (pe_bm PySem.F.plainAttrs_list PySem.F.slot_list_append PySem.F.type_list_append mt_append (pv 6) (pa_cons (pe_callTy call_tuple_of (by rfl) M.tuple (by decide +kernel) (pa_cons (pv 8) pa_nil)) pa_nil)))))))
          pss_nil)))
      (pss_one (ps_ret (pe_callTy call_tuple_of (by rfl) M.tuple (by decide +kernel) (pa_cons (pv 6) pa_nil))))))))), ?_⟩
    obtain ⟨wa, wb, ws0, rfl, hwa, hwb, hpw⟩ := id hW
    have lw : ws0.length = ts.length := Paired.length hpw
    have lt : ts.length = es.length := tw.1
    refine ⟨Nat.zero_le _, fun Z0 nZ0 => ?_⟩
    have s1 := same_new (o := .lst []) nZ0
    have hZ1 : (upd H Z0 (.lst [])) Z0 = some (.lst []) := upd_same
    generalize upd H Z0 (.lst []) = H1 at s1 hZ1
    refine ⟨fun σ' H' => ∃ (y3 y4 : Option V) (Z : Addr) (ws : List V) (S : List (Int × Int)), σ' = [some (.ref wa), some (.ref o), some (.ref Z), y3, y4, none, none, none, none, none, none] ∧ H' Z = some (.lst ws) ∧ Paired (PrV H') ws S ∧ S.Perm (endsL es es.length) ∧ S.Pairwise (fun x y => SrtO.lexB y x = false) ∧ Same H H', ?_, ?_⟩
    · refine ⟨.ref wa, rfl, wa, _, 1, .ref wb, rfl, rfl, SqT.of (s1 _ _ hwa), rfl, wb, ws0, rfl, SqT.of (s1 _ _ hwb), ?_⟩
      refine for_it (walk_enumT (xs := ws0)) (fun i σ' H' => ∃ (y3 y4 : Option V) (Z : Addr) (ws : List V) (S : List (Int × Int)), σ' = [some (.ref wa), some (.ref o), some (.ref Z), y3, y4, none, none, none, none, none, none] ∧ H' Z = some (.lst ws) ∧ Paired (PrV H') ws S ∧ S.Perm (endsL es i) ∧ S.Pairwise (fun x y => SrtO.lexB y x = false) ∧ Same H H') ⟨_, _, Z0, [], [], rfl, hZ1, .nil, .refl _, List.Pairwise.nil, s1⟩ (fun i σ' H' _ h => by
        obtain ⟨_, _, _, _, _, _, _, _, _, _, s⟩ := h
        exact SqT.of (s _ _ hwb)) ?_ ?_
      · rintro i x σ' H2 H3 hi ⟨y3, y4, Z, ws, S, rfl, hZ, hS, pS, oS, s2⟩ ⟨T, x1, y1, rfl, nT, rfl, gx, gy⟩
        obtain rfl : V.int (i : Nat) = x1 := Option.some.inj gx
        have gy : ws0[i]? = some y1 := gy
        obtain ⟨t, et, c, rfl, hc⟩ := Paired.at hpw gy
        have hi2 := (List.getElem?_eq_some_iff.mp et).1
        obtain ⟨e, ee⟩ : ∃ e, es[i]? = some e := ⟨_, List.getElem?_eq_getElem (by omega)⟩
        have jt := tw.2 i t e et ee
        have lS : S.length = 2 * i := by rw [pS.length_eq, endsL_len]
        have lws : ws.length = S.length := Paired.length hS
        have sT := same_new (o := .tup [.int (i : Nat), .ref c]) nT
        have hT3 := upd_same (H := H2) (a := T) (o := .tup [.int (i : Nat), .ref c])
        have hZ3 := sT _ _ hZ
        have hS3 := pr_tk (Same.tk sT) hS
        have s3 := s2.trans sT
        generalize upd H2 T (.tup [.int (i : Nat), .ref c]) = H3 at hT3 hZ3 hS3 s3
        have hc3 := s3 _ _ hc
        refine ⟨T, _, rfl, SqT.of hT3, rfl, _, _, rfl, _, _, rfl, rfl, ?_⟩
        refine ⟨.ref Z, rfl, .int (i : Nat), rfl, .ref c, rfl, c, _, 0, .int t.one, rfl, rfl, SqT.of hc3, rfl, by show 2 ≤ sizeLine; decide, fun p1 n1 => ?_⟩
        have s4 := same_new (o := .tup [.int (i : Nat), .int t.one]) n1
        refine ⟨.int (i : Nat), rfl, .ref c, rfl, c, _, 1, .int t.other, rfl, rfl, SqT.of (s4 _ _ hc3), rfl, by show 2 ≤ sizeLine; decide, fun p2 n2 => ?_⟩
        have s5 := same_new (o := .tup [.int (i : Nat), .int t.other]) n2
        refine ⟨by show 2 ≤ sizeLine; decide, fun L nL => ?_⟩
        have s6 := same_new (o := .lst [.ref p1, .ref p2]) nL
        have h1 := s6 _ _ (s5 _ _ (upd_same (H := H3) (a := p1) (o := .tup [.int (i : Nat), .int t.one])))
        have h2 := s6 _ _ (upd_same (H := upd H3 p1 (.tup [.int (i : Nat), .int t.one])) (a := p2) (o := .tup [.int (i : Nat), .int t.other]))
        have p12 : p1 ≠ p2 := ne_of_none (upd_same (H := H3) (a := p1) (o := .tup [.int (i : Nat), .int t.one])) n2
        have hL6 := upd_same (H := upd (upd H3 p1 (.tup [.int (i : Nat), .int t.one])) p2 (.tup [.int (i : Nat), .int t.other])) (a := L) (o := .lst [.ref p1, .ref p2])
        have s46 := (s4.trans s5).trans s6
        generalize upd (upd (upd H3 p1 (.tup [.int (i : Nat), .int t.one])) p2 (.tup [.int (i : Nat), .int t.other])) L (.lst [.ref p1, .ref p2]) = H6 at h1 h2 hL6 s46
        have hZ6 := s46 _ _ hZ3
        obtain ⟨kf, k1, k2⟩ : ∃ kf : V → Int × Int, kf (.ref p1) = ((i : Int), t.one) ∧ kf (.ref p2) = ((i : Int), t.other) := ⟨fun x => if x = .ref p1 then ((i : Int), t.one) else ((i : Int), t.other), if_pos rfl, if_neg fun z => p12 (by cases z; rfl)⟩
        have hx : ∀ x ∈ [V.ref p1, .ref p2], ∃ t, x = V.ref t ∧ H6 t = some (.tup [.int (kf x).1, .int (kf x).2]) := fun x hx => by
          rcases List.mem_cons.mp hx with z | z
          · rw [z, k1]; exact ⟨p1, rfl, h1⟩
          · rw [List.mem_singleton.mp z, k2]; exact ⟨p2, rfl, h2⟩
        refine ⟨L, _, kf, rfl, SqL.of hL6, hx, fun ys p hs hb np => ?_⟩
        have s7 := same_new (o := .lst ys) np
        have hyl : ys.length = 2 := by rw [hb.perm.length_eq]; rfl
        refine ⟨Z, p, ws, ys, rfl, rfl, s7 _ _ hZ6, upd_same, Evl.sz_of (by omega), fun Z' nZ' => ?_⟩
        have s8 := same_new (o := .lst (ws ++ ys)) nZ'
        have s38 := (s46.trans s7).trans s8
        have prs : ∀ l : List V, (∀ v ∈ l, v ∈ [V.ref p1, .ref p2]) → Paired (PrV H6) l (l.map kf) := fun l => by
          induction l with
          | nil => intro _; exact .nil
          | cons v l ih =>
            intro hl
            obtain ⟨t, e1, e2⟩ := hx v (hl v List.mem_cons_self)
            exact .cons ⟨t, e1, e2⟩ (ih fun u hu => hl u (List.mem_cons_of_mem _ hu))
        have hy6 := prs ys fun v hv => hb.perm.mem_iff.mp hv
        have pk : (ys.map kf).Perm [((i : Int), e.1), ((i : Int), e.2)] := by
          refine (hb.perm.map kf).trans ?_
          show List.Perm [kf (.ref p1), kf (.ref p2)] _
          rw [k1, k2]
          rcases jt with ⟨a, b⟩ | ⟨a, b⟩
          · rw [a, b]
          · rw [a, b]; exact List.Perm.swap ..
        refine ⟨_, _, Z', ws ++ ys, S ++ ys.map kf, rfl, upd_same, pr_tk (Same.tk s8) (Paired.app2F (pr_tk (Same.tk (s46.trans s7)) hS3) (pr_tk (Same.tk s7) hy6)), ?_, ?_, s3.trans s38⟩
        · rw [endsL_succ]
          refine pS.append ?_
          rw [List.getD_eq_getElem?_getD, ee]
          exact pk
        · refine List.pairwise_append.mpr ⟨oS, by rw [List.pairwise_map]; exact hs, fun a ha b hb' => ?_⟩
          have a1 := endsL_lt (pS.mem_iff.mp ha)
          have b1 := pk.mem_iff.mp hb'
          have b2 : b.1 = (i : Int) := by
            rcases List.mem_cons.mp b1 with z | z
            · rw [z]
            · rw [List.mem_singleton.mp z]
          exact SrtO.lexB_no.mpr (by omega)
      · rintro σ' H2 ⟨y3, y4, Z, ws, S, rfl, hZ, hS, pS, oS, s2⟩
        rw [lw, lt] at pS
        exact ⟨_, _, Z, ws, S, rfl, hZ, hS, pS, oS, s2⟩
    rintro σ' H2 ⟨y3, y4, Z, ws, S, rfl, hZ, hS, pS, oS, s2⟩
    have rnd := stepsB_rnd od
    have few := stepsB_few od
    have pK : S.Perm ((stepsB es rs rs.length).map (·.1)) := pS.trans ((List.perm_ext_iff_of_nodup (endsL_nd od _ (Nat.le_refl _)) rnd.nk).mpr fun x => endsL_mem.trans (stepsB_key od).symm)
    have step := @step_of rs es od
    generalize ebs : stepsB es rs rs.length = bs at rnd few pK step
    have lS : S.length = bs.length := by rw [pK.length_eq, List.length_map]
    have lws : ws.length = S.length := Paired.length hS
    refine fun P0 nP => ⟨Nat.zero_le _, fun F0 nF => ?_⟩
    have sP := same_new (o := .dT []) nP
    have hP3 : (upd H2 P0 (.dT [])) P0 = some (.dT (kvP [])) := upd_same
    have sF := same_new (o := .lst []) nF
    have hF4 := upd_same (H := upd H2 P0 (.dT [])) (a := F0) (o := .lst [])
    have hP4 := sF _ _ hP3
    have FP : F0 ≠ P0 := (ne_of_none hP3 nF).symm
    have ZP : Z ≠ P0 := ne_of_none hZ nP
    have ZF : Z ≠ F0 := ne_of_none (sP _ _ hZ) nF
    have sPF := sP.trans sF
    have nP0 := s2.free nP
    have nF0 := (s2.trans sP).free nF
    generalize upd (upd H2 P0 (.dT [])) F0 (.lst []) = H4 at hF4 hP4 sPF
    have s4 := s2.trans sPF
    refine ⟨.ref Z, rfl, Z, rfl, ⟨_, SqL.of (sPF _ _ hZ)⟩, ?_⟩
    refine for_list (xs := ws) (fun i σ' H' => ∃ (y7 y8 y9 y10 : Option V) (vs' : List V), σ' = [some (.ref wa), some (.ref o), some (.ref Z), y3, y4, some (.ref P0), some (.ref F0), y7, y8, y9, y10] ∧ H' F0 = some (.lst vs') ∧ Paired (FcV H') vs' (facesG bs (S.take i)).1 ∧ H' P0 = some (.dT (kvP (facesG bs (S.take i)).2)) ∧ (facesG bs (S.take i)).2.Nodup ∧ (∀ q ∈ (facesG bs (S.take i)).2, q ∈ bs.map (fun b : St2 => b.1)) ∧ Whole bs (facesG bs (S.take i)).2 ∧ vs'.length ≤ i ∧ H' Z = some (.lst ws) ∧ Paired (PrV H') ws S ∧ Same H H') ⟨_, _, _, _, [], rfl, hF4, .nil, hP4, List.nodup_nil, fun q hq => (by cases hq), fun x _ => ⟨fun h => (by cases h), fun h => (by cases h)⟩, Nat.zero_le _, sPF _ _ hZ, pr_tk (Same.tk sPF) hS, s4⟩ (fun i σ' H' _ h => by
      obtain ⟨_, _, _, _, _, _, _, _, _, _, _, _, _, h, _⟩ := h
      exact SqL.of h) ?_ ?_
    · rintro i x σ' H5 ex ⟨y7, y8, y9, y10, vs', rfl, hF5, hv5, hP5, nd5, in5, wh5, lv5, hZ5, hS5, s5⟩
      have il := (List.getElem?_eq_some_iff.mp ex).1
      obtain ⟨st, est, c, rfl, hc⟩ := Paired.at hS5 ex
      have hst : st ∈ bs.map (fun b : St2 => b.1) := pK.mem_iff.mp (List.mem_of_getElem? est)
      have eT : facesG bs (S.take (i + 1)) = faceStep bs (facesG bs (S.take i)) st := by
        rw [List.take_add_one, est]
        exact facesG_snoc bs _ st
      generalize facesG bs (S.take i) = G at eT hv5 hP5 nd5 in5 wh5
      refine ⟨.ref c, rfl, .ref P0, rfl, P0, _, rfl, DGet.t (k := [Sum.inl st.1, Sum.inl st.2]) hP5 hc, _, rfl, ?_⟩
      rw [kvP_val]
      by_cases h : st ∈ G.2
      · rw [if_pos h]
        have eG : facesG bs (S.take (i + 1)) = G := by rw [eT]; unfold faceStep; rw [if_pos h]
        exact ⟨_, _, _, _, vs', rfl, hF5, by rw [eG]; exact hv5, by rw [eG]; exact hP5, by rw [eG]; exact nd5, by rw [eG]; exact in5, by rw [eG]; exact wh5, by omega, hZ5, hS5, s5⟩
      · rw [if_neg h]
        have eG : facesG bs (S.take (i + 1)) = (G.1 ++ [cycB bs st], (cycB bs st).foldl addP G.2) := by rw [eT]; unfold faceStep; rw [if_neg h]
        have due := rnd.due hst wh5 h (N := ws.length) (by omega)
        refine ⟨Nat.zero_le _, fun A nA => ⟨.ref c, rfl, ?_⟩⟩
        have sA := same_new (o := .lst []) nA
        have hA6 : (upd H5 A (.lst [])) A = some (.lst []) := upd_same
        have hF6 := sA _ _ hF5
        have hP6 := sA _ _ hP5
        have hZ6 := sA _ _ hZ5
        have hc6 := sA _ _ hc
        have hv6 := fc_tk (Same.tk sA) hv5
        have hS6 := pr_tk (Same.tk sA) hS5
        have s6 := s5.trans sA
        have nA0 := s5.free nA
        have AP : A ≠ P0 := (ne_of_none hP5 nA).symm
        have AF : A ≠ F0 := (ne_of_none hF5 nA).symm
        have AZ : A ≠ Z := (ne_of_none hZ5 nA).symm
        generalize upd H5 A (.lst []) = H6 at hA6 hF6 hP6 hZ6 hc6 hv6 hS6 s6
        refine ⟨.ref Z, rfl, Z, ws, rfl, .inl (SqL.of hZ6), ws.length, rfl, by omega, by omega, ?_⟩
        rw [Int.toNat_natCast]
        refine for_range (lo := 0) (n := ws.length) (fun j σ' H' => ∃ (y10 : Option V) (t : Addr) (as : List V), σ' = [some (.ref wa), some (.ref o), some (.ref Z), y3, y4, some (.ref P0), some (.ref F0), some (.ref c), some (.ref A), some (.ref t), y10] ∧ H' F0 = some (.lst vs') ∧ Paired (FcV H') vs' G.1 ∧ H' P0 = some (.dT (kvP (dueW bs j (G.2, [], st)).1)) ∧ (dueW bs j (G.2, [], st)).1.Nodup ∧ (∀ q ∈ (dueW bs j (G.2, [], st)).1, q ∈ bs.map (fun b : St2 => b.1)) ∧ H' A = some (.lst as) ∧ Paired (PrV H') as (dueW bs j (G.2, [], st)).2.1 ∧ as.length ≤ j ∧ PrV H' (.ref t) (dueW bs j (G.2, [], st)).2.2 ∧ (dueW bs j (G.2, [], st)).2.2 ∈ bs.map (fun b : St2 => b.1) ∧ H' Z = some (.lst ws) ∧ Paired (PrV H') ws S ∧ Same H H') ⟨_, c, [], rfl, hF6, hv6, hP6, nd5, in5, hA6, .nil, Nat.zero_le _, ⟨c, rfl, hc6⟩, hst, hZ6, hS6, s6⟩ ?_ ?_
        · clear hF6 hv6 hP6 hA6 hc6 hZ6 hS6 s6
          rintro j σ' H7 hj ⟨y10, t, as, rfl, hF7, hv7, hP7, nd7, in7, hA7, ha7, la7, ⟨t', et, ht7⟩, hx7, hZ7, hS7, s7⟩
          cases et
          have eW := dueW_succ bs j (G.2, [], st)
          generalize dueW bs j (G.2, [], st) = W at eW hP7 nd7 in7 ha7 ht7 hx7
          refine ⟨.ref t, rfl, .ref P0, rfl, P0, _, rfl, DGet.t (k := [Sum.inl W.2.2.1, Sum.inl W.2.2.2]) hP7 ht7, _, rfl, ?_⟩
          rw [kvP_val]
          by_cases hk : W.2.2 ∈ W.1
          · rw [if_pos hk]
            have eW2 : dueW bs (j + 1) (G.2, [], st) = W := by rw [eW]; unfold dueStep; rw [if_pos hk]
            exact ⟨_, t, as, rfl, hF7, hv7, by rw [eW2]; exact hP7, by rw [eW2]; exact nd7, by rw [eW2]; exact in7, hA7, by rw [eW2]; exact ha7, by omega, by rw [eW2]; exact ⟨t, rfl, ht7⟩, by rw [eW2]; exact hx7, hZ7, hS7, s7⟩
          · rw [if_neg hk]
            have eW2 : dueW bs (j + 1) (G.2, [], st) = (addP W.1 W.2.2, W.2.1 ++ [W.2.2], nxB bs W.2.2) := by rw [eW]; unfold dueStep; rw [if_neg hk]
            have lP : W.1.length ≤ 1000 := by
              have := sub_lenG nd7 in7
              rw [List.length_map] at this
              omega
            have hlt : (kvP W.1).length < sizeLine := by
              unfold kvP
              rw [List.length_map]
              exact Nat.lt_of_succ_le (Evl.sz_of (by omega))
            refine ⟨.ref P0, rfl, .ref t, rfl, P0, _, rfl, DPut.t (k := [Sum.inl W.2.2.1, Sum.inl W.2.2.2]) hP7 ht7 hlt, ?_⟩
            rw [kvP_put]
            have tkP := tk_dT (kvs' := kvP (addP W.1 W.2.2)) hP7
            have hF8 : (upd H7 P0 (.dT (kvP (addP W.1 W.2.2)))) F0 = some (.lst vs') := by rw [upd_ne FP]; exact hF7
            have hA8 : (upd H7 P0 (.dT (kvP (addP W.1 W.2.2)))) A = some (.lst as) := by rw [upd_ne AP]; exact hA7
            have hZ8 : (upd H7 P0 (.dT (kvP (addP W.1 W.2.2)))) Z = some (.lst ws) := by rw [upd_ne ZP]; exact hZ7
            have hP8 : (upd H7 P0 (.dT (kvP (addP W.1 W.2.2)))) P0 = some (.dT (kvP (addP W.1 W.2.2))) := upd_same
            have hv8 := fc_tk tkP hv7
            have hS8 := pr_tk tkP hS7
            have ha8 := pr_tk tkP ha7
            have ht8 := tkP _ _ ht7
            have s8 : Same H (upd H7 P0 (.dT (kvP (addP W.1 W.2.2)))) := Same.mut s7 nP0
            generalize upd H7 P0 (.dT (kvP (addP W.1 W.2.2))) = H8 at hF8 hA8 hZ8 hP8 hv8 hS8 ha8 ht8 s8
            refine ⟨.ref A, rfl, .inl ⟨rfl, _, SqL.of hA8⟩, .ref t, rfl, A, as, _, rfl, rfl, hA8, Nat.lt_of_succ_le (Evl.sz_of (by omega)), ?_⟩
            have tkA := tk_lst (ys := as ++ [.ref t]) hA8
            have hF9 : (upd H8 A (.lst (as ++ [.ref t]))) F0 = some (.lst vs') := by rw [upd_ne AF.symm]; exact hF8
            have hZ9 : (upd H8 A (.lst (as ++ [.ref t]))) Z = some (.lst ws) := by rw [upd_ne AZ.symm]; exact hZ8
            have hP9 : (upd H8 A (.lst (as ++ [.ref t]))) P0 = some (.dT (kvP (addP W.1 W.2.2))) := by rw [upd_ne AP.symm]; exact hP8
            have hA9 : (upd H8 A (.lst (as ++ [.ref t]))) A = some (.lst (as ++ [.ref t])) := upd_same
            have hv9 := fc_tk tkA hv8
            have hS9 := pr_tk tkA hS8
            have ht9 := tkA _ _ ht8
            have ha9 : Paired (PrV (upd H8 A (.lst (as ++ [.ref t])))) (as ++ [.ref t]) (W.2.1 ++ [W.2.2]) := Paired.snoc (pr_tk tkA ha8) ⟨t, rfl, ht9⟩
            have s9 : Same H (upd H8 A (.lst (as ++ [.ref t]))) := Same.mut s8 nA0
            generalize upd H8 A (.lst (as ++ [.ref t])) = H9 at hF9 hZ9 hP9 hA9 hv9 hS9 ht9 ha9 s9
            obtain ⟨k, p, row, i', hk1, er, ei, ex1, en1⟩ := step hx7
            have ht10 : H9 t = some (.tup [.int (k : Nat), .int (othE es k p)]) := by
              rw [ht9, ex1]
            refine ⟨.ref wa, rfl, .ref o, rfl, .ref t, rfl, .ref wa, n, ts, o, t, us, rs, es, k, p, row, i', rfl, hW.tk (Same.tk s9), s9 _ _ ho, Paired.mono (fun _ _ x => x.tk (Same.tk s9)) hp, od, tw, by omega, hk1, er, ei, ht10, fun r H10 s10 hr => ?_⟩
            have tk10 := Same.tk s10
            refine ⟨_, r, as ++ [.ref t], rfl, s10 _ _ hF9, fc_tk tk10 hv9, by rw [eW2]; exact s10 _ _ hP9, by rw [eW2]; exact addP_nd nd7, fun x hx => ?_, s10 _ _ hA9, by rw [eW2]; exact pr_tk tk10 ha9, by rw [List.length_append]; show _ + 1 ≤ _; omega, ?_, ?_, s10 _ _ hZ9, pr_tk tk10 hS9, s9.trans s10⟩
            · rw [eW2] at hx
              rcases addP_mem.mp hx with z | z
              · exact in7 x z
              · rw [z]; exact hx7
            · rw [eW2]
              show PrV H10 (.ref r) (nxB bs W.2.2)
              rw [en1]
              exact ⟨r, rfl, hr⟩
            · rw [eW2]
              exact rnd.key hx7
        · rintro σ' H7 ⟨y10, t, as, rfl, hF7, hv7, hP7, nd7, in7, hA7, ha7, la7, ht7, hx7, hZ7, hS7, s7⟩
          rw [due] at hP7 nd7 in7 ha7
          refine ⟨.ref F0, rfl, .inl ⟨rfl, _, SqL.of hF7⟩, .ref A, rfl, A, as, rfl, .inl ⟨SqL.of hA7, fun r nr => ?_⟩⟩
          have sr := same_new (o := .tup as) nr
          have tk := tk_lst (ys := vs' ++ [.ref r]) (sr _ _ hF7)
          have tkA := (Same.tk sr).trans tk
          refine ⟨F0, vs', _, rfl, rfl, sr _ _ hF7, Nat.lt_of_succ_le (Evl.sz_of (by omega)), ?_⟩
          exact ⟨_, _, _, _, vs' ++ [.ref r], rfl, upd_same, by rw [eG]; exact Paired.snoc (fc_tk tkA hv7) ⟨r, as, rfl, tk _ _ upd_same, pr_tk tkA ha7⟩, by rw [eG, upd_ne FP.symm]; exact sr _ _ hP7, by rw [eG]; exact nd7, by rw [eG]; exact in7, by rw [eG]; exact rnd.whole hst wh5, by rw [List.length_append]; show _ + 1 ≤ _; omega, by rw [upd_ne ZF]; exact sr _ _ hZ7, pr_tk tkA hS7, Same.mut (s7.trans sr) nF0⟩
    · rintro σ' H5 ⟨y7, y8, y9, y10, vs', rfl, hF5, hv5, hP5, nd5, in5, wh5, lv5, hZ5, hS5, s5⟩
      rw [lws, List.take_length] at hv5
      refine ⟨.ref F0, rfl, F0, _, rfl, .inl ⟨SqL.of hF5, fun r nr => ?_⟩⟩
      have sr := same_new (o := .tup vs') nr
      rw [← ebs] at pK hv5
      exact q r vs' S _ (s5.trans sr) pK oS upd_same (fc_tk (Same.tk sr) hv5)
end
/-! ### flats: odd faces (mathematics) -/
def parL {α : Type} (p : α → Bool) : List α → Bool
  | [] => false
  | x :: xs => xor (p x) (parL p xs)
theorem parL_app {α : Type} (p : α → Bool) : ∀ xs ys : List α, parL p (xs ++ ys) = xor (parL p xs) (parL p ys)
  | [], ys => by simp [parL]
  | x :: xs, ys => by rw [List.cons_append, parL, parL_app p xs ys, parL, Bool.xor_assoc]
theorem parL_len {α : Type} (p : α → Bool) : ∀ xs : List α, parL p xs = decide ((xs.filter p).length % 2 = 1)
  | [] => rfl
  | x :: xs => by
    rw [parL, parL_len p xs]
    cases h : p x with
    | false => rw [List.filter_cons_of_neg (by simp [h])]; simp
    | true =>
      rw [List.filter_cons_of_pos h, List.length_cons, Bool.true_xor, Bool.eq_iff_iff]
      simp
      omega
theorem parL_xor {α : Type} (p q : α → Bool) : ∀ xs : List α, parL (fun x => xor (p x) (q x)) xs = xor (parL p xs) (parL q xs)
  | [] => rfl
  | x :: xs => by
    rw [parL, parL_xor p q xs, parL, parL]
    cases p x <;> cases q x <;> cases parL p xs <;> cases parL q xs <;> rfl
theorem parL_map {α β : Type} (p : β → Bool) (f : α → β) : ∀ xs : List α, parL p (xs.map f) = parL (fun x => p (f x)) xs
  | [] => rfl
  | x :: xs => by rw [List.map_cons, parL, parL_map p f xs, parL]
theorem parL_congr {α : Type} {p q : α → Bool} : ∀ {xs : List α}, (∀ x ∈ xs, p x = q x) → parL p xs = parL q xs
  | [], _ => rfl
  | x :: xs, h => by rw [parL, parL, h x List.mem_cons_self, parL_congr fun y hy => h y (List.mem_cons_of_mem _ hy)]
theorem parL_perm {α : Type} {p : α → Bool} {xs ys : List α} (h : xs.Perm ys) : parL p xs = parL p ys := by
  rw [parL_len, parL_len, (h.filter p).length_eq]
theorem parL_flat {α : Type} (p : α → Bool) : ∀ fs : List (List α), parL p fs.flatten = parL (parL p) fs
  | [] => rfl
  | f :: fs => by rw [List.flatten_cons, parL_app, parL_flat p fs, parL]
theorem parL_round (f : Nat → Bool) : ∀ n, parL (fun i => f (i + 1)) (List.range n) = xor (parL f (List.range n)) (xor (f 0) (f n))
  | 0 => by simp [parL]
  | n + 1 => by
    rw [List.range_succ, parL_app, parL_app, parL_round f n]
    simp only [parL]
    cases parL f (List.range n) <;> cases f 0 <;> cases f n <;> cases f (n + 1) <;> rfl
def foeK (ts : List Tie) (x : Int × Int) : Bool := match ts[x.1.toNat]? with
  | some t => t.foe
  | none => false
def oddP (ts : List Tie) (ps : List (Int × Int)) : Bool := parL (foeK ts) ps
def cntP (ts : List Tie) (ps : List (Int × Int)) : Nat := (ps.filter (foeK ts)).length
def oddN (ts : List Tie) (fs : List (List (Int × Int))) (m : Nat) : List Int := ((List.range m).filter fun i => oddP ts (fs.getD i [])).map fun i : Nat => (i : Int)
theorem oddN_succ (ts : List Tie) (fs : List (List (Int × Int))) (m : Nat) : oddN ts fs (m + 1) = oddN ts fs m ++ if oddP ts (fs.getD m []) = true then [(m : Int)] else [] := by
  unfold oddN
  rw [List.range_succ, List.filter_append, List.map_append]
  cases h : oddP ts (fs.getD m []) with
  | true => rw [if_pos rfl, List.filter_cons_of_pos (p := fun i => oddP ts (fs.getD i [])) h]; rfl
  | false => rw [if_neg (by decide), List.filter_cons_of_neg (p := fun i => oddP ts (fs.getD i [])) (by simp only [h]; decide)]; rfl
theorem cntP_take {ts : List Tie} {ps : List (Int × Int)} {i : Nat} {x : Int × Int} (e : ps[i]? = some x) : cntP ts (ps.take (i + 1)) = cntP ts (ps.take i) + (if foeK ts x = true then 1 else 0) := by
  unfold cntP
  rw [List.take_add_one, e, List.filter_append, List.length_append]
  cases h : foeK ts x with
  | true => rw [if_pos rfl, show (some x).toList = [x] from rfl, List.filter_cons_of_pos h]; rfl
  | false => rw [if_neg (by decide), show (some x).toList = [x] from rfl, List.filter_cons_of_neg (by simp only [h]; decide)]; rfl
theorem oddP_cnt (ts : List Tie) (ps : List (Int × Int)) : oddP ts ps = decide (((cntP ts ps : Nat) : Int) % 2 = 1) := by
  unfold oddP cntP
  rw [parL_len, decide_eq_decide]
  omega
theorem oddN_par (ts : List Tie) (fs : List (List (Int × Int))) : ∀ m, m ≤ fs.length → decide ((oddN ts fs m).length % 2 = 1) = parL (oddP ts) (fs.take m)
  | 0, _ => rfl
  | m + 1, h => by
    have e := List.getElem?_eq_getElem (show m < fs.length by omega)
    rw [List.take_add_one, e, parL_app, ← oddN_par ts fs m (by omega), oddN_succ, List.length_append, List.getD_eq_getElem?_getD, e]
    show _ = xor _ (xor (oddP ts fs[m]) false)
    show decide ((_ + (if oddP ts fs[m] = true then [(m : Int)] else []).length) % 2 = 1) = _
    cases oddP ts fs[m] with
    | true =>
      rw [if_pos rfl, Bool.eq_iff_iff]
      simp
      omega
    | false =>
      rw [if_neg (by decide)]
      simp
theorem oddN_congr {ts us : List Tie} {fs : List (List (Int × Int))} (h : ∀ ps ∈ fs, oddP ts ps = oddP us ps) : ∀ m, m ≤ fs.length → oddN ts fs m = oddN us fs m
  | 0, _ => rfl
  | m + 1, hm => by
    have e := List.getElem?_eq_getElem (show m < fs.length by omega)
    rw [oddN_succ, oddN_succ, oddN_congr h m (by omega), List.getD_eq_getElem?_getD, e]
    show _ ++ (if oddP ts fs[m] = true then _ else _) = _ ++ (if oddP us fs[m] = true then _ else _)
    rw [h _ (List.getElem_mem _)]
theorem cycB_nd {bs : List St2} (r : Rnd bs) {s : Int × Int} (hs : s ∈ bs.map (·.1)) : (cycB bs s).Nodup := by
  have per := r.per hs
  unfold cycB
  rw [List.nodup_iff_pairwise_ne, List.pairwise_map]
  refine (List.pairwise_lt_range).imp_of_mem fun {a b} ha hb lt e => ?_
  have hb := List.mem_range.mp hb
  refine per.2.2.2.1 (b - a) (by omega) (by omega) (r.back hs (b - a) a ?_)
  rw [show b - a + a = b by omega]
  exact e.symm
theorem fold_new : ∀ {ps K : List (Int × Int)}, ps.Nodup → (∀ x ∈ ps, x ∉ K) → ps.foldl addP K = K ++ ps
  | [], K, _, _ => by simp
  | p :: ps, K, nd, no => by
    have nd' := List.nodup_cons.mp nd
    have e : addP K p = K ++ [p] := by
      unfold addP
      rw [if_neg (no p List.mem_cons_self)]
    rw [List.foldl_cons, e, fold_new nd'.2 fun x hx z => ?_, List.append_assoc]
    · rfl
    · rcases List.mem_append.mp z with z | z
      · exact no x (List.mem_cons_of_mem _ hx) z
      · rw [List.mem_singleton.mp z] at hx
        exact nd'.1 hx
/-- the faces part the steps -/
structure FacesOk (bs : List St2) (S : List (Int × Int)) (G : List (List (Int × Int)) × List (Int × Int)) : Prop where
  wh : Whole bs G.2
  fl : G.2 = G.1.flatten
  nd : G.2.Nodup
  sub : ∀ x ∈ G.2, x ∈ bs.map (·.1)
  all : ∀ x ∈ S, x ∈ G.2
  cyc : ∀ f ∈ G.1, ∃ s ∈ bs.map (fun b : St2 => b.1), f = cycB bs s
theorem Rnd.parts {bs : List St2} (r : Rnd bs) : ∀ {S : List (Int × Int)}, (∀ x ∈ S, x ∈ bs.map (·.1)) → FacesOk bs S (facesG bs S) := fun {S} => by
  induction hk : S.length generalizing S with
  | zero =>
    intro _
    rw [List.length_eq_zero_iff.mp hk]
    exact ⟨fun x _ => ⟨fun h => (by cases h), fun h => (by cases h)⟩, rfl, List.nodup_nil, fun x h => (by cases h), fun x h => (by cases h), fun x h => (by cases h)⟩
  | succ k ih =>
    intro hS
    have ne : S ≠ [] := fun z => by rw [z] at hk; cases hk
    obtain ⟨T, s, rfl⟩ : ∃ T s, S = T ++ [s] := ⟨S.dropLast, S.getLast ne, (List.dropLast_concat_getLast ne).symm⟩
    rw [List.length_append, List.length_singleton] at hk
    have F := ih (S := T) (by omega) fun x hx => hS x (List.mem_append_left _ hx)
    have hs := hS s (by simp)
    rw [facesG_snoc]
    generalize facesG bs T = G at F
    unfold faceStep
    by_cases h : s ∈ G.2
    · rw [if_pos h]
      exact ⟨F.wh, F.fl, F.nd, F.sub, fun x hx => (List.mem_append.mp hx).elim (F.all x) fun z => by rw [List.mem_singleton.mp z]; exact h, F.cyc⟩
    · rw [if_neg h]
      have nw : ∀ x ∈ cycB bs s, x ∉ G.2 := fun x hx z => by
        obtain ⟨i, hi⟩ := List.getElem?_of_mem hx
        have il := (List.getElem?_eq_some_iff.mp hi).1
        rw [cycB_len] at il
        rw [cyc_at il] at hi
        obtain rfl := Option.some.inj hi
        exact h ((F.wh.it r hs i).mpr z)
      have e := fold_new (cycB_nd r hs) nw
      have per := r.per hs
      refine ⟨r.whole hs F.wh, ?_, ?_, fun x hx => ?_, fun x hx => ?_, fun f hf => ?_⟩
      · show (cycB bs s).foldl addP G.2 = (G.1 ++ [cycB bs s]).flatten
        rw [e, F.fl, List.flatten_append]
        simp
      · show ((cycB bs s).foldl addP G.2).Nodup
        rw [e]
        exact List.nodup_append.mpr ⟨F.nd, cycB_nd r hs, fun a ha b hb z => nw b hb (z ▸ ha)⟩
      · rcases fold_mem.mp (show x ∈ (cycB bs s).foldl addP G.2 from hx) with z | z
        · exact F.sub x z
        · exact r.cyc_in hs x z
      · refine fold_mem.mpr ?_
        rcases List.mem_append.mp hx with z | z
        · exact .inl (F.all x z)
        · rw [List.mem_singleton.mp z]
          exact .inr (List.mem_of_getElem? (cyc_at (bs := bs) (s := s) (j := 0) (by omega)))
      · rcases List.mem_append.mp hf with z | z
        · exact F.cyc f z
        · exact ⟨s, hs, List.mem_singleton.mp z⟩
theorem facesG_perm {bs : List St2} (r : Rnd bs) {S : List (Int × Int)} (p : S.Perm (bs.map (·.1))) : (facesG bs S).1.flatten.Perm (bs.map (·.1)) := by
  have F := r.parts (S := S) fun x hx => p.mem_iff.mp hx
  rw [← F.fl]
  exact (List.perm_ext_iff_of_nodup F.nd r.nk).mpr fun x => ⟨F.sub x, fun h => F.all x (p.mem_iff.mpr h)⟩
theorem foe_ends (ts : List Tie) (es : List (Int × Int)) : ∀ m, parL (foeK ts) (endsL es m) = false
  | 0 => rfl
  | m + 1 => by
    rw [endsL_succ, parL_app, foe_ends ts es m]
    show xor false (xor (foeK ts ((m : Int), _)) (xor (foeK ts ((m : Int), _)) false)) = false
    show xor false (xor (foeK ts ((m : Int), 0)) (xor (foeK ts ((m : Int), 0)) false)) = false
    cases foeK ts ((m : Int), 0) <;> rfl
theorem faces_even {rs : List (List Int)} {es : List (Int × Int)} (od : Ord rs es) (ts : List Tie) {S : List (Int × Int)} (p : S.Perm ((stepsB es rs rs.length).map (·.1))) : (oddN ts (facesG (stepsB es rs rs.length) S).1 (facesG (stepsB es rs rs.length) S).1.length).length % 2 = 0 := by
  have h := oddN_par ts (facesG (stepsB es rs rs.length) S).1 _ (Nat.le_refl _)
  have rnd := stepsB_rnd od
  have e : parL (oddP ts) (facesG (stepsB es rs rs.length) S).1 = false := by
    show parL (parL (foeK ts)) _ = _
    rw [← parL_flat, parL_perm (facesG_perm rnd p), parL_perm ((List.perm_ext_iff_of_nodup rnd.nk (endsL_nd od _ (Nat.le_refl _))).mpr fun x => (stepsB_key od).trans endsL_mem.symm)]
    exact foe_ends ts es _
  rw [List.take_length, e] at h
  have := of_decide_eq_false h
  omega
/-- a web turned at a place -/
def flipAt (p : Int) (t : Tie) : Tie := ⟨t.one, t.other, xor t.foe (decide (p = t.one) || decide (p = t.other))⟩
theorem TwE.flip {ts : List Tie} {es : List (Int × Int)} (h : TwE ts es) (p : Int) : TwE (ts.map (flipAt p)) es := by
  refine ⟨by rw [List.length_map]; exact h.1, fun k t e h1 h2 => ?_⟩
  rw [List.getElem?_map] at h1
  obtain ⟨t0, h0, rfl⟩ := Option.map_eq_some_iff.mp h1
  exact h.2 k t0 e h0 h2
theorem foeK_flip {rs : List (List Int)} {ts : List Tie} {es : List (Int × Int)} (od : Ord rs es) (tw : TwE ts es) (p : Int) {x : Int × Int} (hx : x ∈ (stepsB es rs rs.length).map (·.1)) : foeK (ts.map (flipAt p)) x = xor (foeK ts x) (xor (decide (x.2 = p)) (decide ((nxB (stepsB es rs rs.length) x).2 = p))) := by
  obtain ⟨k, q, row, i, hk1, er, ei, ex, en⟩ := step_of od hx
  obtain ⟨e, ee⟩ : ∃ e, es[k]? = some e := ⟨_, List.getElem?_eq_getElem hk1⟩
  obtain ⟨t, et⟩ : ∃ t, ts[k]? = some t := ⟨_, List.getElem?_eq_getElem (by rw [tw.1]; exact hk1)⟩
  have jt := tw.2 k t e et ee
  have ends := od.ends e (List.mem_of_getElem? ee)
  obtain ⟨k', e', ek', ee', pe⟩ := (od.mem q row er (k : Int)).mp (List.mem_of_getElem? ei)
  have ekk : k' = k := by omega
  rw [ekk, ee] at ee'
  obtain rfl := Option.some.inj ee'
  have oe : othE es (k : Int) q = e.1 + e.2 - (q : Int) := by
    unfold othE
    rw [List.getD_eq_getElem?_getD, Int.toNat_natCast, ee]
    rfl
  rw [en, ex]
  unfold foeK
  rw [Int.toNat_natCast, List.getElem?_map, et]
  show xor t.foe (decide (p = t.one) || decide (p = t.other)) = xor t.foe (xor (decide (othE es (k : Int) q = p)) (decide ((q : Int) = p)))
  congr 1
  rw [oe, Bool.eq_iff_iff]
  by_cases h1 : p = t.one <;> by_cases h2 : p = t.other <;> by_cases h3 : e.1 + e.2 - (q : Int) = p <;> by_cases h4 : (q : Int) = p <;> simp only [h1, h2, h3, h4, decide_true, decide_false, Bool.or_true, Bool.true_or, Bool.or_false, Bool.xor_true, Bool.true_xor, Bool.xor_false, Bool.false_xor, Bool.not_true, Bool.not_false] <;> simp <;> omega
theorem oddP_flip {rs : List (List Int)} {ts : List Tie} {es : List (Int × Int)} (od : Ord rs es) (tw : TwE ts es) (p : Int) {s : Int × Int} (hs : s ∈ (stepsB es rs rs.length).map (·.1)) : oddP (ts.map (flipAt p)) (cycB (stepsB es rs rs.length) s) = oddP ts (cycB (stepsB es rs rs.length) s) := by
  have rnd := stepsB_rnd od
  have per := rnd.per hs
  unfold oddP
  rw [parL_congr (q := fun x => xor (foeK ts x) (xor (decide (x.2 = p)) (decide ((nxB (stepsB es rs rs.length) x).2 = p)))) fun x hx => foeK_flip od tw p (rnd.cyc_in hs x hx), parL_xor, parL_xor]
  have e : parL (fun x : Int × Int => decide ((nxB (stepsB es rs rs.length) x).2 = p)) (cycB (stepsB es rs rs.length) s) = parL (fun x : Int × Int => decide (x.2 = p)) (cycB (stepsB es rs rs.length) s) := by
    unfold cycB
    rw [parL_map, parL_map]
    have := parL_round (fun i => decide ((itF (nxB (stepsB es rs rs.length)) i s).2 = p)) (perB (stepsB es rs rs.length) s)
    refine Eq.trans this ?_
    rw [per.2.2.1]
    show xor _ (xor (decide (s.2 = p)) (decide (s.2 = p))) = _
    rw [Bool.xor_self, Bool.xor_false]
  rw [e, Bool.xor_self, Bool.xor_false]
theorem odd_flip {rs : List (List Int)} {ts : List Tie} {es : List (Int × Int)} (od : Ord rs es) (tw : TwE ts es) (p : Int) {S : List (Int × Int)} (pS : S.Perm ((stepsB es rs rs.length).map (·.1))) : oddN (ts.map (flipAt p)) (facesG (stepsB es rs rs.length) S).1 (facesG (stepsB es rs rs.length) S).1.length = oddN ts (facesG (stepsB es rs rs.length) S).1 (facesG (stepsB es rs rs.length) S).1.length := by
  refine oddN_congr (fun ps hps => ?_) _ (Nat.le_refl _)
  obtain ⟨s, hs, rfl⟩ := ((stepsB_rnd od).parts (S := S) fun x hx => pS.mem_iff.mp hx).cyc ps hps
  exact oddP_flip od tw p hs
/-! ### k54: odd faces -/
def rLenK54 (K : PySem.W.Frag) : List V → Hp → VK → Prop := fun xs H Q => ∃ p ys, xs = [V.ref p] ∧ (SqL K H p ys ∨ SqT K H p ys) ∧ Q (V.int (ys.length : Nat)) H
def cntV (ts : List Tie) (fs : List (List (Int × Int))) (j : Nat) : List V := ((fs.take j).map fun f => V.int (cntP ts f : Nat))
theorem foe_eq54 {ts : List Tie} {x : Int × Int} {t : Tie} (e : ts[x.1.toNat]? = some t) : decide (V.str (kindS t.foe) = V.str "foe") = foeK ts x := by
  unfold foeK
  rw [e]
  show decide (V.str (kindS t.foe) = V.str "foe") = t.foe
  cases t.foe
  · exact decide_eq_false fun h => by have := V.str.inj h; revert this; decide
  · exact decide_eq_true rfl
def spOddAmong : Sp := fun vs H Q _ => ∃ (wv : V) (n : Int) (ts : List Tie) (r : Addr) (vs' : List V) (fs : List (List (Int × Int))), vs = [wv, .ref r] ∧ WebAt H wv n ts ∧ H r = some (.tup vs') ∧ Paired (FcV H) vs' fs ∧ fs.length ≤ 500 ∧ (∀ f ∈ fs, f.length ≤ 500 ∧ ∀ x ∈ f, 0 ≤ x.1 ∧ x.1 < (ts.length : Int)) ∧
  ∀ r H', Same H H' → H' r = some (.tup ((oddN ts fs fs.length).map V.int)) → Q (.ref r) H'
def spOddF : Sp := fun vs H Q _ => ∃ (wv : V) (n : Int) (ts : List Tie) (o : Addr) (us : List V) (rs : List (List Int)) (es : List (Int × Int)), vs = [wv, .ref o] ∧ WebAt H wv n ts ∧ H o = some (.tup us) ∧ Paired (IntsV H) us rs ∧ Ord rs es ∧ TwE ts es ∧ rs.length ≤ 50 ∧ es.length ≤ 100 ∧
  ∀ r S H', Same H H' → S.Perm ((stepsB es rs rs.length).map (·.1)) → S.Pairwise (fun x y => SrtO.lexB y x = false) → H' r = some (.tup ((oddN ts (facesG (stepsB es rs rs.length) S).1 (facesG (stepsB es rs rs.length) S).1.length).map V.int)) → Q (.ref r) H'
theorem faces_bound {rs : List (List Int)} {ts : List Tie} {es : List (Int × Int)} (od : Ord rs es) (tw : TwE ts es) (le : es.length ≤ 100) {S : List (Int × Int)} (pS : S.Perm ((stepsB es rs rs.length).map (·.1))) : (facesG (stepsB es rs rs.length) S).1.length ≤ 500 ∧ ∀ f ∈ (facesG (stepsB es rs rs.length) S).1, f.length ≤ 500 ∧ ∀ x ∈ f, 0 ≤ x.1 ∧ x.1 < (ts.length : Int) := by
  have rnd := stepsB_rnd od
  have few := stepsB_few od
  have F := rnd.parts (S := S) fun x hx => pS.mem_iff.mp hx
  have hp := facesG_perm rnd pS
  have hl := hp.length_eq
  rw [List.length_map] at hl
  have each : ∀ f ∈ (facesG (stepsB es rs rs.length) S).1, 1 ≤ f.length := fun f hf => by
    obtain ⟨s, hs, rfl⟩ := F.cyc f hf
    rw [cycB_len]
    exact (rnd.per hs).1
  have many : ∀ gs : List (List (Int × Int)), (∀ f ∈ gs, 1 ≤ f.length) → gs.length ≤ gs.flatten.length := fun gs => by
    induction gs with
    | nil => intro _; exact Nat.zero_le _
    | cons g gs ih =>
      intro h
      have h1 := h g List.mem_cons_self
      have h2 := ih fun f hf => h f (List.mem_cons_of_mem _ hf)
      rw [List.flatten_cons, List.length_append, List.length_cons]
      omega
  refine ⟨by have := many _ each; omega, fun f hf => ?_⟩
  obtain ⟨s, hs, rfl⟩ := F.cyc f hf
  refine ⟨by rw [cycB_len]; have := (rnd.per hs).2.1; omega, fun x hx => ?_⟩
  obtain ⟨k, e, ee, e1, _⟩ := (stepsB_key od).mp (rnd.cyc_in hs x hx)
  have := (List.getElem?_eq_some_iff.mp ee).1
  rw [tw.1, e1]
  omega
section
variable {P : Program} {w : World} {K : PySem.W.Frag} {mg : Str → Option Value} {base : Heap}
set_option maxHeartbeats 2000000 in
theorem ok_odd_among {f : Addr} {fd : FuncData} (F : Fun K "odd_among" "odd_among" s_odd_among f fd) (M : Free mg) (m_enumerate : mg "enumerate" = none) : FnOk P w K mg base CX0 1 f fd ["web", "faces"] spOddAmong := by
  refine F.ok sc_odd_among (fun vs H Q E h => ?_) (fun cdv A outer s H vs Q E hr h => ?_)
  · obtain ⟨wv, n, ts, r, vs1, fs, rfl, _⟩ := h
    rfl
  · obtain ⟨wv, n, ts, r, vs1, fs, rfl, hW, hr0, hf, lf0, bd, q⟩ := h
    refine ⟨_, (pss_cons (ps_setLc (i := 2) (own := [("face", 5)]) (g := (gName 5)) (tt := tYes) rfl sc_odd_among.nd rfl rfl (sw_true rfl rfl rfl (by decide +kernel)) (pi_tup (pv 1)) (blkOk_by (N := N_odd_among) (sc := defScope s_odd_among) (own := [("face", 5)]) (by decide +kernel)) (fun _ _ _ _ _ => (pg_name (i := 5) sc_odd_among.nd rfl (.inl rfl))) (fun _ _ _ _ _ => pts_nil) (fun _ _ _ _ _ => (pe_callB (r := rLenK54 K) call_len_seq (by rfl) M.len PySem.boot_len (pa_cons (pe_lc (wi := iTup K (tVar 5)) (own := [("tie", 3), ("place", 4)]) (g := (gTup K 2 (gCons (gName 3) (gCons (gName 4) gNil)))) (te := tVar 3) rfl sc_odd_among.nd (pi_tup (pv 5)) (blkOk_by (N := N_odd_among) (sc := { kind := ScopeKind.function, names := [(".0", NameKind.local), ("face", NameKind.local), ("len", NameKind.globalImplicit), ("web", NameKind.cell)], isGenerator := false, isCoroutine := false }) (own := [("tie", 3), ("place", 4)]) (by decide +kernel)) (fun _ _ _ _ _ => (pg_tup rfl (pgs_cons (pg_name (i := 3) sc_odd_among.nd rfl (.inl rfl)) (pgs_cons (pg_name (i := 4) sc_odd_among.nd rfl (.inl rfl)) pgs_nil)))) (fun _ _ _ _ _ => (pts_one (pt_cmpR op_eq (pe_ix (r := rIxT K) ix_tup (pe_ix (r := rIxT K) ix_tup (pe_ix (r := rIxT K) ix_tup (pv 0) pe_int (fun _ _ => rfl)) (pv 3) (fun _ _ => rfl)) pe_int (fun _ _ => rfl)) pe_str (nomark _)))) (fun _ _ _ _ _ => (pv 3))) pa_nil))))
      (pss_one (ps_ret (pe_callTy call_tuple_of (by rfl) M.tuple (by decide +kernel) (pa_cons (pe_lc (own := [("number", 6), ("many", 7)]) (g := (gTup K 2 (gCons (gName 6) (gCons (gName 7) gNil)))) (te := tVar 6) rfl sc_odd_among.nd (pi_enum (by rfl) m_enumerate (pa_cons (pv 2) pa_nil)) (blkOk_by (N := N_odd_among) (sc := defScope s_odd_among) (own := [("number", 6), ("many", 7)]) (by decide +kernel)) (fun _ _ _ _ _ => (pg_tup rfl (pgs_cons (pg_name (i := 6) sc_odd_among.nd rfl (.inl rfl)) (pgs_cons (pg_name (i := 7) sc_odd_among.nd rfl (.inl rfl)) pgs_nil)))) (fun _ _ _ _ _ => (pts_one (pt_cmpR op_eq (pe_op op_mod (pv 7) pe_int) pe_int (nomark _)))) (fun _ _ _ _ _ => (pv 6))) pa_nil))))), ?_⟩
    obtain ⟨wa, wb, us, rfl, hwa, hwb, hp⟩ := id hW
    have lv : vs1.length = fs.length := Paired.length hf
    refine ⟨.ref r, rfl, r, rfl, ⟨_, SqT.of hr0⟩, fun Z nZ => ?_⟩
    refine lc_tup (K := K) (xs := vs1) (fun j H' => H' Z = some (.lst (cntV ts fs j)) ∧ Same H H') ⟨upd_same, same_new nZ⟩ (fun j H' _ h => SqT.of (h.2 _ _ hr0)) ?_ ?_
    · rintro j x H2 ex ⟨hZ, s2⟩
      obtain ⟨ps, ep, a, ws, rfl, ha, hws⟩ := Paired.at hf ex
      have jl := (List.getElem?_eq_some_iff.mp ex).1
      have bp := bd ps (List.mem_of_getElem? ep)
      have ha2 := s2 _ _ ha
      refine ⟨rfl, .ref a, rfl, a, rfl, ⟨_, SqT.of ha2⟩, fun Y nY => ?_⟩
      refine lc_tup (K := K) (xs := ws) (fun i H' => ∃ zs : List V, H' Y = some (.lst zs) ∧ zs.length = cntP ts (ps.take i) ∧ Same H2 H') ⟨[], upd_same, rfl, same_new nY⟩ (fun i H' _ h => by
        obtain ⟨_, _, _, s⟩ := h
        exact SqT.of (s _ _ ha2)) ?_ ?_
      · rintro i x H3 ei ⟨zs, hY, lz, s3⟩
        obtain ⟨q0, eq0, c, rfl, hc⟩ := Paired.at hws ei
        have il := (List.getElem?_eq_some_iff.mp ei).1
        have b0 := bp.2 q0 (List.mem_of_getElem? eq0)
        obtain ⟨t, et⟩ : ∃ t, ts[q0.1.toNat]? = some t := ⟨_, List.getElem?_eq_getElem (by omega)⟩
        obtain ⟨u, eu, tc, rfl, htc⟩ := Paired.at' hp et
        have s03 := s2.trans s3
        refine ⟨c, _, rfl, SqT.of (s03 _ _ hc), rfl, _, _, rfl, _, _, rfl, rfl, rfl, .ref wa, rfl, wa, _, 1, .ref wb, rfl, rfl, SqT.of (s03 _ _ hwa), rfl, .int q0.1, rfl, wb, us, q0.1, .ref tc, rfl, rfl, SqT.of (s03 _ _ hwb), atI_of b0.1 eu, tc, _, 2, _, rfl, rfl, SqT.of (s03 _ _ htc), rfl, rfl, _, rfl, ?_⟩
        rw [foe_eq54 et]
        have lc : zs.length ≤ i := by
          rw [lz]
          unfold cntP
          have := List.length_filter_le (foeK ts) (ps.take i)
          rw [List.length_take] at this
          omega
        have lw : ws.length = ps.length := Paired.length hws
        cases hk : foeK ts q0 with
        | true => exact ⟨.int q0.1, rfl, zs, hY, small1000 (by omega), zs ++ [.int q0.1], upd_same, by rw [List.length_append, cntP_take eq0, hk, lz]; rfl, Same.mut s3 nY⟩
        | false =>
          simp only [Bool.false_eq_true, if_false]
          exact ⟨zs, hY, by rw [cntP_take eq0, hk, lz]; rfl, s3⟩
      rintro H3 ⟨zs, hY, lz, s3⟩
      have lw : ws.length = ps.length := Paired.length hws
      rw [lw, List.take_length] at lz
      refine ⟨Y, _, rfl, .inl (SqL.of hY), _, s3 _ _ hZ, ?_, ?_, Same.mut (s2.trans s3) nZ⟩
      · unfold cntV
        rw [List.length_map, List.length_take]
        exact small1000 (by omega)
      · rw [upd_same]
        unfold cntV
        rw [List.take_add_one, ep, List.map_append, lz]
        rfl
    · rintro H2 ⟨hZ, s2⟩
      rw [lv] at hZ
      refine ⟨.ref Z, rfl, Z, _, rfl, SqL.of hZ, fun Y nY => ?_⟩
      refine lc_it (walk_enum (K := K) (xs := cntV ts fs fs.length)) (fun i H' => H' Y = some (.lst ((oddN ts fs i).map V.int)) ∧ Same H2 H') ⟨upd_same, same_new nY⟩ (fun i H' _ h => SqL.of (h.2 _ _ hZ)) ?_ ?_
      · rintro i x H3 H4 hi ⟨hY, s3⟩ ⟨T, x1, y, rfl, nT, rfl, e1, e2⟩
        obtain rfl : V.int (i : Nat) = x1 := Option.some.inj e1
        have il : i < fs.length := by
          unfold cntV at hi
          rw [List.length_map, List.length_take] at hi
          omega
        have ef := List.getElem?_eq_getElem il
        have ey : y = V.int (cntP ts fs[i] : Nat) := by
          have e2 : (cntV ts fs fs.length)[i]? = some y := e2
          unfold cntV at e2
          rw [List.take_length, List.getElem?_map, ef] at e2
          exact (Option.some.inj e2).symm
        subst ey
        have sT := same_new (o := .tup [.int (i : Nat), .int (cntP ts fs[i] : Nat)]) nT
        have hT := upd_same (H := H3) (a := T) (o := .tup [.int (i : Nat), .int (cntP ts fs[i] : Nat)])
        have hY4 := sT _ _ hY
        have s4 := s3.trans sT
        generalize upd H3 T (.tup [.int (i : Nat), .int (cntP ts fs[i] : Nat)]) = H4 at hT hY4 s4
        refine ⟨T, _, rfl, SqT.of hT, rfl, _, _, rfl, _, _, rfl, rfl, rfl, .int _, rfl, _, _, rfl, rfl, show (0 : Int) < 2 by decide, rfl, _, rfl, ?_⟩
        have eo : decide (V.int ((cntP ts fs[i] : Nat) % 2 : Int) = V.int 1) = oddP ts fs[i] := by
          rw [oddP_cnt, decide_eq_decide]
          exact ⟨fun h => V.int.inj h, fun h => by rw [h]⟩
        rw [eo]
        have ln : (oddN ts fs i).length ≤ i := by
          unfold oddN
          rw [List.length_map]
          have := List.length_filter_le (fun i => oddP ts (fs.getD i [])) (List.range i)
          rw [List.length_range] at this
          exact this
        have eN : oddN ts fs (i + 1) = oddN ts fs i ++ if oddP ts fs[i] = true then [(i : Int)] else [] := by
          rw [oddN_succ, List.getD_eq_getElem?_getD, ef]
          rfl
        refine ite2 (fun hb => ?_) (fun hb => ?_)
        · rw [if_pos hb] at eN
          exact ⟨.int (i : Nat), rfl, _, hY4, by rw [List.length_map]; exact small1000 (by omega), by rw [upd_same, eN, List.map_append]; rfl, Same.mut s4 nY⟩
        · rw [if_neg hb, List.append_nil] at eN
          exact ⟨by rw [eN]; exact hY4, s4⟩
      · rintro H3 ⟨hY, s3⟩
        have : (cntV ts fs fs.length).length = fs.length := by
          unfold cntV
          rw [List.length_map, List.take_length]
        rw [this] at hY
        refine ⟨Y, _, rfl, .inl ⟨SqL.of hY, fun r nr => ?_⟩⟩
        exact q r _ ((s2.trans s3).trans (same_new nr)) upd_same
end
/-! ### what is asked of rings -/
def wbelow (lim : Int) : V → Bool
  | .int i => decide (0 ≤ i) && decide (i < lim)
  | _ => false
def unl (lim : Int) : Option (List V) → Bool
  | some xs => xs.all (wbelow lim) && decide xs.Nodup
  | none => false
theorem ints_of {lim : Int} : ∀ {xs : List V}, xs.all (wbelow lim) = true → ∃ ns : List Int, xs = ns.map V.int ∧ ∀ n ∈ ns, 0 ≤ n ∧ n < lim
  | [], _ => ⟨[], rfl, fun n hn => by simp at hn⟩
  | x :: xs, h => by
    rw [List.all_cons, Bool.and_eq_true] at h
    obtain ⟨ns, e, h2⟩ := ints_of h.2
    cases x with
    | int i =>
      have h1 : (decide (0 ≤ i) && decide (i < lim)) = true := h.1
      rw [Bool.and_eq_true, decide_eq_true_iff, decide_eq_true_iff] at h1
      refine ⟨i :: ns, by rw [e]; rfl, fun n hn => ?_⟩
      rcases List.mem_cons.mp hn with z | z
      · rw [z]
        exact h1
      · exact h2 n z
    | _ => exact absurd (show false = true from h.1) Bool.false_ne_true
theorem nodup_ints {ns : List Int} : (ns.map V.int).Nodup ↔ ns.Nodup := by
  unfold List.Nodup
  rw [List.pairwise_map]
  exact ⟨fun h => h.imp fun {a b} g z => g (by rw [z]), fun h => h.imp fun {a b} g z => g (V.int.inj z)⟩
theorem room65 {k : Nat} {A : PySem.Around} (r : Room k A) : A.units + 65 < cLine := by have := r.un; omega
theorem eqv_two (x y u v : Int) : PyData.eqv (intsD [x, y]) (intsD [u, v]) = (decide (u = x) && decide (v = y)) := by
  show PyData.eqv (.tuple [.int x, .int y]) (.tuple [.int u, .int v]) = _
  rw [PyData.eqv, PyData.eqvAll, PyData.eqv, PyData.eqvAll, PyData.eqv, PyData.eqvAll, Bool.and_true]
  rw [Bool.eq_iff_iff, Bool.and_eq_true, Bool.and_eq_true, beq_iff_eq, beq_iff_eq, decide_eq_true_iff, decide_eq_true_iff]
  exact ⟨fun h => ⟨h.1.symm, h.2.symm⟩, fun h => ⟨h.1.symm, h.2.symm⟩⟩
def spBelow : Sp := fun vs H Q _ => ∃ lim v, vs = [.int lim, v] ∧ Kn H v ∧ Q (.bl (wbelow lim v)) H
def spUnlike (Ps : List Addr) : Sp := fun vs H Q _ => ∃ lim v, vs = [.int lim, v] ∧ Kn H v ∧ (∀ xs, parts H v = some xs → (∀ x ∈ xs, Kn H x) ∧ xs.length ≤ 1000) ∧ Tabs Ps H ∧ ∀ H', Kt Ps H H' → Q (.bl (unl lim (parts H v))) H'
def joinB (t : Tie) (a b : Int) : Bool := (decide (t.one = a) && decide (t.other = b)) || (decide (t.one = b) && decide (t.other = a))
def spJoins : Sp := fun vs H Q _ => ∃ (c : Addr) (a b : Int) (t : Tie), vs = [.ref c, .int a, .int b] ∧ H c = some (.tup [.int t.one, .int t.other, .str (kindS t.foe)]) ∧ ∀ H', Same H H' → Q (.bl (joinB t a b)) H'
section
variable {P : Program} {w : World} {K : PySem.W.Frag} {mg : Str → Option Value} {base : Heap}
theorem ok_is_whole_below {f : Addr} {fd : FuncData} (F : Fun K "is_whole_below" "is_whole_below" s_is_whole_below f fd) (D1 : Df P w K mg base 1 "is_whole" ["thing"] spWhole) : FnOk P w K mg base CX0 2 f fd ["limit", "thing"] spBelow := by
  obtain ⟨f1, fd1, G1, g1, k1, b1⟩ := D1
  refine F.ok sc_is_whole_below (fun vs H Q E h => ?_) (fun cdv A outer s H vs Q E hr h => ?_)
  · obtain ⟨lim, v, rfl, _⟩ := h
    rfl
  · obtain ⟨lim, v, rfl, hk, q⟩ := h
    refine ⟨_, (pss_one (ps_ret (pe_and (pe_call G1 hr (by rfl) g1 k1 b1 .nil pass0 (pa_cons (pv 1) pa_nil)) (pe_one (pe_chain op_le op_lt pe_int (pv 1) (pv 0)))))), ?_⟩
    refine ⟨v, rfl, v, rfl, hk, _, rfl, ?_⟩
    cases v with
    | int i =>
      refine ⟨.int i, rfl, 0, i, rfl, rfl, _, rfl, ?_⟩
      have e : wbelow lim (.int i) = (decide (0 ≤ i) && decide (i < lim)) := rfl
      rw [e] at q
      by_cases h0 : (0 : Int) ≤ i
      · rw [decide_eq_true h0] at q ⊢
        rw [Bool.true_and] at q
        exact ⟨.int lim, rfl, i, lim, rfl, rfl, q⟩
      · rw [decide_eq_false h0] at q ⊢
        exact q
    | _ => exact q
end
/-! ### all, zip -/
theorem take_all {α : Type} {xs : List α} {p : α → Bool} {i : Nat} {x : α} (h : xs[i]? = some x) (ha : (xs.take i).all p = true) : (xs.take (i + 1)).all p = p x := by
  rw [List.take_add_one, h, List.all_append, ha]
  simp
theorem all_not {α : Type} {xs : List α} {p : α → Bool} {i : Nat} {x : α} (h : xs[i]? = some x) (hp : p x = false) : xs.all p = false := by
  rw [Bool.eq_false_iff]
  intro z
  rw [List.all_eq_true] at z
  rw [z x (List.mem_of_getElem? h)] at hp
  cases hp
theorem zip_at {α β : Type} {xs : List α} {ys : List β} {i : Nat} {x : α} {y : β} (h : xs[i]? = some x) (g : ys[i]? = some y) : (xs.zip ys)[i]? = some (x, y) := by
  rw [List.getElem?_zip_eq_some]
  exact ⟨h, g⟩
/-! ### rising rows -/
def ltV : V → V → Bool
  | .int a, .int b => decide (a < b)
  | _, _ => false
def chainB (xs : List V) : Bool := (xs.zip (xs.drop 1)).all fun p => ltV p.1 p.2
def riseB (H : Hp) (lim : Int) (v : V) : Bool := match parts H v with
  | some xs => xs.all (wbelow lim) && chainB xs
  | none => false
def RowK (H : Hp) (v : V) : Prop := Kn H v ∧ ∀ xs, parts H v = some xs → (∀ x ∈ xs, Kn H x) ∧ xs.length ≤ 1000
def spRising (Ps : List Addr) : Sp := fun vs H Q _ => ∃ (lim : Int) (v : V), vs = [.int lim, v] ∧ RowK H v ∧ Tabs Ps H ∧ ∀ H', Kt Ps H H' → Q (.bl (riseB H lim v)) H'
theorem kt_kn_parts {Ps : List Addr} {H H' : Hp} (k : Kt Ps H H') (t : Tabs Ps H) {v : V} (h : Kn H v) : parts H' v = parts H v := by
  cases v with
  | ref a =>
    rcases h with ⟨xs, h⟩ | ⟨xs, h⟩ | ⟨xs, h⟩
    · unfold parts
      simp only [h, k.lst t h]
    · exact (parts_of' (h.kt k t)).trans (parts_of' h).symm
    · obtain ⟨h, d⟩ := h
      have h' := k.dctA t h d
      unfold parts
      cases xs with
      | dK kvs => simp only [h, h']
      | dT kvs => simp only [h, h']
      | _ => exact d.elim
  | _ => rfl
theorem RowK.kt {Ps : List Addr} {H H' : Hp} {v : V} (h : RowK H v) (k : Kt Ps H H') (t : Tabs Ps H) : RowK H' v := ⟨k.kn t h.1, fun xs e => by
  rw [kt_kn_parts k t h.1] at e
  exact ⟨fun x hx => k.kn t ((h.2 xs e).1 x hx), (h.2 xs e).2⟩⟩
theorem rise_kt {Ps : List Addr} {H H' : Hp} {v : V} (h : RowK H v) (k : Kt Ps H H') (t : Tabs Ps H) (lim : Int) : riseB H' lim v = riseB H lim v := by
  unfold riseB
  rw [kt_kn_parts k t h.1]
theorem cut_tail (xs : List V) : cutV xs (some 1) none = xs.drop 1 := by
  unfold cutV
  rw [HT.sIx_none, show (1 : Int) = ((1 : Nat) : Int) from rfl, HT.sIx_nat]
  cases xs with
  | nil => rfl
  | cons x r =>
    rw [Nat.min_eq_left (by simp)]
    exact List.take_of_length_le (by simp)
section
variable {P : Program} {w : World} {K : PySem.W.Frag} {mg : Str → Option Value} {base : Heap}
theorem ok_are_rising_below {f c Pt : Addr} {fd : FuncData} {Ps : List Addr} (F : FunC K "are_rising_below" "are_rising_below" s_are_rising_below f fd c) (TB : GxR.TabB base mg c Pt) (hPt : Pt ∈ Ps) (M : Free mg) (m_all : mg "all" = none) (m_zip : mg "zip" = none) (D_is_whole_below : Df P w K mg base 2 "is_whole_below" ["limit", "thing"] spBelow) : FnOk P w K mg base CX0 4 f fd ["limit", "thing"] (spRising Ps) := by
  obtain ⟨f_is_whole_below, fd_is_whole_below, G_is_whole_below, g_is_whole_below, k_is_whole_below, b_is_whole_below⟩ := D_is_whole_below
  refine F.ok sc_are_rising_below (fun vs H Q E h => ?_) (fun A outer s H vs Q E hr h => ?_)
  · obtain ⟨lim, v, rfl, _⟩ := h
    rfl
  · obtain ⟨lim, v, rfl, ⟨kv, kp⟩, hT, q⟩ := h
    refine ⟨_, (Evl.pss_cut (ps_if (PW.pt (pw_or (pt_not (pt_val (pe_callB call_isi (by rfl) M.isinstance (by decide +kernel) (pa_cons (pv 1) (pa_cons (pe_bltn (v := .ty "tuple") (by rfl) M.tuple (by decide +kernel) rfl) pa_nil))))) (pw_or1 (pt_not (pt_val (pe_all (k := 2) (own := [("number", 2)]) (g := gName 2) hr TB rfl rfl sc_are_rising_below.nd (by rfl) m_all (pi_tup (pv 1)) (blkOk_by (N := N_are_rising_below) (sc := defScope s_are_rising_below) (own := [("number", 2)]) (by decide +kernel)) ⟨rfl, by decide +kernel, by decide +kernel⟩ (show (".0" : Str) ∉ N_are_rising_below by decide +kernel) (fun _ _ _ _ _ _ _ => (pg_name (i := 2) sc_are_rising_below.nd rfl (.inl rfl))) (fun _ _ _ _ _ _ _ hr' => (pe_call G_is_whole_below hr' (by rfl) g_is_whole_below k_is_whole_below b_is_whole_below .nil pass0 (pa_cons (pv 0) (pa_cons (pv 2) pa_nil))))))))))
        (pss_one (ps_ret pe_bl))
        pss_nil)
      (pss_one (ps_ret (pe_all (k := 2) (own := [("number", 2), ("following", 3)]) (g := gTup K 2 (gCons (gName 2) (gCons (gName 3) gNil))) hr TB rfl rfl sc_are_rising_below.nd (by rfl) m_all (RZ.pi_zipA (by rfl) m_zip (pa_cons (pv 1) (pa_cons (pe_slice sl_tupQ (pv 1) (po_some pe_int) po_none) pa_nil))) (blkOk_by (N := N_are_rising_below) (sc := defScope s_are_rising_below) (own := [("number", 2), ("following", 3)]) (by decide +kernel)) ⟨rfl, by decide +kernel, by decide +kernel⟩ (show (".0" : Str) ∉ N_are_rising_below by decide +kernel) (fun _ _ _ _ _ _ _ => (pg_tup rfl (pgs_cons (pg_name (i := 2) sc_are_rising_below.nd rfl (.inl rfl)) (pgs_cons (pg_name (i := 3) sc_are_rising_below.nd rfl (.inl rfl)) pgs_nil)))) (fun _ _ _ _ _ _ _ hr' => (pe_cmpR op_lt (pv 2) (pv 3) (nomark _))))))), ?_⟩
    refine ⟨fun σ' H' => σ' = [some (.int lim), some v, none, none] ∧ Kt Ps H H' ∧ ∃ a xs, v = .ref a ∧ TupA H a xs ∧ xs.all (wbelow lim) = true, ?_, ?_⟩
    · obtain ⟨t1, h1, e1⟩ := kn_tup (K := K) kv
      refine ⟨v, rfl, v, _, t1, _, _, rfl, .ty "tuple", h1, e1, _, rfl, ?_⟩
      cases hi : isT H v with
      | false =>
        unfold riseB at q
        rw [parts_none hi] at q
        exact q _ (Kt.refl hT)
      | true =>
        obtain ⟨a, xs, rfl, ha⟩ := isT_at hi
        obtain ⟨kx, lx⟩ := kp xs (parts_of' ha)
        refine ⟨.ref a, rfl, a, rfl, ⟨_, ha.sq⟩, hT Pt hPt, fun j m H' => j + m = xs.length ∧ Kt Ps H H' ∧ (xs.take j).all (wbelow lim) = true, fun H2 hH2 => ⟨xs.length, by omega, Kt.tabbed hT hPt hH2, rfl⟩, fun j m H' hw => ?_⟩
        obtain ⟨em, kt, hal⟩ := hw
        have ha' := ha.kt kt hT
        by_cases hj : j < xs.length
        · refine .inr ⟨⟨_, _, ha'.sq, List.getElem?_eq_getElem hj⟩, fun H3 => Kt Ps H H3 ∧ (xs.take (j + 1)).all (wbelow lim) = true, fun H3 n3 => ⟨m - 1, by omega, by omega, n3.1, n3.2⟩, fun x H3 hy => ?_⟩
          obtain ⟨rfl, fy⟩ := hy
          have ex : xs[j]? = some x := fy _ (ha'.sq)
          refine ⟨rfl, .int lim, rfl, x, rfl, lim, x, rfl, kt.kn hT (kx x (List.mem_of_getElem? ex)), _, rfl, ?_⟩
          cases hb : wbelow lim x with
          | true => exact ⟨kt, (take_all ex hal).trans hb⟩
          | false =>
            have no : riseB H lim (.ref a) = false := by
              unfold riseB
              rw [parts_of' ha]
              show (xs.all (wbelow lim) && chainB xs) = false
              rw [all_not ex hb]
              rfl
            rw [no] at q
            exact ⟨_, rfl, q _ kt⟩
        · refine .inl ⟨⟨_, ha'.sq, by omega⟩, ?_⟩
          rw [List.take_of_length_le (by omega)] at hal
          exact ⟨_, rfl, rfl, kt, a, xs, rfl, ha, hal⟩
    · rintro σ' H1 ⟨rfl, kt1, a, xs, rfl, ha, hal⟩
      obtain ⟨kx, lx⟩ := kp xs (parts_of' ha)
      have er : riseB H lim (.ref a) = chainB xs := by
        unfold riseB
        rw [parts_of' ha]
        show (xs.all (wbelow lim) && chainB xs) = chainB xs
        rw [hal]
        rfl
      rw [er] at q
      have T1 : Tabs Ps H1 := kt1.tab
      have ha1 := ha.kt kt1 hT
      refine ⟨.ref a, rfl, .ref a, rfl, 1, rfl, a, xs, rfl, ha1, fun r H2 s2 hr2 _ => ?_⟩
      rw [cut_tail] at hr2
      have k2 := Kt.same T1 s2
      have T2 : Tabs Ps H2 := k2.tab
      have ha2 := ha1.same s2
      have k12 := kt1.trans k2
      refine ⟨a, r, xs, xs.drop 1, rfl, .inr ⟨ha2.sq, hr2.sq, ?_⟩⟩
      refine ⟨T2 Pt hPt, fun i m H' => i + m = xs.length - 1 ∧ Kt Ps H2 H' ∧ ((xs.zip (xs.drop 1)).take i).all (fun p => ltV p.1 p.2) = true, fun H3 hH3 => ⟨xs.length - 1, by omega, Kt.tabbed T2 hPt hH3, rfl⟩, fun i m H' hw => ?_⟩
      obtain ⟨em, kt, hal2⟩ := hw
      have ha' := ha2.kt kt T2
      have hr' := hr2.kt kt T2
      by_cases hi : i < xs.length - 1
      · have hd : i < (xs.drop 1).length := by rw [List.length_drop]; exact hi
        refine .inr ⟨⟨xs, xs.drop 1, _, _, ha'.sq, hr'.sq, List.getElem?_eq_getElem (by omega), List.getElem?_eq_getElem hd⟩, fun H3 => Kt Ps H2 H3 ∧ ((xs.zip (xs.drop 1)).take (i + 1)).all (fun p => ltV p.1 p.2) = true, fun H3 n3 => ⟨m - 1, by omega, by omega, n3.1, n3.2⟩, fun x H3 hy => ?_⟩
        obtain ⟨T, x1, y1, rfl, nT, rfl, gx, gy⟩ := hy
        have ex := gx _ (ha'.sq)
        have ey := gy _ (hr'.sq)
        have ez := zip_at ex ey
        have wb : ∀ z ∈ xs, ∃ k, z = .int k := fun z hz => by
          rw [List.all_eq_true] at hal
          have := hal z hz
          cases z with
          | int k => exact ⟨k, rfl⟩
          | _ => cases this
        obtain ⟨a1, rfl⟩ := wb x1 (List.mem_of_getElem? ex)
        obtain ⟨b1, rfl⟩ := wb y1 (List.mem_of_mem_drop (List.mem_of_getElem? ey))
        have s3 : Same H' (upd H' T (.tup [.int a1, .int b1])) := same_new nT
        have kt3 := kt.trans (Kt.same kt.tab s3)
        refine ⟨T, _, rfl, SqT.of upd_same, rfl, _, _, rfl, _, _, rfl, rfl, rfl, .int a1, rfl, .int b1, rfl, a1, b1, rfl, rfl, _, rfl, ?_⟩
        cases hb : decide (a1 < b1) with
        | true => exact ⟨kt3, (take_all ez hal2).trans hb⟩
        | false =>
          have no : chainB xs = false := all_not ez hb
          rw [no] at q
          exact q _ (k12.trans kt3)
      · refine .inl ⟨⟨xs, xs.drop 1, ha'.sq, hr'.sq, .inr (by rw [List.length_drop]; omega)⟩, ?_⟩
        have lz : (xs.zip (xs.drop 1)).length ≤ i := by rw [List.length_zip, List.length_drop]; omega
        rw [List.take_of_length_le lz] at hal2
        have yes : chainB xs = true := hal2
        rw [yes] at q
        exact q _ (k12.trans kt)
end
/-! ### dict comprehensions with two clauses -/
theorem compTurn2D_out (kx vx t0 i0 t1 i1 : Expr) (ifs0 ifs1 : List Expr) (scope : Scope) (pos : Pos) (it : Value) (D : Addr) (env : Env) :
    compTurn (.DictComp kx vx [⟨t0, i0, ifs0, 0⟩, ⟨t1, i1, ifs1, 0⟩] scope pos) 0 it (.ref D) env = (do
      standAt i0.pos
      match ← pyNext it with
      | none => pure (.done .next)
      | some v =>
        letOwnedTupleGo t0 it v
        assign t0 env v
        let mut ok := true
        for c in ifs0 do
          if ok then ok ← isTrue c env (eval c env)
        if ok then
          let x ← eval i1 env
          standAt i1.pos
          let x ← foldedSetIterable i1 env x
          let _ ← runOwn (.compStart (.DictComp kx vx [⟨t0, i0, ifs0, 0⟩, ⟨t1, i1, ifs1, 0⟩] scope pos) 1 (← holding [x] (pyIter x)) (.ref D) env) env
        again (.compLoop (.DictComp kx vx [⟨t0, i0, ifs0, 0⟩, ⟨t1, i1, ifs1, 0⟩] scope pos) 0 it (.ref D) env)) := by rfl
theorem compTurn2D_in (kx vx t0 i0 t1 i1 : Expr) (ifs0 ifs1 : List Expr) (scope : Scope) (pos : Pos) (it : Value) (D : Addr) (env : Env) :
    compTurn (.DictComp kx vx [⟨t0, i0, ifs0, 0⟩, ⟨t1, i1, ifs1, 0⟩] scope pos) 1 it (.ref D) env = (do
      standAt i1.pos
      match ← pyNext it with
      | none => pure (.done .next)
      | some v =>
        letOwnedTupleGo t1 it v
        assign t1 env v
        let mut ok := true
        for c in ifs1 do
          if ok then ok ← isTrue c env (eval c env)
        if ok then
          (do
            let kv ← eval kx env
            let vv ← holding [kv] (eval vx env)
            standAt { kx.pos with endLine := vx.pos.endLine, endCol := vx.pos.endCol }
            holding [kv, vv] (dictSet D kv vv))
        again (.compLoop (.DictComp kx vx [⟨t0, i0, ifs0, 0⟩, ⟨t1, i1, ifs1, 0⟩] scope pos) 1 it (.ref D) env)) := by rfl
section
variable {prog : Program} {w : World} {A : PySem.Around} {R : Result → Shared → Prop} {s : Shared} {kx vx t0 i0 t1 i1 : Expr} {ifs0 ifs1 : List Expr} {scope : Scope} {pos : Pos} {it : Value} {D : Addr} {env : Env}
/-- the loop of the first clause -/
theorem compLoop2D_out (hs : ∀ x, foldedSetIterable i1 env x = pure x) (I : Nat → Shared → Prop)
    (turn : ∀ n s, I n s → wpAny (model prog w) A (pyNext it) (fun r s₁ => match r with
      | none => R (.ok .next) s₁
      | some v => wpAny (model prog w) A (letOwnedTupleGo t0 it v) (fun _ s₁' => wpAny (model prog w) A (assign t0 env v) (fun _ s₂ =>
          wpAny (model prog w) A (forIn ifs0 true fun c r => if r = true then do let ok ← isTrue c env (eval c env); pure (ForInStep.yield ok) else pure (ForInStep.yield r)) (fun ok s₃ =>
            if ok = true then wpAny (model prog w) A (eval i1 env) (fun x s₄ => wpAny (model prog w) A (pyIter x) (fun it1 s₅ =>
              codeAny (model prog w) A (.compStart (.DictComp kx vx [⟨t0, i0, ifs0, 0⟩, ⟨t1, i1, ifs1, 0⟩] scope pos) 1 it1 (.ref D) env) (fun r s' => match r with
                | .ok _ => ∃ m, m < n ∧ I m s'
                | .error _ => False) s₅) (notedBy (model prog w) A env fun e s' => R (.error e) s') s₄) (notedBy (model prog w) A env fun e s' => R (.error e) s') s₃
            else ∃ m, m < n ∧ I m s₃) (notedBy (model prog w) A env fun e s' => R (.error e) s') s₂) (notedBy (model prog w) A env fun e s' => R (.error e) s') s₁') (notedBy (model prog w) A env fun e s' => R (.error e) s') s₁) (notedBy (model prog w) A env fun e s' => R (.error e) s') s)
    (n : Nat) (h : I n s) :
    codeAny (model prog w) A (.compLoop (.DictComp kx vx [⟨t0, i0, ifs0, 0⟩, ⟨t1, i1, ifs1, 0⟩] scope pos) 0 it (.ref D) env) R s := by
  refine codeAny_loop rfl I (fun n s hI => ?_) n h
  show wpAny _ A ((compTurn (.DictComp kx vx [⟨t0, i0, ifs0, 0⟩, ⟨t1, i1, ifs1, 0⟩] scope pos) 0 it (.ref D) env).onRaise (fun x => do noteFrame x env; theTreesLotGoes x)) _ _ s
  refine wpAny_noted ?_
  rw [compTurn2D_out]
  refine wpAny_bind (wpAny_standAt (wpAny_bind (wpAny_mono (turn n s hI) (fun r s₁ h₁ => ?_) fun _ _ h' => h')))
  cases r with
  | none => exact wpAny_pure h₁
  | some v =>
    refine wpAny_bind (wpAny_mono h₁ (fun _ s₁' h₁' => ?_) fun _ _ h' => h')
    refine wpAny_bind (wpAny_mono h₁' (fun _ s₂ h₂ => wpAny_bind (wpAny_mono h₂ (fun ok s₃ h₃ => ?_) fun _ _ h' => h')) fun _ _ h' => h')
    cases ok with
    | false => exact wpAny_pure ⟨rfl, h₃⟩
    | true =>
      refine wpAny_bind (wpAny_mono h₃ (fun x s₄ h₄ => ?_) fun _ _ h' => h')
      refine wpAny_bind (wpAny_standAt (wpAny_bind (wpAny_of_eq (hs x) (wpAny_bind (wpAny_holding (wpAny_mono h₄ (fun it1 s₅ h₅ => ?_) fun _ _ h' => h'))))))
      refine wpAny_bind (wpAny_runOwn ?_)
      rw [Around.mark_none]
      refine codeAny_mono h₅ fun r s' hr => ?_
      cases r with
      | ok f =>
        first
          | exact wpAny_pure ⟨rfl, hr⟩
          | exact wpAny_bind (wpAny_pure (wpAny_pure ⟨rfl, hr⟩))
      | error e => exact hr.elim
/-- the loop of the second -/
theorem compLoop2D_in (I : Nat → Shared → Prop)
    (turn : ∀ n s, I n s → wpAny (model prog w) A (pyNext it) (fun r s₁ => match r with
      | none => R (.ok .next) s₁
      | some v => wpAny (model prog w) A (letOwnedTupleGo t1 it v) (fun _ s₁' => wpAny (model prog w) A (assign t1 env v) (fun _ s₂ =>
          wpAny (model prog w) A (forIn ifs1 true fun c r => if r = true then do let ok ← isTrue c env (eval c env); pure (ForInStep.yield ok) else pure (ForInStep.yield r)) (fun ok s₃ =>
            if ok = true then wpAny (model prog w) A (eval kx env) (fun kv s₄ => wpAny (model prog w) A (eval vx env) (fun vv s₅ =>
              wpAny (model prog w) A (dictSet D kv vv) (fun _ s₆ => ∃ m, m < n ∧ I m s₆) (notedBy (model prog w) A env fun e s' => R (.error e) s') s₅) (notedBy (model prog w) A env fun e s' => R (.error e) s') s₄) (notedBy (model prog w) A env fun e s' => R (.error e) s') s₃
            else ∃ m, m < n ∧ I m s₃) (notedBy (model prog w) A env fun e s' => R (.error e) s') s₂) (notedBy (model prog w) A env fun e s' => R (.error e) s') s₁') (notedBy (model prog w) A env fun e s' => R (.error e) s') s₁) (notedBy (model prog w) A env fun e s' => R (.error e) s') s)
    (n : Nat) (h : I n s) :
    codeAny (model prog w) A (.compLoop (.DictComp kx vx [⟨t0, i0, ifs0, 0⟩, ⟨t1, i1, ifs1, 0⟩] scope pos) 1 it (.ref D) env) R s := by
  refine codeAny_loop rfl I (fun n s hI => ?_) n h
  show wpAny _ A ((compTurn (.DictComp kx vx [⟨t0, i0, ifs0, 0⟩, ⟨t1, i1, ifs1, 0⟩] scope pos) 1 it (.ref D) env).onRaise (fun x => do noteFrame x env; theTreesLotGoes x)) _ _ s
  refine wpAny_noted ?_
  rw [compTurn2D_in]
  refine wpAny_bind (wpAny_standAt (wpAny_bind (wpAny_mono (turn n s hI) (fun r s₁ h₁ => ?_) fun _ _ h' => h')))
  cases r with
  | none => exact wpAny_pure h₁
  | some v =>
    refine wpAny_bind (wpAny_mono h₁ (fun _ s₁' h₁' => ?_) fun _ _ h' => h')
    refine wpAny_bind (wpAny_mono h₁' (fun _ s₂ h₂ => wpAny_bind (wpAny_mono h₂ (fun ok s₃ h₃ => ?_) fun _ _ h' => h')) fun _ _ h' => h')
    cases ok with
    | false => exact wpAny_pure ⟨rfl, h₃⟩
    | true =>
      exact wpAny_bind (wpAny_bind (wpAny_mono h₃ (fun kv s₄ h₄ => wpAny_bind (wpAny_holding (wpAny_mono h₄ (fun vv s₅ h₅ => wpAny_bind (wpAny_standAt (wpAny_holding (wpAny_mono h₅ (fun _ s₆ h₆ => wpAny_pure ⟨rfl, h₆⟩) fun _ _ h' => h')))) fun _ _ h' => h'))) fun _ _ h' => h'))
/-- the second clause's start -/
theorem compStart1D_ok (h0 : codeAny (model prog w) A (.compLoop (.DictComp kx vx [⟨t0, i0, ifs0, 0⟩, ⟨t1, i1, ifs1, 0⟩] scope pos) 1 it (.ref D) env) R s)
    (h : wpAny (model prog w) A (pyIter it) (fun it' s' => codeAny (model prog w) A (.compLoop (.DictComp kx vx [⟨t0, i0, ifs0, 0⟩, ⟨t1, i1, ifs1, 0⟩] scope pos) 1 it' (.ref D) env) R s')
      (notedBy (model prog w) A env fun x s' => R (.error x) s') s) :
    codeAny (model prog w) A (.compStart (.DictComp kx vx [⟨t0, i0, ifs0, 0⟩, ⟨t1, i1, ifs1, 0⟩] scope pos) 1 it (.ref D) env) R s := by
  refine codeAny_of_tree ?_
  show wpAny _ _ ((compStart (.DictComp kx vx [⟨t0, i0, ifs0, 0⟩, ⟨t1, i1, ifs1, 0⟩] scope pos) 1 it (.ref D) env).onRaise (fun x => do noteFrame x env; standAt theWindowsPlace)) _ _ s
  refine wpAny_notedAt ?_
  unfold compStart
  show wpAny _ _ (ask >>= _) _ _ s
  refine wpAny_bind (wpAny_askSetting (wpAny_ite ?_))
  split
  · first
      | exact wpAny_bind (wpAny_pure (wpAny_pure (And.intro rfl h0)))
      | exact wpAny_pure (And.intro rfl h0)
  · first
      | exact wpAny_bind (wpAny_rule (wpAny_bind (wpAny_standAt (wpAny_bind (wpAny_mono h (fun it' s' h' => wpAny_pure (And.intro rfl h')) fun _ _ x => x)))))
      | (refine wpAny_bind (wpAny_rule ?_); show wpAny _ _ (standAt i1.pos >>= _) _ _ s; exact wpAny_bind (wpAny_standAt (wpAny_bind (wpAny_mono h (fun it' s' h' => wpAny_pure (And.intro rfl h')) fun _ _ x => x))))
end
/-! ### dict comprehensions whose keys are tuples -/
theorem d_dictSetT {X : Cx} {pins : List (Addr × Obj)} {σ : L2.St} {H : Hp} {s : Shared} {E : Value → Shared → Prop} {D b : Addr} {kvs : List (List Key × V)} {k : List Key} {v : V} {u r : Value} {Q : Unit → Shared → Prop} (hu : X.A.units < cLine) (I : Inv X pins σ H s) (hb : H b = some (.tup (k.map kV))) (hD : H D = some (.dT kvs)) (hz : kvs.length < sizeLine)
    (ry : RelV (.ref b) u) (rv : RelV v r) (h : ∀ s', Inv X pins σ (upd H D (.dT (putK kvs k v))) s' → Q () s') : wpAny (model X.prog X.w) X.A (dictSet D u r) Q E s := by
  cases (show u = Value.ref b from ry)
  obtain ⟨z, hd, xs, rel, dd⟩ := dt_of I.hok hD
  have lx : xs.length ≤ sizeLine := by rw [← Paired.length rel]; exact z
  have lp : (putK kvs k v).length ≤ sizeLine := by have := length_putK kvs k v; omega
  refine wpAny_dictSet_heap (hsz := lx) (knd := tupleKind (mixKind X.prog X.w)) (A := X.A) hu (key_of I.hok hb) dd fun h' dd' hs => ?_
  obtain ⟨q, es, ep, hq, h2, h3, h4, g, h5⟩ := dd'
  refine h _ (d_write I (by rw [hD]; exact True.intro) hs ⟨q, hq⟩ ⟨lp, hd, _, (rel.put k hb rv).keeps fun c ys ec => ?_, q, es, ep, hq, h2, h3, h4, h5⟩)
  rw [upd_ne (ne_of ec hD (fun z => nomatch z))]
  exact ec
section
variable {X : Cx}
/-- {kx: vx for tg in iter if .. for tg1 in iter1 if ..}: behind the first clause's store and tests the second source's own loop, from which Nx is reached. vs: the block's names; vs1: those of the second target -/
def tDc2T (wi : TI) (g : TG) (tt : TT) (wi1 : TI) (g1 : TG) (tt1 : TT) (tk te : TE) (vs vs1 : List Nat) : TE := fun σ H Q => wi σ H fun J H1 => ∀ D, H1 D = none → ∃ W : Nat → Nat → Hp → Prop, (∃ m, W 0 m (upd H1 D (.dT []))) ∧ ∀ i m H, W i m H →
  (J.stop i H ∧ Q (.ref D) H) ∨ (J.go i H ∧ ∃ Nx : Hp → Prop, (∀ H', Nx H' → ∃ m', m' < m ∧ W (i + 1) m' H') ∧ ∀ x H', J.yld i H x H' → g x (wipe σ vs) H' fun σ2 H2 => wipe σ2 vs = wipe σ vs ∧ tt σ2 H2 fun b H3 =>
    if b = true then wi1 σ2 H3 fun J1 H4 => ∃ W1 : Nat → Nat → Hp → Prop, (∃ m, W1 0 m H4) ∧ ∀ j k H, W1 j k H →
      (J1.stop j H ∧ Nx H) ∨ (J1.go j H ∧ ∃ Nx1 : Hp → Prop, (∀ H', Nx1 H' → ∃ k', k' < k ∧ W1 (j + 1) k' H') ∧ ∀ x H', J1.yld j H x H' → g1 x (wipe σ2 vs1) H' fun σ3 H5 => wipe σ3 vs1 = wipe σ2 vs1 ∧ tt1 σ3 H5 fun b H6 =>
        if b = true then tk σ3 H6 fun y H7 => te σ3 H7 fun z H8 => ∃ kvs k b, y = .ref b ∧ H8 b = some (.tup (k.map kV)) ∧ H8 D = some (.dT kvs) ∧ kvs.length < sizeLine ∧ Nx1 (upd H8 D (.dT (putK kvs k z))) else Nx1 H6)
    else Nx H3)
theorem dc2T_core {pins : List (Addr × Obj)} {s : Shared} {σ : L2.St} {H : Hp} {Q : VK} {kx vx tg iter tg1 iter1 : Expr} {ifs ifs1 : List Expr} {scope : Scope} {own : List (Str × Nat)} {vs1 : List Nat} {pos pos' : Pos} {wi wi1 : TI} {g g1 : TG} {tt tt1 : TT} {tk te : TE} {use : Option (Value → Sem Unit)} {Qf : Value → Shared → Prop}
    (hc : X.calm = true) (hu : X.A.units < cLine) (hN : X.N.Nodup) (I : Inv X pins σ H s) (hi : PI X tg iter wi) (ok : BlkOk X.N X.env.scope scope own) (hv : ∀ i ∈ vs1, i ∈ own.map (·.2))
    (hg : ∀ (s : Shared) (H : Hp) (C : Addr) (cl : List (Str × Addr)) (fp : List Addr), PG (X.blk s H scope (compEnvC scope cl C X.env) fp) tg g) (ht : ∀ (s : Shared) (H : Hp) (C : Addr) (cl : List (Str × Addr)) (fp : List Addr), PTs (X.blk s H scope (compEnvC scope cl C X.env) fp) ifs tt)
    (hk : ∀ (s : Shared) (H : Hp) (C : Addr) (cl : List (Str × Addr)) (fp : List Addr), PE (X.blk s H scope (compEnvC scope cl C X.env) fp) kx tk)
    (he : ∀ (s : Shared) (H : Hp) (C : Addr) (cl : List (Str × Addr)) (fp : List Addr), PE (X.blk s H scope (compEnvC scope cl C X.env) fp) vx te) (hs : ∀ x, foldedSetIterable iter X.env x = pure x)
    (hi1 : ∀ (s : Shared) (H : Hp) (C : Addr) (cl : List (Str × Addr)) (fp : List Addr), PI (X.blk s H scope (compEnvC scope cl C X.env) fp) tg1 iter1 wi1)
    (hg1 : ∀ (s : Shared) (H : Hp) (C : Addr) (cl : List (Str × Addr)) (fp : List Addr), PG (X.blk s H scope (compEnvC scope cl C X.env) fp) tg1 g1)
    (ht1 : ∀ (s : Shared) (H : Hp) (C : Addr) (cl : List (Str × Addr)) (fp : List Addr), PTs (X.blk s H scope (compEnvC scope cl C X.env) fp) ifs1 tt1)
    (hs1 : ∀ env x, foldedSetIterable iter1 env x = pure x)
    (h : tDc2T wi g tt wi1 g1 tt1 tk te (own.map (·.2)) vs1 σ H Q)
    (hRR : ∀ D C s' m H', Inv X pins σ H' s' → Q (.ref D) H' → s'.heap.Ns C m → FpOk X pins H' C → compPost (model X.prog X.w) X.A X.xe use Qf (.ref D) C (.ok .next) s') :
    wpAny (model X.prog X.w) X.A (comprehension (.DictComp kx vx [⟨tg, iter, ifs, 0⟩, ⟨tg1, iter1, ifs1, 0⟩] scope pos) scope X.env pos' (newDict) false (eval iter X.env) use) Qf X.xe s := by
  have hfree : ∀ y ∈ scope.names, y.2 = .free → ∃ c, X.env.cells.lookup y.1 = some c := fun y hy e => by
    rcases ok.free y hy e with k | k
    · exact I.ok.has _ (.inl k)
    · exact I.ok.has _ (.inr k)
  refine wpAny_comprehension_free (use := use) rfl hs (closure_ok hfree) ok.kind (fun y hy e => by rw [ok.uniq y hy, e])
    (thn (hi.run pins s σ H _ I h) fun xv s1 hx => thn hx fun itv s2 h2 => ?_)
  obtain ⟨it, fp, tn, J, H2, e, I2, T, st2, f2, q⟩ := h2
  subst e
  refine wpAny_newObj_type (newEnv_comp ?_)
  generalize hD : s2.heap.objs.size = D
  have hDn : H2 D = none := I2.hok.fresh (Nat.le_of_eq hD)
  obtain ⟨W, ⟨m0, w0⟩, turn⟩ := q D hDn
  -- the new list
  generalize hs3 : ({ s2 with heap := s2.heap.push { cls := .type "dict", data := .dict #[] } } : Shared) = s3
  have I3 : Inv X pins σ (upd H2 D (.dT [])) s3 := by
    rw [← hs3]
    refine I2.laid (t' := s2.toks) (fun b o e => Heap.get?_push_of_some _ e) (Nat.le_of_eq hD) ?_
    rw [← hD]
    exact dt_empty s2.heap I2.big
  have h3 : s3.heap = s2.heap.push { cls := .type "dict", data := .dict #[] } := by rw [← hs3]
  have sz : ∀ b ∈ fp, b < s2.heap.objs.size := fun b hb => by
    obtain ⟨o, e, _⟩ := T.obj _ _ st2 b hb
    exact Heap.lt_size e
  have f3 : ∀ b ∈ fp, FpOk X pins (upd H2 D (.dT [])) b ∧ b < s3.heap.objs.size := fun b hb => by
    have hlt := sz b hb
    refine ⟨⟨?_, (f2 b hb).2⟩, by rw [h3, Heap.size_push]; exact Nat.lt_succ_of_lt hlt⟩
    rw [upd_ne (by rw [← hD]; exact Nat.ne_of_lt hlt)]
    exact (f2 b hb).1
  have st3 : tn 0 s3.heap := T.keep _ _ _ st2 fun b _ o e => by rw [h3]; exact Heap.get?_push_of_some _ e
  have I4 := block_start I3 ok hN f3
  have pg := hg s3 (upd H2 D (.dT [])) s3.heap.objs.size (cellsFrom (s3.heap.objs.size + 1) scope.names (cloFrom X.env.cells scope.names [])) fp
  have pt := ht s3 (upd H2 D (.dT [])) s3.heap.objs.size (cellsFrom (s3.heap.objs.size + 1) scope.names (cloFrom X.env.cells scope.names [])) fp
  have pk := hk s3 (upd H2 D (.dT [])) s3.heap.objs.size (cellsFrom (s3.heap.objs.size + 1) scope.names (cloFrom X.env.cells scope.names [])) fp
  have pe := he s3 (upd H2 D (.dT [])) s3.heap.objs.size (cellsFrom (s3.heap.objs.size + 1) scope.names (cloFrom X.env.cells scope.names [])) fp
  have pi1 := hi1 s3 (upd H2 D (.dT [])) s3.heap.objs.size (cellsFrom (s3.heap.objs.size + 1) scope.names (cloFrom X.env.cells scope.names [])) fp
  have pg1 := hg1 s3 (upd H2 D (.dT [])) s3.heap.objs.size (cellsFrom (s3.heap.objs.size + 1) scope.names (cloFrom X.env.cells scope.names [])) fp
  have pt1 := ht1 s3 (upd H2 D (.dT [])) s3.heap.objs.size (cellsFrom (s3.heap.objs.size + 1) scope.names (cloFrom X.env.cells scope.names [])) fp
  show codeAny _ _ (.compStart (.DictComp kx vx [⟨tg, iter, ifs, 0⟩, ⟨tg1, iter1, ifs1, 0⟩] scope pos) 0 (.ref it) (.ref D) (compEnvC scope (cellsFrom (s3.heap.objs.size + 1) scope.names (cloFrom X.env.cells scope.names [])) s3.heap.objs.size X.env)) (compPost (model X.prog X.w) X.A X.xe use Qf (.ref D) s3.heap.objs.size) { s3 with heap := pushCells (s3.heap.push { cls := .type "dict", data := .dict #[] }) scope.names }
  have nfp : ∀ b ∈ fp, (upd H2 D (.dT [])) b = none := fun b hb => (f3 b hb).1.1
  generalize hce : compEnvC scope (cellsFrom (s3.heap.objs.size + 1) scope.names (cloFrom X.env.cells scope.names [])) s3.heap.objs.size X.env = ce at I4 pg pt pk pe pi1 pg1 pt1 ⊢
  have cL : ce.locals = s3.heap.objs.size := by subst hce; rfl
  generalize hH3 : upd H2 D (.dT []) = H3 at I3 I4 pg pt pk pe pi1 pg1 pt1 w0 nfp f3
  generalize hs4 : ({ s3 with heap := pushCells (s3.heap.push { cls := .type "dict", data := .dict #[] }) scope.names } : Shared) = s4 at I4 ⊢
  have st4 : tn 0 s4.heap := T.keep _ _ _ st3 fun b _ o e => by rw [← hs4]; exact pushCells_keeps _ _ _ _ (Heap.get?_push_of_some _ e)
  have stat : ∀ {σ' : L2.St} {H' : Hp} {s' : Shared}, Inv (X.blk s3 H3 scope ce fp) [] σ' H' s' → (∀ b ∈ fp, H' b = none) → ∀ b ∈ fp, FpOk (X.blk s3 H3 scope ce fp) [] H' b := fun {σ' H' s'} I' hn b hb =>
    ⟨hn b hb, (I'.ok.exf b hb).1, I'.ok.exfs b hb, .inl hb, fun x c e => (I'.ok.exf b hb).2 x c e, fun p hp => absurd (show p ∈ ([] : List (Addr × Obj)) ++ [] from hp) (by simp)⟩
  have loop : codeAny (model X.prog X.w) X.A (.compLoop (.DictComp kx vx [⟨tg, iter, ifs, 0⟩, ⟨tg1, iter1, ifs1, 0⟩] scope pos) 0 (.ref it) (.ref D) ce) (compPost (model X.prog X.w) X.A X.xe use Qf (.ref D) s3.heap.objs.size) s4 := by
    refine compLoop2D_out (hs1 ce) (fun n s' => ∃ i H', Inv (X.blk s3 H3 scope ce fp) [] (wipe σ (own.map (·.2))) H' s' ∧ tn i s'.heap ∧ (∀ b ∈ fp, H' b = none) ∧ W i n H') ?_ m0 ⟨0, H3, I4, st4, nfp, w0⟩
    rintro n s5 ⟨i, H5, I5, st5, n5, w5⟩
    rcases turn i n H5 w5 with ⟨stop, qq⟩ | ⟨go, Nx, hNx, step⟩
    · have td := T.done (X.blk s3 H3 scope ce fp) rfl rfl rfl hc i [] s5 _ H5 (fun _ _ => False) I5 (stat I5 n5) st5 stop
      refine thnF td fun r s6 ⟨hr, I6⟩ => ?_
      subst hr
      -- back in the def's context
      have I7 : Inv X pins σ H5 s6 := I3.call' (ch := fp) I6.os I6.base I6.hok I6.bare fun b hb => ⟨(f3 b hb).1.2.2.2.1, (f3 b hb).1.2.1, (f3 b hb).1.2.2.2.2.1, (f3 b hb).1.2.2.2.2.2⟩
      have nC : H5 s3.heap.objs.size = none := by
        have z : H5 ce.locals = none := I6.free
        rw [cL] at z
        exact z
      obtain ⟨m, hn, _⟩ := I6.loc
      have hn : s6.heap.Ns ce.locals m := hn
      rw [cL] at hn
      exact hRR D s3.heap.objs.size s6 m H5 I7 qq hn (I3.fpOk (Nat.le_refl _) nC)
    · have ti := T.item (X.blk s3 H3 scope ce fp) rfl rfl rfl hc i [] s5 _ H5 (fun _ _ => False) I5 (stat I5 n5) st5 go
      refine thnF ti fun r s6 ⟨u, hr, h6⟩ => ?_
      subst hr
      refine thnF h6 fun _ s7 ⟨x, H7, I7, r7, y7, st7, n7⟩ => ?_
      have I7' := I7.pinned (stat I7 n7) (T.obj _ _ st7)
      refine thnF (pg.run _ s7 _ H7 x u _ I7' r7 (step x H7 y7)) fun _ s8 ⟨σ8, H8, I8, hw8, q8⟩ => ?_
      refine thnF (pt.run _ s8 σ8 H8 _ I8 q8) fun b s9 ⟨H9, I9, q9⟩ => ?_
      -- the turn's end, from any slots that know what the block knew at its start
      have fin : ∀ {σ9 : L2.St} {s' : Shared} {H' : Hp}, Inv (X.blk s3 H3 scope ce fp) ([] ++ pinsAt fp s7.heap) σ9 H' s' → (wipe σ (own.map (·.2))).length = σ9.length → (∀ (j : Nat) v, (wipe σ (own.map (·.2)))[j]? = some (some v) → σ9[j]? = some (some v)) → Nx H' →
          ∃ m, m < n ∧ ∃ i H', Inv (X.blk s3 H3 scope ce fp) [] (wipe σ (own.map (·.2))) H' s' ∧ tn i s'.heap ∧ (∀ b ∈ fp, H' b = none) ∧ W i m H' := fun {σ9 s' H'} I' hl hk nx => by
        obtain ⟨m', hm, w'⟩ := hNx H' nx
        have pin' : ∀ b ∈ fp, ∀ o, s7.heap.get? b = some o → s'.heap.get? b = some o ∧ H' b = none := fun b hb o e =>
          let z := I'.pin (b, o) (List.mem_append_right _ (List.mem_append_right _ (mem_pinsAt hb e)))
          ⟨z.1, z.2.1⟩
        refine ⟨m', hm, i + 1, H', (I'.unpinned (pins := [])).weak hl hk, T.keep _ _ _ st7 fun b hb o e => (pin' b hb o e).1, fun b hb => ?_, w'⟩
        obtain ⟨o, e, _⟩ := T.obj _ _ st7 b hb
        exact (pin' b hb o e).2
      have hl8 : (wipe σ (own.map (·.2))).length = σ8.length := by rw [← hw8, wipe_length]
      have hk8 : ∀ (j : Nat) v, (wipe σ (own.map (·.2)))[j]? = some (some v) → σ8[j]? = some (some v) := fun j v e => by
        rw [← hw8] at e
        exact (wipe_some e).1
      have hk9 : ∀ (j : Nat) v, (wipe σ (own.map (·.2)))[j]? = some (some v) → (wipe σ8 vs1)[j]? = some (some v) := fun j v e => by
        rw [← hw8] at e
        obtain ⟨e1, e2⟩ := wipe_some e
        rw [wipe_out fun z => e2 (hv j z)]
        exact e1
      cases b with
      | false =>
        simp only [Bool.false_eq_true, if_false] at q9 ⊢
        exact fin I9 hl8 hk8 q9
      | true =>
        simp only [if_true] at q9 ⊢
        refine thnF (pi1.run _ s9 σ8 H9 _ I9 q9) fun xv s10 hx => thnF hx fun itv s11 h11 => ?_
        obtain ⟨it1, fp1, tn1, J1, H11, e1, I11, T1, st11, f11, W1, ⟨m1, w1⟩, turn1⟩ := h11
        subst e1
        -- the inner loop
        have stat1 : ∀ {H' : Hp}, (∀ b ∈ fp1, H' b = none) → ∀ b ∈ fp1, FpOk (X.blk s3 H3 scope ce fp) ([] ++ pinsAt fp s7.heap) H' b := fun hn b hb => ⟨hn b hb, (f11 b hb).2⟩
        have loop1 : codeAny (model X.prog X.w) X.A (.compLoop (.DictComp kx vx [⟨tg, iter, ifs, 0⟩, ⟨tg1, iter1, ifs1, 0⟩] scope pos) 1 (.ref it1) (.ref D) ce)
            (fun r s' => match r with
              | .ok _ => ∃ m, m < n ∧ ∃ i H', Inv (X.blk s3 H3 scope ce fp) [] (wipe σ (own.map (·.2))) H' s' ∧ tn i s'.heap ∧ (∀ b ∈ fp, H' b = none) ∧ W i m H'
              | .error _ => False) s11 := by
          refine compLoop2D_in (fun k s' => ∃ j H', Inv (X.blk s3 H3 scope ce fp) ([] ++ pinsAt fp s7.heap) (wipe σ8 vs1) H' s' ∧ tn1 j s'.heap ∧ (∀ b ∈ fp1, H' b = none) ∧ W1 j k H') ?_ m1 ⟨0, H11, I11.weak (wipe_length _ _) (fun j v e => (wipe_some e).1), st11, fun b hb => (f11 b hb).1, w1⟩
          rintro k s12 ⟨j, H12, I12, st12, n12, w12⟩
          rcases turn1 j k H12 w12 with ⟨stop1, nx1⟩ | ⟨go1, Nx1, hNx1, step1⟩
          · refine thnF (T1.done (X.blk s3 H3 scope ce fp) rfl rfl rfl hc j _ s12 (wipe σ8 vs1) H12 (fun _ _ => False) I12 (stat1 n12) st12 stop1) fun r s13 ⟨hr, I13⟩ => ?_
            subst hr
            exact fin I13 (hl8.trans (wipe_length σ8 vs1).symm) hk9 nx1
          · refine thnF (T1.item (X.blk s3 H3 scope ce fp) rfl rfl rfl hc j _ s12 (wipe σ8 vs1) H12 (fun _ _ => False) I12 (stat1 n12) st12 go1) fun r s13 ⟨u1, hr, h13⟩ => ?_
            subst hr
            refine thnF h13 fun _ s14 ⟨x1, H14, I14, r14, y14, st14, n14⟩ => ?_
            have I14' := I14.pinned (stat1 n14) (T1.obj _ _ st14)
            refine thnF (pg1.run _ s14 (wipe σ8 vs1) H14 x1 u1 _ I14' r14 (step1 x1 H14 y14)) fun _ s15 ⟨σ15, H15, I15, hw15, q15⟩ => ?_
            refine thnF (pt1.run _ s15 σ15 H15 _ I15 q15) fun b1 s16 ⟨H16, I16, q16⟩ => ?_
            have fin1 : ∀ {s' : Shared} {H' : Hp}, Inv (X.blk s3 H3 scope ce fp) (([] ++ pinsAt fp s7.heap) ++ pinsAt fp1 s14.heap) σ15 H' s' → Nx1 H' → ∃ m, m < k ∧ ∃ j H', Inv (X.blk s3 H3 scope ce fp) ([] ++ pinsAt fp s7.heap) (wipe σ8 vs1) H' s' ∧ tn1 j s'.heap ∧ (∀ b ∈ fp1, H' b = none) ∧ W1 j m H' := fun {s' H'} I' nx => by
              obtain ⟨m', hm, w'⟩ := hNx1 H' nx
              have pin' : ∀ b ∈ fp1, ∀ o, s14.heap.get? b = some o → s'.heap.get? b = some o ∧ H' b = none := fun b hb o e =>
                let z := I'.pin (b, o) (List.mem_append_right _ (List.mem_append_right _ (mem_pinsAt hb e)))
                ⟨z.1, z.2.1⟩
              refine ⟨m', hm, j + 1, H', I'.unpinned.weak (by rw [← hw15, wipe_length]) (fun j v e => by rw [← hw15] at e; exact (wipe_some e).1), T1.keep _ _ _ st14 fun b hb o e => (pin' b hb o e).1, fun b hb => ?_, w'⟩
              obtain ⟨o, e, _⟩ := T1.obj _ _ st14 b hb
              exact (pin' b hb o e).2
            cases b1 with
            | false =>
              simp only [Bool.false_eq_true, if_false] at q16 ⊢
              exact fin1 I16 q16
            | true =>
              simp only [if_true] at q16 ⊢
              refine thnF (pk.run _ s16 σ15 H16 _ I16 q16) fun z s17 ⟨yk, H17, I17, r17, q17⟩ => ?_
              refine thnF (pe.run _ s17 σ15 H17 _ I17 q17) fun z2 s18 ⟨yv, H18, I18, r18, kvs, k, kb, ek, hk18, hD18, hz18, nx⟩ => ?_
              subst ek
              exact d_dictSetT (X := X.blk s3 H3 scope ce fp) (show X.A.units < cLine from hu) I18 hk18 hD18 hz18 r17 r18 fun s19 I19 => fin1 I19 nx
        exact compStart1D_ok loop1 (T1.self X.A 0 _ _ _ st11 loop1)
  exact codeAny_compStart_dict loop (T.self X.A 0 _ _ _ st4 loop)
/-- as a value -/
theorem pe_dc2T {kx vx tg iter tg1 iter1 : Expr} {ifs ifs1 : List Expr} {scope : Scope} {own : List (Str × Nat)} {vs1 : List Nat} {pos : Pos} {wi wi1 : TI} {g g1 : TG} {tt tt1 : TT} {tk te : TE} (hc : X.calm = true) (hu : X.A.units < cLine) (hN : X.N.Nodup) (hi : PI X tg iter wi) (ok : BlkOk X.N X.env.scope scope own) (hv : ∀ i ∈ vs1, i ∈ own.map (·.2))
    (hg : ∀ (s : Shared) (H : Hp) (C : Addr) (cl : List (Str × Addr)) (fp : List Addr), PG (X.blk s H scope (compEnvC scope cl C X.env) fp) tg g) (ht : ∀ (s : Shared) (H : Hp) (C : Addr) (cl : List (Str × Addr)) (fp : List Addr), PTs (X.blk s H scope (compEnvC scope cl C X.env) fp) ifs tt)
    (hi1 : ∀ (s : Shared) (H : Hp) (C : Addr) (cl : List (Str × Addr)) (fp : List Addr), PI (X.blk s H scope (compEnvC scope cl C X.env) fp) tg1 iter1 wi1)
    (hg1 : ∀ (s : Shared) (H : Hp) (C : Addr) (cl : List (Str × Addr)) (fp : List Addr), PG (X.blk s H scope (compEnvC scope cl C X.env) fp) tg1 g1) (ht1 : ∀ (s : Shared) (H : Hp) (C : Addr) (cl : List (Str × Addr)) (fp : List Addr), PTs (X.blk s H scope (compEnvC scope cl C X.env) fp) ifs1 tt1)
    (hk : ∀ (s : Shared) (H : Hp) (C : Addr) (cl : List (Str × Addr)) (fp : List Addr), PE (X.blk s H scope (compEnvC scope cl C X.env) fp) kx tk)
    (he : ∀ (s : Shared) (H : Hp) (C : Addr) (cl : List (Str × Addr)) (fp : List Addr), PE (X.blk s H scope (compEnvC scope cl C X.env) fp) vx te) (hs : ∀ x, foldedSetIterable iter X.env x = pure x := by intro _; rfl) (hs1 : ∀ env x, foldedSetIterable iter1 env x = pure x := by intro _ _; rfl) :
    PE X (.DictComp kx vx [⟨tg, iter, ifs, 0⟩, ⟨tg1, iter1, ifs1, 0⟩] scope pos) (tDc2T wi g tt wi1 g1 tt1 tk te (own.map (·.2)) vs1) := by
  refine ⟨fun pins s σ H Q I h => ?_⟩
  rw [arm_eval_DictComp]
  refine dc2T_core hc hu hN I hi ok hv hg ht hk he hs hi1 hg1 ht1 hs1 h fun D C s' m H' I' q hn f => ⟨m, hn, fun h'' sb => ?_⟩
  obtain ⟨f0, f1, f2, f3, f4, f5⟩ := f
  exact ⟨.ref D, H', I'.turned (t' := s'.toks) (fun b o hb e => (sb.2 b hb).trans e) f0 f1 f3 f4 f5, rfl, q⟩
/-- {k: v for target in iter if ..}, keys tuples: D the new dict -/
def tDc1T (wi : TI) (g : TG) (tt : TT) (tk te : TE) (vs : List Nat) : TE := fun σ H Q => wi σ H fun J H1 => ∀ D, H1 D = none → ∃ W : Nat → Nat → Hp → Prop, (∃ m, W 0 m (upd H1 D (.dT []))) ∧ ∀ i m H, W i m H →
  (J.stop i H ∧ Q (.ref D) H) ∨ (J.go i H ∧ ∃ Nx : Hp → Prop, (∀ H', Nx H' → ∃ m', m' < m ∧ W (i + 1) m' H') ∧ ∀ x H', J.yld i H x H' → g x (wipe σ vs) H' fun σ2 H2 => wipe σ2 vs = wipe σ vs ∧ tt σ2 H2 fun b H3 =>
    if b = true then tk σ2 H3 fun y H4 => te σ2 H4 fun z H5 => ∃ kvs k b, y = .ref b ∧ H5 b = some (.tup (k.map kV)) ∧ H5 D = some (.dT kvs) ∧ kvs.length < sizeLine ∧ Nx (upd H5 D (.dT (putK kvs k z))) else Nx H3)
theorem dc1T_core {pins : List (Addr × Obj)} {s : Shared} {σ : L2.St} {H : Hp} {Q : VK} {kx vx tg iter : Expr} {ifs : List Expr} {scope : Scope} {own : List (Str × Nat)} {pos pos' : Pos} {wi : TI} {g : TG} {tt : TT} {tk te : TE} {use : Option (Value → Sem Unit)} {Qf : Value → Shared → Prop}
    (hc : X.calm = true) (hu : X.A.units < cLine) (hN : X.N.Nodup) (I : Inv X pins σ H s) (hi : PI X tg iter wi) (ok : BlkOk X.N X.env.scope scope own)
    (hg : ∀ (s : Shared) (H : Hp) (C : Addr) (cl : List (Str × Addr)) (fp : List Addr), PG (X.blk s H scope (compEnvC scope cl C X.env) fp) tg g) (ht : ∀ (s : Shared) (H : Hp) (C : Addr) (cl : List (Str × Addr)) (fp : List Addr), PTs (X.blk s H scope (compEnvC scope cl C X.env) fp) ifs tt)
    (hk : ∀ (s : Shared) (H : Hp) (C : Addr) (cl : List (Str × Addr)) (fp : List Addr), PE (X.blk s H scope (compEnvC scope cl C X.env) fp) kx tk)
    (he : ∀ (s : Shared) (H : Hp) (C : Addr) (cl : List (Str × Addr)) (fp : List Addr), PE (X.blk s H scope (compEnvC scope cl C X.env) fp) vx te) (hs : ∀ x, foldedSetIterable iter X.env x = pure x)
    (h : tDc1T wi g tt tk te (own.map (·.2)) σ H Q)
    (hRR : ∀ D C s' m H', Inv X pins σ H' s' → Q (.ref D) H' → s'.heap.Ns C m → FpOk X pins H' C → compPost (model X.prog X.w) X.A X.xe use Qf (.ref D) C (.ok .next) s') :
    wpAny (model X.prog X.w) X.A (comprehension (.DictComp kx vx [⟨tg, iter, ifs, 0⟩] scope pos) scope X.env pos' (newDict) false (eval iter X.env) use) Qf X.xe s := by
  have hfree : ∀ y ∈ scope.names, y.2 = .free → ∃ c, X.env.cells.lookup y.1 = some c := fun y hy e => by
    rcases ok.free y hy e with k | k
    · exact I.ok.has _ (.inl k)
    · exact I.ok.has _ (.inr k)
  refine wpAny_comprehension_free (use := use) rfl hs (closure_ok hfree) ok.kind (fun y hy e => by rw [ok.uniq y hy, e])
    (thn (hi.run pins s σ H _ I h) fun xv s1 hx => thn hx fun itv s2 h2 => ?_)
  obtain ⟨it, fp, tn, J, H2, e, I2, T, st2, f2, q⟩ := h2
  subst e
  refine wpAny_newObj_type (newEnv_comp ?_)
  generalize hD : s2.heap.objs.size = D
  have hDn : H2 D = none := I2.hok.fresh (Nat.le_of_eq hD)
  obtain ⟨W, ⟨m0, w0⟩, turn⟩ := q D hDn
  -- the new list
  generalize hs3 : ({ s2 with heap := s2.heap.push { cls := .type "dict", data := .dict #[] } } : Shared) = s3
  have I3 : Inv X pins σ (upd H2 D (.dT [])) s3 := by
    rw [← hs3]
    refine I2.laid (t' := s2.toks) (fun b o e => Heap.get?_push_of_some _ e) (Nat.le_of_eq hD) ?_
    rw [← hD]
    exact dt_empty s2.heap I2.big
  have h3 : s3.heap = s2.heap.push { cls := .type "dict", data := .dict #[] } := by rw [← hs3]
  have sz : ∀ b ∈ fp, b < s2.heap.objs.size := fun b hb => by
    obtain ⟨o, e, _⟩ := T.obj _ _ st2 b hb
    exact Heap.lt_size e
  have f3 : ∀ b ∈ fp, FpOk X pins (upd H2 D (.dT [])) b ∧ b < s3.heap.objs.size := fun b hb => by
    have hlt := sz b hb
    refine ⟨⟨?_, (f2 b hb).2⟩, by rw [h3, Heap.size_push]; exact Nat.lt_succ_of_lt hlt⟩
    rw [upd_ne (by rw [← hD]; exact Nat.ne_of_lt hlt)]
    exact (f2 b hb).1
  have st3 : tn 0 s3.heap := T.keep _ _ _ st2 fun b _ o e => by rw [h3]; exact Heap.get?_push_of_some _ e
  have I4 := block_start I3 ok hN f3
  have pg := hg s3 (upd H2 D (.dT [])) s3.heap.objs.size (cellsFrom (s3.heap.objs.size + 1) scope.names (cloFrom X.env.cells scope.names [])) fp
  have pt := ht s3 (upd H2 D (.dT [])) s3.heap.objs.size (cellsFrom (s3.heap.objs.size + 1) scope.names (cloFrom X.env.cells scope.names [])) fp
  have pk := hk s3 (upd H2 D (.dT [])) s3.heap.objs.size (cellsFrom (s3.heap.objs.size + 1) scope.names (cloFrom X.env.cells scope.names [])) fp
  have pe := he s3 (upd H2 D (.dT [])) s3.heap.objs.size (cellsFrom (s3.heap.objs.size + 1) scope.names (cloFrom X.env.cells scope.names [])) fp
  show codeAny _ _ (.compStart (.DictComp kx vx [⟨tg, iter, ifs, 0⟩] scope pos) 0 (.ref it) (.ref D) (compEnvC scope (cellsFrom (s3.heap.objs.size + 1) scope.names (cloFrom X.env.cells scope.names [])) s3.heap.objs.size X.env)) (compPost (model X.prog X.w) X.A X.xe use Qf (.ref D) s3.heap.objs.size) { s3 with heap := pushCells (s3.heap.push { cls := .type "dict", data := .dict #[] }) scope.names }
  have nfp : ∀ b ∈ fp, (upd H2 D (.dT [])) b = none := fun b hb => (f3 b hb).1.1
  generalize hce : compEnvC scope (cellsFrom (s3.heap.objs.size + 1) scope.names (cloFrom X.env.cells scope.names [])) s3.heap.objs.size X.env = ce at I4 pg pt pk pe ⊢
  have cL : ce.locals = s3.heap.objs.size := by subst hce; rfl
  generalize hH3 : upd H2 D (.dT []) = H3 at I3 I4 pg pt pk pe w0 nfp f3
  generalize hs4 : ({ s3 with heap := pushCells (s3.heap.push { cls := .type "dict", data := .dict #[] }) scope.names } : Shared) = s4 at I4 ⊢
  have st4 : tn 0 s4.heap := T.keep _ _ _ st3 fun b _ o e => by rw [← hs4]; exact pushCells_keeps _ _ _ _ (Heap.get?_push_of_some _ e)
  have stat : ∀ {σ' : L2.St} {H' : Hp} {s' : Shared}, Inv (X.blk s3 H3 scope ce fp) [] σ' H' s' → (∀ b ∈ fp, H' b = none) → ∀ b ∈ fp, FpOk (X.blk s3 H3 scope ce fp) [] H' b := fun {σ' H' s'} I' hn b hb =>
    ⟨hn b hb, (I'.ok.exf b hb).1, I'.ok.exfs b hb, .inl hb, fun x c e => (I'.ok.exf b hb).2 x c e, fun p hp => absurd (show p ∈ ([] : List (Addr × Obj)) ++ [] from hp) (by simp)⟩
  have loop : codeAny (model X.prog X.w) X.A (.compLoop (.DictComp kx vx [⟨tg, iter, ifs, 0⟩] scope pos) 0 (.ref it) (.ref D) ce) (compPost (model X.prog X.w) X.A X.xe use Qf (.ref D) s3.heap.objs.size) s4 := by
    refine compLoop_anyD (fun n s' => ∃ i H', Inv (X.blk s3 H3 scope ce fp) [] (wipe σ (own.map (·.2))) H' s' ∧ tn i s'.heap ∧ (∀ b ∈ fp, H' b = none) ∧ W i n H') ?_ m0 ⟨0, H3, I4, st4, nfp, w0⟩
    rintro n s5 ⟨i, H5, I5, st5, n5, w5⟩
    rcases turn i n H5 w5 with ⟨stop, qq⟩ | ⟨go, Nx, hNx, step⟩
    · have td := T.done (X.blk s3 H3 scope ce fp) rfl rfl rfl hc i [] s5 _ H5 (fun _ _ => False) I5 (stat I5 n5) st5 stop
      refine thnF td fun r s6 ⟨hr, I6⟩ => ?_
      subst hr
      -- back in the def's context
      have I7 : Inv X pins σ H5 s6 := I3.call' (ch := fp) I6.os I6.base I6.hok I6.bare fun b hb => ⟨(f3 b hb).1.2.2.2.1, (f3 b hb).1.2.1, (f3 b hb).1.2.2.2.2.1, (f3 b hb).1.2.2.2.2.2⟩
      have nC : H5 s3.heap.objs.size = none := by
        have z : H5 ce.locals = none := I6.free
        rw [cL] at z
        exact z
      obtain ⟨m, hn, _⟩ := I6.loc
      have hn : s6.heap.Ns ce.locals m := hn
      rw [cL] at hn
      exact hRR D s3.heap.objs.size s6 m H5 I7 qq hn (I3.fpOk (Nat.le_refl _) nC)
    · have ti := T.item (X.blk s3 H3 scope ce fp) rfl rfl rfl hc i [] s5 _ H5 (fun _ _ => False) I5 (stat I5 n5) st5 go
      refine thnF ti fun r s6 ⟨u, hr, h6⟩ => ?_
      subst hr
      refine thnF h6 fun _ s7 ⟨x, H7, I7, r7, y7, st7, n7⟩ => ?_
      have I7' := I7.pinned (stat I7 n7) (T.obj _ _ st7)
      refine thnF (pg.run _ s7 _ H7 x u _ I7' r7 (step x H7 y7)) fun _ s8 ⟨σ8, H8, I8, hw8, q8⟩ => ?_
      refine thnF (pt.run _ s8 σ8 H8 _ I8 q8) fun b s9 ⟨H9, I9, q9⟩ => ?_
      -- the turn's end, from any slots that know what the block knew at its start
      have fin : ∀ {σ9 : L2.St} {s' : Shared} {H' : Hp}, Inv (X.blk s3 H3 scope ce fp) ([] ++ pinsAt fp s7.heap) σ9 H' s' → (wipe σ (own.map (·.2))).length = σ9.length → (∀ (j : Nat) v, (wipe σ (own.map (·.2)))[j]? = some (some v) → σ9[j]? = some (some v)) → Nx H' →
          ∃ m, m < n ∧ ∃ i H', Inv (X.blk s3 H3 scope ce fp) [] (wipe σ (own.map (·.2))) H' s' ∧ tn i s'.heap ∧ (∀ b ∈ fp, H' b = none) ∧ W i m H' := fun {σ9 s' H'} I' hl hk nx => by
        obtain ⟨m', hm, w'⟩ := hNx H' nx
        have pin' : ∀ b ∈ fp, ∀ o, s7.heap.get? b = some o → s'.heap.get? b = some o ∧ H' b = none := fun b hb o e =>
          let z := I'.pin (b, o) (List.mem_append_right _ (List.mem_append_right _ (mem_pinsAt hb e)))
          ⟨z.1, z.2.1⟩
        refine ⟨m', hm, i + 1, H', (I'.unpinned (pins := [])).weak hl hk, T.keep _ _ _ st7 fun b hb o e => (pin' b hb o e).1, fun b hb => ?_, w'⟩
        obtain ⟨o, e, _⟩ := T.obj _ _ st7 b hb
        exact (pin' b hb o e).2
      have hl8 : (wipe σ (own.map (·.2))).length = σ8.length := by rw [← hw8, wipe_length]
      have hk8 : ∀ (j : Nat) v, (wipe σ (own.map (·.2)))[j]? = some (some v) → σ8[j]? = some (some v) := fun j v e => by
        rw [← hw8] at e
        exact (wipe_some e).1
      cases b with
      | false =>
        simp only [Bool.false_eq_true, if_false] at q9 ⊢
        exact fin I9 hl8 hk8 q9
      | true =>
        simp only [if_true] at q9 ⊢
        refine thnF (pk.run _ s9 σ8 H9 _ I9 q9) fun z s10 ⟨yk, H10, I10, r10, q10⟩ => ?_
        refine thnF (pe.run _ s10 σ8 H10 _ I10 q10) fun z2 s11 ⟨yv, H11, I11, r11, kvs, k, kb, ek, hk11, hD11, hz11, nx⟩ => ?_
        subst ek
        exact d_dictSetT (X := X.blk s3 H3 scope ce fp) (show X.A.units < cLine from hu) I11 hk11 hD11 hz11 r10 r11 fun s12 I12 => fin I12 hl8 hk8 nx
  exact codeAny_compStart_dict loop (T.self X.A 0 _ _ _ st4 loop)
/-- as a value -/
theorem pe_dc1T {kx vx tg iter : Expr} {ifs : List Expr} {scope : Scope} {own : List (Str × Nat)} {pos : Pos} {wi : TI} {g : TG} {tt : TT} {tk te : TE} (hc : X.calm = true) (hu : X.A.units < cLine) (hN : X.N.Nodup) (hi : PI X tg iter wi) (ok : BlkOk X.N X.env.scope scope own)
    (hg : ∀ (s : Shared) (H : Hp) (C : Addr) (cl : List (Str × Addr)) (fp : List Addr), PG (X.blk s H scope (compEnvC scope cl C X.env) fp) tg g) (ht : ∀ (s : Shared) (H : Hp) (C : Addr) (cl : List (Str × Addr)) (fp : List Addr), PTs (X.blk s H scope (compEnvC scope cl C X.env) fp) ifs tt)
    (hk : ∀ (s : Shared) (H : Hp) (C : Addr) (cl : List (Str × Addr)) (fp : List Addr), PE (X.blk s H scope (compEnvC scope cl C X.env) fp) kx tk)
    (he : ∀ (s : Shared) (H : Hp) (C : Addr) (cl : List (Str × Addr)) (fp : List Addr), PE (X.blk s H scope (compEnvC scope cl C X.env) fp) vx te) (hs : ∀ x, foldedSetIterable iter X.env x = pure x := by intro _; rfl) :
    PE X (.DictComp kx vx [⟨tg, iter, ifs, 0⟩] scope pos) (tDc1T wi g tt tk te (own.map (·.2))) := by
  refine ⟨fun pins s σ H Q I h => ?_⟩
  rw [arm_eval_DictComp]
  refine dc1T_core hc hu hN I hi ok hg ht hk he hs h fun D C s' m H' I' q hn f => ⟨m, hn, fun h'' sb => ?_⟩
  obtain ⟨f0, f1, f2, f3, f4, f5⟩ := f
  exact ⟨.ref D, H', I'.turned (t' := s'.toks) (fun b o hb e => (sb.2 b hb).trans e) f0 f1 f3 f4 f5, rfl, q⟩
end
/-! ### sorted of a list of tuples of ints, none empty -/
def leI (x y : List Int) : Bool := PySem.W.dataLe false intsD x y
abbrev srtI (cs : List (List Int)) : List (List Int) := cs.mergeSort leI
def rSortedD (K : PySem.W.Frag) : List V → Hp → VK → Prop := fun vs H Q => ∃ (a : Addr) (xs : List V) (cs : List (List Int)), vs = [V.ref a] ∧ SqL K H a xs ∧ Paired (IntsV H) xs cs ∧ (∀ c ∈ cs, c ≠ []) ∧ ∀ p ys, H p = none → Paired (IntsV H) ys (srtI cs) → Q (.ref p) (upd H p (.lst ys))
theorem alike_intsD (x y : List Int) : PySem.W.alike (intsD x) (intsD y) = true := by
  show PySem.W.alike (.tuple (x.map PyData.int)) (.tuple (y.map PyData.int)) = true
  rw [PySem.W.alike]
  exact PySem.W.alike_ints x y
section
variable {X : Cx}
def refI (H : Hp) (u : Value) (c : List Int) : Prop := ∃ a, u = Value.ref a ∧ H a = some (.tup (c.map V.int))
theorem refI_back {H : Hp} : ∀ {us : List Value} {cs : List (List Int)}, PySem.W.EachIs (refI H) us cs → ∃ ys, Vals ys us ∧ Paired (IntsV H) ys cs
  | _, _, .nil => ⟨[], .nil, .nil⟩
  | _, _, .cons h t => by
    obtain ⟨a, rfl, e⟩ := h
    obtain ⟨ys, h1, h2⟩ := refI_back t
    exact ⟨.ref a :: ys, .cons rfl h1, .cons ⟨a, rfl, e⟩ h2⟩
theorem refI_to {H : Hp} : ∀ {xs : List V} {cs : List (List Int)} {us : List Value}, Paired (IntsV H) xs cs → Vals xs us → PySem.W.EachIs (refI H) us cs
  | _, _, _, .nil, .nil => .nil
  | _, _, _, .cons h t, .cons r rs => by
    obtain ⟨a, rfl, e⟩ := h
    exact .cons ⟨a, r, e⟩ (refI_to t rs)
theorem dp_intss {K : PySem.W.Frag} {H : Hp} : ∀ {xs : List V} {cs : List (List Int)}, Paired (IntsV H) xs cs → DpAll K H xs (cs.map intsD)
  | _, _, .nil => .nil
  | _, _, .cons h t => .cons (IntsV.dp h) (dp_intss t)
theorem cr_sortedD (hu : X.A.units + 65 < cLine) : CallR X (.builtin "sorted") (rSortedD X.K) := by
  intro pins s σ H vs us Q I r h
  obtain ⟨a, xs, cs, rfl, hs, hp, hne, q⟩ := h
  obtain ⟨its, rv, hl, hz⟩ := I.list hs
  rw [Vals.ref1 r]
  have lc : xs.length = cs.length := Paired.length hp
  obtain ⟨as, rd⟩ := Dp.readsAll I _ _ _ (dp_intss (K := X.K) hp) rv
  refine PySem.W.sorted_data (enc := intsD) hl.isList (refI_to hp rv) (PySem.W.readsAll_each intsD rd) (PySem.W.AllAlike.of alike_intsD) (.inl fun d hd => ?_) (by omega) (fun b _ => by rw [deep_intsD]; omega) fun out lo eo => ?_
  · obtain ⟨c, hc, rfl⟩ := List.mem_map.mp hd
    cases c with
    | nil => exact absurd rfl (hne _ hc)
    | cons x c => exact ⟨_, _, rfl⟩
  · obtain ⟨ys, h1, h2⟩ := refI_back eo
    obtain ⟨n, hn⟩ := sortedAll_at s.heap its out.toArray
    refine ⟨.ref (s.heap.objs.size + 1), upd H (s.heap.objs.size + 1) (.lst ys), I.laid (t' := s.toks) (fun b o e => sortedAll_old e) (Nat.le_succ _) ⟨?_, out, n, h1, hn⟩, rfl, q _ _ (I.hok.fresh (Nat.le_succ _)) h2⟩
    rw [Paired.length h1, lo, ← lc]
    exact hz
end
/-! ### own rules: max of a tuple, t.index, o[i] of a list by values, t * k -/
section
variable {X : Cx}
def rMaxT (K : PySem.W.Frag) : List V → Hp → VK → Prop := fun vs H Q => ∃ (a : Addr) (ns : List Int), vs = [V.ref a] ∧ SqT K H a (ns.map V.int) ∧ 0 < ns.length ∧ ∀ m, m ∈ ns → (∀ y, y ∈ ns → y ≤ m) → Q (.int m) H
theorem foldl_max : ∀ (ns : List Int) (n : Int), ns.foldl max n ∈ n :: ns ∧ ∀ y ∈ n :: ns, y ≤ ns.foldl max n
  | [], n => ⟨by simp, fun y hy => by simp at hy; rw [hy]; exact Int.le_refl _⟩
  | x :: xs, n => by
    obtain ⟨h1, h2⟩ := foldl_max xs (max n x)
    rw [List.foldl_cons]
    refine ⟨?_, fun y hy => ?_⟩
    · rcases List.mem_cons.mp h1 with e | e
      · rw [e]
        by_cases h : n ≤ x
        · rw [Int.max_eq_right h]; simp
        · rw [Int.max_eq_left (by omega)]; simp
      · exact List.mem_cons_of_mem _ (List.mem_cons_of_mem _ e)
    · have h3 := h2 (max n x) (by simp)
      rcases List.mem_cons.mp hy with e | e
      · subst e
        omega
      · rcases List.mem_cons.mp e with e | e
        · subst e
          omega
        · exact h2 y (List.mem_cons_of_mem _ e)
theorem dp_intsX {K : PySem.W.Frag} {H : Hp} : ∀ (xs : List Int), DpAll K H (xs.map V.int) (xs.map PyData.int)
  | [] => .nil
  | x :: xs => .cons (.int x) (dp_intsX xs)
theorem depth_intsX : ∀ xs : List Int, PyData.depthAll (xs.map PyData.int) = 0
  | [] => by simp [PyData.depthAll]
  | x :: xs => by simp [PyData.depthAll, PyData.depth, depth_intsX xs]
theorem cr_maxT (hc : X.calm = true) (hu : X.A.units + 65 < cLine) : CallR X (.builtin "max") (rMaxT X.K) := by
  intro pins s σ H vs us Q I r h
  obtain ⟨a, ns, rfl, hs, hne, q⟩ := h
  obtain ⟨its, rv, hl, _⟩ := I.tuple hs
  rw [Vals.ref1 r]
  obtain ⟨as, rs⟩ := Dp.readsAll I _ _ _ (dp_intsX ns) rv
  cases ns with
  | nil => exact absurd hne (by simp)
  | cons n ns =>
    have al : PySem.W.AlikeAll ((n :: ns).map PyData.int) := by
      refine ⟨fun x hx y hy => ?_, fun x hx => ?_⟩
      · obtain ⟨i, _, rfl⟩ := List.mem_map.mp hx
        obtain ⟨j, _, rfl⟩ := List.mem_map.mp hy
        rfl
      · obtain ⟨i, _, rfl⟩ := List.mem_map.mp hx
        intro z
        cases z
    refine PySem.W.max_tuple_data (x := .int n) (xs := ns.map PyData.int) (as := as) (I.ok.hd hc) hl (by simpa using rs) (by simpa using al) (by have := depth_intsX (n :: ns); rw [List.map_cons] at this; rw [this]; omega) fun i v h' tk bs _ rd hk => ?_
    rw [PySem.W.maxD_ints] at rd
    cases rd with
    | int _ t =>
      have f := foldl_max ns n
      exact ⟨.int _, H, I.kept hk, ⟨_, rfl⟩, q _ f.1 f.2⟩
def rGetL (K : PySem.W.Frag) : V → V → Hp → VK → Prop := fun x y H Q => ∃ p xs i v, x = .ref p ∧ y = .int i ∧ SqL K H p xs ∧ 0 ≤ i ∧ atI xs i = some v ∧ Q v H
theorem get_list : PGet X (rGetL X.K) := by
  intro pins s σ H x y v u Q I rx ry h
  obtain ⟨p, xs, i, z, rfl, rfl, hq, h0, he, q⟩ := h
  cases rx
  obtain ⟨t, rfl⟩ := ry
  obtain ⟨its, r, pl, hz⟩ := I.list hq
  obtain ⟨j, h1, h2, h3, h4, h5⟩ := atI_get he
  obtain ⟨w, ew, rw'⟩ := r.get h2
  have hl := r.length
  have hn := line63
  have hj : i.toNat = j := by
    rw [seqIndex_of h0 h5] at h1
    exact Option.some.inj h1
  exact wpAny_getItem_list pl.isList h0 (by omega) (by rw [hj]; simpa using ew) ⟨z, H, I, rw', q⟩
theorem tuple_mul1 (l : Addr) (items : Array Value) (n : Nat) (dd : Option Addr) (sl : Array (Option Value)) (u : Tok) :
    Meets (Builtin.«tuple.__mul__» ⟨[.ref l, .int 1 u], []⟩) (fun _ R s => s.heap.get? l = some { cls := .type "tuple", dict := dd, data := .seq items n, slots := sl } ∧ R (.ok (.ret (Value.ref l))) s) :=
  .of_wp fun prog w A R s h => by
    obtain ⟨hp, g, d, tk, os⟩ := s
    obtain ⟨hl, h⟩ := h
    have f1 := AutoSeq1.idx_int
    have c1 : (items.isEmpty || (1 : Int) == 1) = true := by cases items.isEmpty <;> rfl
    wp_walk using wpAny_loadPart' hl
    repeat (first
      | (refine wpAny_ite_true (decide_eq_true c1) ?_; wp_walk using wpAny_loadPart' hl))
    exact ⟨_, rfl, h⟩
def rRepU : R2 := fun x y H Q => ∃ l k xs, x = .ref l ∧ y = .int k ∧ H l = some (.tup xs) ∧ xs ≠ [] ∧ 1 ≤ k ∧ k ≤ 1000 ∧ xs.length ≤ 1000 ∧ ∀ r H', Same H H' → H' r = some (.tup (List.replicate k.toNat xs).flatten) → Q (.ref r) H'
theorem op_repU : OpR X (binaryOp .Mult) rRepU := by
  intro pins s σ H x y v u Q I rx ry h
  obtain ⟨l, k, xs, rfl, rfl, hT, hne, h1, h2, hz, q⟩ := h
  by_cases hk : k = 1
  · subst hk
    cases rx
    obtain ⟨t, rfl⟩ := ry
    obtain ⟨its, r, ⟨⟨cls, dd, data, sl⟩, ho, hc, n, hd⟩, hs⟩ := I.tuple (SqT.of (K := X.K) hT)
    simp only at hc hd
    subst hc hd
    refine wpAny_binaryOp_repeat_ref (T := "tuple") (U := "int") (by decide) ⟨_, ho, rfl⟩ (fun s' => typeIs_int s' 1 t) noFill_tuple_mul F.fills_int_mul F.slot_int_rmul repeat_tuple F.slot_int_index.lookup
      (call_meets F.slot_int_rmul (typeIs_int s 1 t) F.entry_int_rmul (F.args_int_rmul_2 _ _) (int_rmul_tuple 1 t l its.toArray n dd sl)
        ⟨ho, rfl, ⟨_, ho, rfl⟩, call_meets F.slot_tuple_mul ⟨_, ho, rfl⟩ F.entry_tuple_mul (F.args_tuple_mul_2 _ _) (tuple_mul1 l its.toArray n dd sl t) ⟨ho, ?_⟩⟩)
    exact ⟨.ref l, H, I, rfl, q l H (Same.refl H) (by simpa using hT)⟩
  · exact op_repT pins s σ H _ _ v u Q I rx ry ⟨l, k, xs, rfl, rfl, SqT.of hT, hne, by omega, h2, hz, fun p np => q p _ (same_new np) upd_same⟩
def rIdxT (K : PySem.W.Frag) : V → List V → Hp → VK → Prop := fun x xs H Q => ∃ (p : Addr) (ns : List Int) (k : Int) (j : Nat), x = .ref p ∧ xs = [.int k] ∧ SqT K H p (ns.map V.int) ∧ ns[j]? = some k ∧ (∀ m, m < j → ns[m]? ≠ some k) ∧ Q (.int (j : Nat)) H
theorem mt_tidx : MtR X "tuple.index" (rIdxT X.K) := by
  intro pins s σ H x xs v us Q I rx rs h
  obtain ⟨p, ns, z, j, rfl, rfl, hq, hy, hno, q⟩ := h
  cases rx
  obtain ⟨u, rfl, t, rfl⟩ := vals1 rs
  obtain ⟨its, r, pl, hz⟩ := I.tuple hq
  obtain ⟨⟨cls, dd, dt, sl⟩, ho, hc, n, hd⟩ := pl
  simp only at hc hd
  subst hc
  subst hd
  have hl : its.toArray.size = ns.length := by rw [List.size_toArray, ← r.length, List.length_map]
  have hj : j < its.toArray.size := by rw [hl]; exact (List.getElem?_eq_some_iff.mp hy).1
  have hi := ints_of_vals r
  have at' : ∀ (m : Nat) (hm : m < its.toArray.size), ∃ y t', ns[m]? = some y ∧ its.toArray[m] = Value.int y t' := fun m hm => by
    have hm' : m < ns.length := by rw [← hl]; exact hm
    obtain ⟨w, hw, t', hw'⟩ := r.get (i := m) (x := .int ns[m]) (by simp [hm'])
    refine ⟨ns[m], t', List.getElem?_eq_getElem hm', ?_⟩
    have e := (List.getElem?_eq_some_iff.mp hw).2
    rw [← hw', ← e]
    simp
  have ek : ∀ (y : Int) (t' : Tok), eqk z (Value.int y t') = decide (y = z) := fun y t' => by
    show (y == z) = _
    by_cases h : y = z
    · rw [decide_eq_true h, h]; simp
    · rw [decide_eq_false h]; simp [h]
  refine call_meets PySem.F.slot_tuple_index ⟨_, ho, rfl⟩ PySem.F.entry_tuple_index (PySem.F.args_tuple_index_2 _ _) (TI.tuple_indexAt p its.toArray n dd sl (.int z t) (eqk z) j hj ?_ ?_)
    ⟨ho, fun y hy => (eqk_gives hi y (by simpa using hy)).at _ _, ⟨.int (j : Nat), H, I.tok _, ⟨_, rfl⟩, q⟩⟩
  · obtain ⟨y, t', h1, h2⟩ := at' j hj
    rw [hy] at h1
    cases h1
    rw [h2, ek]
    exact decide_eq_true rfl
  · intro m hm hmj
    obtain ⟨y, t', h1, h2⟩ := at' m hm
    rw [h2, ek]
    refine decide_eq_false fun e => hno m hmj ?_
    rw [h1, e]
end
/-! ### methods of tuples that have no dict -/
section
variable {X : Cx}
theorem call_tuple_ofZ : CallR X (.type "tuple") (fun xs H Q => ∃ p ys, xs = [.ref p] ∧ SqL X.K H p ys ∧ ∀ l o, o.dict = none → H l = none → Q (.ref l) (upd H l (.frz o (.tup ys)))) := by
  intro pins s σ H xs us Q I r h
  obtain ⟨p, ys, rfl, hq, q⟩ := h
  obtain ⟨u, rfl, rx⟩ := vals1 r
  cases rx
  obtain ⟨its, r', pl, hz⟩ := I.list hq
  have hlen := r'.length
  refine call_tuple_list pl.isList (fun h' kp => ?_) (by simp only [List.size_toArray] <;> omega)
  have I1 : Inv X pins σ H { s with heap := h' } := I.kept (t' := s.toks) kp
  have I2 : Inv X pins σ (upd H h'.objs.size (.frz { cls := .type "tuple", data := .seq its.toArray } (.tup ys))) { s with heap := h'.push { cls := .type "tuple", data := .seq its.toArray } } :=
    I1.laid (t' := s.toks) (fun b o e => Heap.get?_push_of_some _ e) (Nat.le_refl _) (show ObjOk X.prog X.w _ _ _ (.frz { cls := .type "tuple", data := .seq its.toArray } (.tup ys)) from ⟨Heap.get?_push_size _ rfl, hz, its, r', IsTup.new _ _⟩)
  exact ⟨.ref h'.objs.size, _, I2, rfl, q _ _ rfl (I1.hok.fresh (Nat.le_refl _))⟩
def tTupRgZ (te : L2.St → Hp → (Int → Int → Hp → Prop) → Prop) : TE := fun σ H Q => te σ H fun a b H1 => RgOk a b ∧ ∀ q o, o.dict = none → H1 q = none → Q (.ref q) (upd H1 q (.frz o (.tup (rgV a b))))
theorem pe_tupRgZ {e : Expr} {te : L2.St → Hp → (Int → Int → Hp → Prop) → Prop} {p pos : Pos} (hc : X.calm = true) (hg : Gl X "tuple") (hm : X.mg "tuple" = none) (he : PRg X e te) (na : starEach [e] X.env = (false, eval e X.env) :: starEach [] X.env := by rfl) : PE X (.Call (.Name "tuple" p) [e] [] pos) (tTupRgZ te) := by
  refine ⟨fun pins s σ H Q I h => ?_⟩
  refine Call_ (ld_blt I hg hm boot_tuple (PyProof.Rows.callWith_type1 (args_cons (thn (he pins s σ H _ I h) fun x s1 ⟨r, a, b, t, u, v, H1, ex, hr, I1, ok, q⟩ => args_nil ?_) na) na))
  subst ex
  obtain ⟨b1, b2, b3, b4, b5⟩ := ok
  refine call_tuple_range (n := (b - a).toNat) (I1.ok.hd hc) hr (small_one b1 b2 b3 b4) (rangeSize_nat a b) b5 fun h' tk acc hk hi => ?_
  have I2 : Inv X pins σ H1 { s1 with heap := h', toks := tk } := I1.kept hk
  refine ⟨.ref h'.objs.size, upd H1 h'.objs.size (.frz { cls := .type "tuple", data := .seq acc } (.tup (rgV a b))), I2.laid (t' := tk) (fun c o e => Heap.get?_push_of_some _ e) (Nat.le_refl _) (show ObjOk X.prog X.w _ _ _ (.frz { cls := .type "tuple", data := .seq acc } (.tup (rgV a b))) from ⟨Heap.get?_push_size _ rfl, ?_, acc.toList, vals_rg hi, ?_⟩), rfl, q _ _ rfl (I2.hok.fresh (Nat.le_refl _))⟩
  · rw [rgV_length, sizeLine_eq]; omega
  · rw [Array.toArray_toList]; exact IsTup.new _ _
/-- a method of such a tuple -/
def tBMT (r : V → List V → Hp → VK → Prop) (to : TE) (t : TA) : TE := fun σ H Q => to σ H fun x H1 => (∃ p xs, x = .ref p ∧ NoD H1 p xs) ∧ t σ H1 fun xs H2 => r x xs H2 Q
theorem pe_bmT {o e : Expr} {es : List Expr} {to : TE} {t : TA} {name : Str} {apos cpos : Pos} {id : String} {r : V → List V → Hp → VK → Prop} (slot : Slot "tuple" name id) (hty : typeOf (.builtin id) = pure (.type "method_descriptor")) (hm : MtR X id r) (ho : PE X o to) (ha : PA X (e :: es) t)
    (hbase : attributeBase o name X.env (eval o X.env) = eval o X.env := by rfl)
    (hfew : ((backTo cpos (starEach (e :: es) X.env)).all (fun x => !x.1) && (backToKw cpos (keywordEach [] X.env)).all (fun x => x.1.isSome)
      && decide ((e :: es).length + ([] : List Keyword).length + (if ([] : List Keyword).isEmpty then 0 else 1) < 30)) = true := by rfl)
    (hline : (apos.endLine == cpos.line) = true := by rfl) (hs : starEach (e :: es) X.env = (false, eval e X.env) :: starEach es X.env := by rfl) (hplain : (backTo cpos (starEach es X.env)).any (·.1) = false := by rfl) :
    PE X (.Call (.Attribute o name apos) (e :: es) [] cpos) (tBMT r to t) := by
  refine ⟨fun pins s σ H Q I h => ?_⟩
  refine wpAny_Call_method_late hbase hfew hline rfl (thn (ho.run pins s σ H _ I h) fun v s1 ⟨x, H1, I1, r1, ⟨p, xs, ex, ob, od, hp⟩, q1⟩ => ?_)
  subst ex
  obtain rfl : v = Value.ref p := r1
  obtain ⟨e1, hz, its, rv, o2, e2, c2, n2, d2⟩ := (show ObjOk X.prog X.w H1 s1.heap p (.frz ob (.tup xs)) from I1.hok p _ hp)
  rw [e1] at e2
  cases e2
  refine ⟨"tuple", id, PySem.F.plainAttrs_tuple, slot, hty, ⟨ob, e1, c2⟩, fun a ea => ?_, ?_⟩
  · cases ea
    exact ⟨ob, e1, od⟩
  have hA := ha.run cpos pins s1 σ H1 _ I1 q1
  rw [hs] at hA ⊢
  refine Calls.callWith_builtin (by show (false || (backTo cpos (starEach es X.env)).any (·.1)) = false; rw [hplain] <;> rfl) (Calls.evalArgs_plain ?_)
  exact thn hA fun us s2 ⟨vs, H2, I2, r2, q2⟩ => hm pins s2 σ H2 (.ref p) vs (.ref p) us Q I2 rfl r2 q2
def rCntT (K : PySem.W.Frag) : V → List V → Hp → VK → Prop := fun x xs H Q => ∃ (p : Addr) (ns : List Int) (k : Int), x = .ref p ∧ xs = [.int k] ∧ SqT K H p (ns.map V.int) ∧ Q (.int (ns.count k : Nat)) H
theorem mt_tcount : MtR X "tuple.count" (rCntT X.K) := by
  intro pins s σ H x xs v us Q I rx rxs h
  obtain ⟨p, ns, k, rfl, rfl, hs, q⟩ := h
  cases rx
  obtain ⟨u, rfl, ru⟩ := rxs.one
  obtain ⟨t, rfl⟩ := ru
  obtain ⟨its, rv, ⟨⟨cls, dd, data, sl⟩, ho, hc, n, hd⟩, hlen⟩ := I.tuple hs
  simp only at hc hd
  subst hc hd
  have hi := ints_of_vals rv
  refine call_meets PySem.F.slot_tuple_count ⟨_, ho, rfl⟩ PySem.F.entry_tuple_count (PySem.F.args_tuple_count_2 _ _)
    (SeqAt.tuple_countAt p its.toArray n dd sl (.int k t) (eqk k)) ⟨ho, fun y hy => (eqk_gives hi y (by simpa using hy)).at _ _, ?_⟩
  have ec : its.toArray.toList.countP (eqk k) = ns.count k := eqk_count hi
  refine ⟨.int (ns.count k : Nat), H, I.tok _, ⟨s.toks, ?_⟩, q⟩
  show Value.int ((its.toArray.toList.countP (eqk k) : Nat) : Int) s.toks = Value.int ((ns.count k : Nat) : Int) s.toks
  rw [ec]
end
/-! ### t[::-1] of a tuple -/
theorem fm_congr {α β : Type} {f g : α → Option β} : ∀ {l : List α}, (∀ x ∈ l, f x = g x) → l.filterMap f = l.filterMap g
  | [], _ => rfl
  | x :: l, h => by
    rw [List.filterMap_cons, List.filterMap_cons, h x (by simp), fm_congr (l := l) fun y hy => h y (List.mem_cons_of_mem _ hy)]
theorem back_pick (items : Array Value) : ((List.range items.size).filterMap fun (k : Nat) => items[((items.size : Int) - 1 + (k : Int) * (-1)).toNat]?).toArray = items.toList.reverse.toArray := by
  have e : (List.range items.size).filterMap (fun (k : Nat) => items[((items.size : Int) - 1 + (k : Int) * (-1)).toNat]?) = ((List.range items.size).map fun k => items.size - 1 - k).filterMap (items[·]?) := by
    rw [List.filterMap_map]
    refine fm_congr fun k hk => ?_
    have := List.mem_range.mp hk
    show _ = items[items.size - 1 - k]?
    congr 1
    omega
  rw [e, PySem.W.krv_range, List.filterMap_reverse, PySem.W.krv_all]
section
variable {P : Program} {w : World} {A : PySem.Around} {E : Value → Shared → Prop} {s : Shared}
theorem applied_back {sl : Addr} {vk : Value} {n : Nat} {Q : Int × Int × Nat → Shared → Prop} (hs : s.heap.IsSliceOf sl .none .none vk) (pk : IsPart vk (some (-1))) (h : Q ((n : Int) - 1, -1, n) s) : wpAny (model P w) A (Builtin.Slice.sliceApplied (.ref sl) (pure (n : Int))) Q E s := by
  obtain ⟨os, look, _, flds⟩ := id hs
  unfold Builtin.Slice.sliceApplied Builtin.Slice.sliceFields
  refine wpAny_bind (wpAny_bind (wpAny_field look flds (x := .none) rfl (wpAny_bind (wpAny_field look flds (x := .none) rfl (wpAny_bind (wpAny_field look flds (x := vk) rfl (wpAny_pure ?_)))))))
  refine wpAny_bind (HT.slicePart_ pk ?_)
  show wpAny _ _ (if ((-1 : Int) == 0) = true then _ else _) _ _ s
  rw [if_neg (by decide)]
  refine wpAny_bind (HT.slicePart_ .none (wpAny_bind (HT.slicePart_ .none (wpAny_bind (wpAny_pure ?_)))))
  have pl : Builtin.Slice.slicePlaces ((n : Int) - 1) (-1) (-1) = n := by
    unfold Builtin.Slice.slicePlaces
    rw [if_neg (by decide)]
    by_cases z : (n : Int) - 1 > -1
    · rw [if_pos z, show (-(-1) : Int) = 1 from by decide, Int.ediv_one]
      omega
    · rw [if_neg z]
      omega
  show wpAny _ _ (pure ((n : Int) - 1, (-1 : Int), Builtin.Slice.slicePlaces ((n : Int) - 1) (-1) (-1))) _ _ s
  rw [pl]
  exact wpAny_pure h
theorem getItem_back {t sl : Addr} {items : Array Value} {vk : Value} {Q : Value → Shared → Prop} (ht : IsTup s.heap t items) (hs : s.heap.IsSliceOf sl .none .none vk) (pk : IsPart vk (some (-1))) (hsz : items.size ≤ sizeLine)
    (h : Q (.ref s.heap.objs.size) { s with heap := s.heap.push { cls := .type "tuple", data := .seq items.toList.reverse.toArray } }) : wpAny (model P w) A (getItem (.ref t) (.ref sl)) Q E s := by
  have small : sizeOk (.seq items.toList.reverse.toArray) := by
    show items.toList.reverse.toArray.size ≤ sizeLine
    rw [List.size_toArray, List.length_reverse, Array.length_toList]
    exact hsz
  obtain ⟨os, look, kind, _⟩ := id hs
  have isSl : s.TypeIs (.ref sl) "slice" := ⟨os, look, kind⟩
  unfold getItem
  try with_reducible refine wpAny_holding ?_
  first | refine wpAny_bind (wpAny_pure ?_) | skip
  refine wpAny_bind (wpAny_sequenceKey ht.typeIs (by decide) ?_)
  refine wpAny_bind (wpAny_callSpecial?_slot (name := Str.ofString "__getitem__") ht.typeIs PyProof.Rows.slot_tuple_getitem (wpAny_call_entry PyProof.Rows.slot_tuple_getitem ht.typeIs PySem.F.entry_tuple_getitem ?_ (PySem.F.args_tuple_getitem_2 _ _)))
  show wpAny _ _ (Builtin.Tuple.tupleItemsOf (.ref t) >>= _) _ _ s
  refine wpAny_bind (tupleItemsOf_ ht ?_)
  refine wpAny_bind (wpAny_typeOf isSl ?_)
  rw [if_pos (by decide)]
  refine wpAny_bind (applied_back hs pk ?_)
  have no : ¬ (((items.size : Int) - 1 == 0 && (-1 : Int) == 1 && items.size == items.size) = true) := by
    intro z
    rw [Bool.and_eq_true, Bool.and_eq_true] at z
    exact absurd z.1.2 (by decide)
  show wpAny _ _ (if ((items.size : Int) - 1 == 0 && (-1 : Int) == 1 && items.size == items.size) = true then _ else _) _ _ s
  rw [if_neg no, back_pick]
  first
    | exact wpAny_bind (m := Builtin.Tuple.tupleExact _) (wpAny_newObj_type (wpAny_pure ⟨_, rfl, wpAny_pure h⟩) small)
    | exact wpAny_bind (wpAny_bind (m := Builtin.Tuple.tupleExact _) (wpAny_newObj_type (wpAny_pure (wpAny_pure ⟨_, rfl, wpAny_pure h⟩)) small))
    | exact wpAny_bind (m := Builtin.Tuple.tupleExact _) (wpAny_newObj_type (wpAny_bind (wpAny_pure (wpAny_pure ⟨_, rfl, wpAny_pure h⟩))) small)
end
def tRevT (K : PySem.W.Frag) (te : TE) : TE := fun σ H Q => te σ H fun x H1 => ∃ a xs, x = .ref a ∧ SqT K H1 a xs ∧ ∀ p, H1 p = none → Q (.ref p) (upd H1 p (.tup xs.reverse))
theorem pe_revT {X : Cx} {e : Expr} {te : TE} {k : Nat} {p1 p2 p3 pos : Pos} (he : PE X e te) : PE X (.Subscript e (.Slice none none (some (.UnaryOp .USub (.Constant (.int 1) k p1) p2)) p3) pos) (tRevT X.K te) := by
  refine ⟨fun pins s σ H Q I want => Subscript_ (thn (he.run pins s σ H _ I want) fun v s1 got => ?_)⟩
  obtain ⟨x, H1, I1, r1, a, xs, ex, hx, q⟩ := got
  subst ex
  obtain rfl : v = Value.ref a := r1
  have step : PO X (some (.UnaryOp .USub (.Constant (.int 1) k p1) p2)) (tPart (tUn (rU fun i => .int (-i)) (tC (.int 1)))) := po_some (pe_un un_neg pe_int)
  refine wpAny_Slice (thn (po_none.run pins s1 σ H1 (fun o H2 => o = none ∧ H2 = H1) I1 ⟨rfl, rfl⟩) fun vl s2 got2 => ?_)
  obtain ⟨_, _, I2, pl, rfl, rfl⟩ := got2
  refine thn (po_none.run pins s2 σ _ (fun o H3 => o = none ∧ H3 = _) I2 ⟨rfl, rfl⟩) fun vu s3 got3 => ?_
  obtain ⟨_, _, I3, pu, rfl, rfl⟩ := got3
  refine thn (step.run pins s3 σ _ (fun o H4 => o = some (-1) ∧ H4 = _) I3 ⟨1, rfl, -1, rfl, rfl, rfl⟩) fun vk s4 got4 => ?_
  obtain ⟨_, H4, I4, pk, rfl, rfl⟩ := got4
  cases pl
  cases pu
  have I5 : Inv X pins σ H4 { s4 with heap := s4.heap.push { cls := .type "slice", data := .fields #[.none, .none, vk] } } := I4.kept (t' := s4.toks) fun b ob z => Heap.get?_push_of_some _ z
  obtain ⟨its, rel, tup, small⟩ := I5.tuple hx
  have hlen := rel.length
  show wpAny (model X.prog X.w) X.A (subscriptTail e (.Slice none none (some (.UnaryOp .USub (.Constant (.int 1) k p1) p2)) p3) (.ref a) (.ref s4.heap.objs.size)) (EP X pins σ Q) X.xe _
  refine tail_any (ops := [.ref a, .ref s4.heap.objs.size]) tup.typeIs PyProof.Rows.slot_tuple_getitem.lookup ?_ (by with_unfolding_all rfl)
  refine getItem_back tup (Heap.IsSliceOf.new _ .none .none vk) pk (by rw [List.size_toArray]; omega) ?_
  refine ⟨.ref _, _, I5.laid (t' := s4.toks) (o := .tup xs.reverse) (fun b ob z => Heap.get?_push_of_some _ z) (Nat.le_refl _) ?_, rfl, q _ (I5.hok.fresh (Nat.le_refl _))⟩
  exact ⟨by rw [List.length_reverse]; exact small, _, rel.reverse, IsTup.new _ _⟩
/-! ### written tuples have no dict; t[::-1] keeps that -/
def tTupZ (t : TA) : TE := fun σ H Q => t σ H fun xs H1 => xs.length ≤ sizeLine ∧ ∀ p H', Same H1 H' → NoD H' p xs → H1 p = none → Q (.ref p) H'
section
variable {X : Cx}
theorem pe_tupZ {es : List Expr} {t : TA} {pos : Pos} {x1} (h : PA X es t) : PE X (.Tuple es x1 pos) (tTupZ t) := by
  refine ⟨fun pins s σ H Q I hq => ?_⟩
  refine wpAny_Tuple_spliced (thn (h.run pos pins s σ H _ I hq) fun us s1 ⟨xs, H1, I1, r, z, q⟩ => ⟨by rw [← r.length]; exact z, ?_⟩)
  have hf : H1 s1.heap.objs.size = none := I1.hok.fresh (Nat.le_refl _)
  refine ⟨.ref s1.heap.objs.size, upd H1 s1.heap.objs.size (.frz _ (.tup xs)), I1.laid (t' := s1.toks) (o := .frz _ (.tup xs)) (fun b u e => Heap.get?_push_of_some _ e) (Nat.le_refl _) ⟨Heap.get?_push_size _ rfl, z, us, r, ⟨_, Heap.get?_push_size _ rfl, rfl, _, rfl⟩⟩, rfl, q _ _ (same_new hf) ⟨_, ?_, upd_same⟩ hf⟩
  rfl
end
def tRevZ (te : TE) : TE := fun σ H Q => te σ H fun x H1 => ∃ a xs, x = .ref a ∧ NoD H1 a xs ∧ ∀ p H', Same H1 H' → NoD H' p xs.reverse → Q (.ref p) H'
theorem pe_revZ {X : Cx} {e : Expr} {te : TE} {k : Nat} {p1 p2 p3 pos : Pos} (he : PE X e te) : PE X (.Subscript e (.Slice none none (some (.UnaryOp .USub (.Constant (.int 1) k p1) p2)) p3) pos) (tRevZ te) := by
  refine ⟨fun pins s σ H Q I want => Subscript_ (thn (he.run pins s σ H _ I want) fun v s1 got => ?_)⟩
  obtain ⟨x, H1, I1, r1, a, xs, ex, hx, q⟩ := got
  subst ex
  obtain rfl : v = Value.ref a := r1
  have step : PO X (some (.UnaryOp .USub (.Constant (.int 1) k p1) p2)) (tPart (tUn (rU fun i => .int (-i)) (tC (.int 1)))) := po_some (pe_un un_neg pe_int)
  refine wpAny_Slice (thn (po_none.run pins s1 σ H1 (fun o H2 => o = none ∧ H2 = H1) I1 ⟨rfl, rfl⟩) fun vl s2 got2 => ?_)
  obtain ⟨_, _, I2, pl, rfl, rfl⟩ := got2
  refine thn (po_none.run pins s2 σ _ (fun o H3 => o = none ∧ H3 = _) I2 ⟨rfl, rfl⟩) fun vu s3 got3 => ?_
  obtain ⟨_, _, I3, pu, rfl, rfl⟩ := got3
  refine thn (step.run pins s3 σ _ (fun o H4 => o = some (-1) ∧ H4 = _) I3 ⟨1, rfl, -1, rfl, rfl, rfl⟩) fun vk s4 got4 => ?_
  obtain ⟨_, H4, I4, pk, rfl, rfl⟩ := got4
  cases pl
  cases pu
  have I5 : Inv X pins σ H4 { s4 with heap := s4.heap.push { cls := .type "slice", data := .fields #[.none, .none, vk] } } := I4.kept (t' := s4.toks) fun b ob z => Heap.get?_push_of_some _ z
  obtain ⟨its, rel, tup, small⟩ := I5.tuple (hx.sq (K := X.K))
  have hlen := rel.length
  show wpAny (model X.prog X.w) X.A (subscriptTail e (.Slice none none (some (.UnaryOp .USub (.Constant (.int 1) k p1) p2)) p3) (.ref a) (.ref s4.heap.objs.size)) (EP X pins σ Q) X.xe _
  refine tail_any (ops := [.ref a, .ref s4.heap.objs.size]) tup.typeIs PyProof.Rows.slot_tuple_getitem.lookup ?_ (by with_unfolding_all rfl)
  refine getItem_back tup (Heap.IsSliceOf.new _ .none .none vk) pk (by rw [List.size_toArray]; omega) ?_
  have hf := I5.hok.fresh (Nat.le_refl _)
  refine ⟨.ref _, _, I5.laid (t' := s4.toks) (o := .frz _ (.tup xs.reverse)) (fun b ob z => Heap.get?_push_of_some _ z) (Nat.le_refl _) ⟨Heap.get?_push_size _ rfl, by rw [List.length_reverse]; exact small, _, rel.reverse, IsTup.new _ _⟩, rfl, q _ _ (same_new hf) ⟨_, ?_, upd_same⟩⟩
  rfl
/-! ### d.get(k, x), k a tuple that is known to have no dict -/
theorem key_ofZ {P : Program} {w : World} {H : Hp} {h : Heap} {a : Addr} {o : Obj} {ks : List Key} (ok : HOk P w H h) (e : H a = some (.frz o (.tup (ks.map kV)))) : (tupleKind (mixKind P w)).is h ks a := by
  obtain ⟨_, _, its, r, o', h1, h2, n, h3⟩ := (show ObjOk P w H h a (.frz o (.tup (ks.map kV))) from ok a _ e)
  exact ⟨o', its.toArray, n, h1, h2, h3, by simpa using items_are r⟩
def tDGetZ (td ty tx : TE) : TE := fun σ H Q => td σ H fun x H1 => ∃ a, x = .ref a ∧ IsD H1 a ∧ ty σ H1 fun y H2 => tx σ H2 fun z H3 => ∃ (kvs : List (List Key × V)) (k : List Key) (b : Addr) (ob : Obj), y = .ref b ∧ H3 a = some (.dT kvs) ∧ H3 b = some (.frz ob (.tup (k.map kV))) ∧ Q ((valV kvs k).getD z) H3
theorem pe_dgetZ {X : Cx} {o e f : Expr} {apos cpos : Pos} {td ty tx : TE} (hu : X.A.units + 1 < cLine) (ho : PE X o td) (he : PE X e ty) (hf : PE X f tx) (m : M2 X o "get" apos e f cpos) : PE X (.Call (.Attribute o "get" apos) [e, f] [] cpos) (tDGetZ td ty tx) := by
  refine ⟨fun pins s σ H Q I h => ?_⟩
  refine wpAny_Call_method m.base m.few m.line PySem.F.plainAttrs_dict PySem.F.slot_dict_get PySem.F.type_dict_get (thn (ho.run pins s σ H _ I h) fun u s1 got => ?_)
  obtain ⟨x, H1, I1, rx, a, ex, d, q1⟩ := got
  subst ex
  obtain rfl : u = Value.ref a := rx
  obtain ⟨t1, t2, _⟩ := isD_at I1 d
  refine ⟨t1, t2, ?_⟩
  rw [m.trees]
  refine Calls.callWith_builtin rfl (Calls.evalArgs_plain (Calls.spliced_cons (thn (he.run pins s1 σ H1 _ I1 q1) fun iv s2 g2 => ?_)))
  obtain ⟨y, H2, I2, ry, q2⟩ := g2
  refine Calls.spliced_cons (thn (hf.run pins s2 σ H2 _ I2 q2) fun fv s3 g3 => Calls.spliced_nil ?_)
  obtain ⟨z, H3, I3, rz, kvs, k, b, ob, ey, ed, eb, q3⟩ := g3
  subst ey
  cases (show iv = Value.ref b from ry)
  obtain ⟨zl, hd, xs, rel, dd⟩ := dt_rd I3.hok (.inl ed)
  refine call_meetsIn PySem.F.slot_dict_get dd.typeIs PySem.F.entry_dict_get (PySem.F.args_dict_get_3 _ _ _) (meetsH_dict_get_default (tupleKind (mixKind X.prog X.w)) a b hd fv) ⟨tupleKind_room_in1 hu, k, xs, key_ofZ I3.hok eb, dd, ⟨_, H3, I3.tok _, ?_, q3⟩⟩
  exact (rel.val k).getD rz
/-! ### choices of faces -/
def chsF (cs : List (List Int)) (fs : List Int) : List (List Int) := fs.foldl (fun cs f => cs ++ cs.map (· ++ [f])) cs
def chs (fs : List Int) : List (List Int) := chsF [[]] fs
def evenC (c : List Int) : Bool := decide (c ≠ []) && decide (c.length % 2 = 0)
def evs (fs : List Int) : List (List Int) := srtI ((chs fs).filter evenC)
theorem chs_snoc (fs : List Int) (f : Int) : chs (fs ++ [f]) = chs fs ++ (chs fs).map (· ++ [f]) := by
  unfold chs chsF
  rw [List.foldl_append]
  rfl
theorem chs_take {fs : List Int} {i : Nat} {f : Int} (e : fs[i]? = some f) : chs (fs.take (i + 1)) = chs (fs.take i) ++ (chs (fs.take i)).map (· ++ [f]) := by
  rw [List.take_add_one, e]
  exact chs_snoc _ _
theorem snocI {p : List Int → Prop} (h0 : p []) (h1 : ∀ fs f, p fs → p (fs ++ [f])) (fs : List Int) : p fs := by
  have : ∀ n, ∀ fs : List Int, fs.length = n → p fs := fun n => by
    induction n with
    | zero => intro fs e; rw [List.length_eq_zero_iff.mp e]; exact h0
    | succ n ih =>
      intro fs e
      rcases List.eq_nil_or_concat fs with z | ⟨gs, g, z⟩
      · rw [z] at e
        simp at e
      · rw [z]
        rw [z, List.concat_eq_append] at e
        rw [List.concat_eq_append]
        rw [List.length_append, List.length_singleton] at e
        exact h1 gs g (ih gs (by omega))
  exact this _ fs rfl
theorem chs_len (fs : List Int) : (chs fs).length = 2 ^ fs.length := by
  refine snocI (p := fun fs => (chs fs).length = 2 ^ fs.length) rfl (fun fs f ih => ?_) fs
  rw [chs_snoc, List.length_append, List.length_map, ih, List.length_append, List.length_singleton, Nat.pow_succ]
  omega
theorem mem_chs {c fs : List Int} : c ∈ chs fs ↔ c.Sublist fs := by
  revert c
  refine snocI (p := fun fs => ∀ {c : List Int}, c ∈ chs fs ↔ c.Sublist fs) ?_ (fun fs f ih => ?_) fs
  · intro c
    show c ∈ [[]] ↔ _
    rw [List.mem_singleton, List.sublist_nil]
  · intro c
    rw [chs_snoc, List.mem_append, List.mem_map, ih, List.sublist_append_iff]
    constructor
    · rintro (h | ⟨d, hd, rfl⟩)
      · exact ⟨c, [], by simp, h, List.nil_sublist _⟩
      · exact ⟨d, [f], rfl, ih.mp hd, List.Sublist.refl _⟩
    · rintro ⟨a, b, rfl, ha, hb⟩
      cases hb with
      | cons _ hb =>
        rw [List.sublist_nil] at hb
        subst hb
        exact .inl (by simpa using ha)
      | cons_cons _ hb =>
        rw [List.sublist_nil] at hb
        subst hb
        exact .inr ⟨a, ih.mpr ha, rfl⟩
theorem chs_nodup {fs : List Int} (nd : fs.Nodup) : (chs fs).Nodup := by
  revert nd
  refine snocI (p := fun fs => fs.Nodup → (chs fs).Nodup) ?_ (fun fs f ih => ?_) fs
  · intro _
    show ([[]] : List (List Int)).Nodup
    simp
  · intro nd
    rw [List.nodup_append] at nd
    rw [chs_snoc, List.nodup_append]
    refine ⟨ih nd.1, ?_, fun a ha b hb e => ?_⟩
    · rw [List.Nodup, List.pairwise_map]
      refine (ih nd.1).imp fun h e => h (List.append_cancel_right e)
    · subst e
      obtain ⟨d, hd, rfl⟩ := List.mem_map.mp hb
      exact nd.2.2 f ((mem_chs.mp ha).subset (by simp)) f (by simp) rfl
theorem evs_perm (fs : List Int) : (evs fs).Perm ((chs fs).filter evenC) := List.mergeSort_perm _ _
theorem mem_evs {c fs : List Int} : c ∈ evs fs ↔ c.Sublist fs ∧ c ≠ [] ∧ c.length % 2 = 0 := by
  rw [(evs_perm fs).mem_iff, List.mem_filter, mem_chs]
  unfold evenC
  rw [Bool.and_eq_true, decide_eq_true_iff, decide_eq_true_iff]
theorem evs_nodup {fs : List Int} (nd : fs.Nodup) : (evs fs).Nodup := (evs_perm fs).nodup_iff.mpr ((chs_nodup nd).filter _)
theorem evs_len (fs : List Int) (h : fs.length ≤ 8) : (evs fs).length ≤ 256 := by
  rw [(evs_perm fs).length_eq]
  refine Nat.le_trans (List.length_filter_le _ _) ?_
  rw [chs_len]
  exact Nat.pow_le_pow_right (n := 2) (by decide) h
theorem evs_self {fs : List Int} (h : fs ≠ []) (e : fs.length % 2 = 0) : fs ∈ evs fs := mem_evs.mpr ⟨List.Sublist.refl _, h, e⟩
/-- a choice without its first face and another one -/
def less2 (c : List Int) (g : Int) : List Int := c.tail.filter fun x => decide (x ≠ g)
theorem less2_len {c : List Int} (nd : c.Nodup) {g : Int} (h : g ∈ c.tail) : (less2 c g).length + 2 = c.length := by
  cases c with
  | nil => cases h
  | cons f c =>
    have h : g ∈ c := h
    have nd : c.Nodup := (List.nodup_cons.mp nd).2
    show (c.filter fun x => decide (x ≠ g)).length + 2 = c.length + 1
    have e : (c.filter fun x => decide (x ≠ g)) = c.erase g := by
      rw [List.Nodup.erase_eq_filter nd]
      refine List.filter_congr fun x _ => ?_
      by_cases z : x = g
      · subst z; simp
      · simp [z]
    rw [e, List.length_erase_of_mem h]
    have := List.length_pos_of_mem h
    omega
theorem less2_evs {c fs : List Int} (nd : fs.Nodup) (h : c ∈ evs fs) {g : Int} (hg : g ∈ c.tail) : less2 c g = [] ∨ less2 c g ∈ evs fs := by
  obtain ⟨s, ne, ev⟩ := mem_evs.mp h
  have l := less2_len (s.nodup nd) hg
  by_cases z : less2 c g = []
  · exact .inl z
  · refine .inr (mem_evs.mpr ⟨?_, z, by omega⟩)
    exact ((List.filter_sublist).trans (List.tail_sublist c)).trans s
/-- the choice of a number's digits -/
def bitC (fs : List Int) (n : Nat) : List Int := (fs.zipIdx.filter fun p => decide (n >>> p.2 &&& 1 = 1)).map (·.1)
theorem bitC_snoc (fs : List Int) (f : Int) (n : Nat) : bitC (fs ++ [f]) n = bitC fs n ++ if n >>> fs.length &&& 1 = 1 then [f] else [] := by
  unfold bitC
  rw [List.zipIdx_append, List.filter_append, List.map_append]
  congr 1
  by_cases h : n >>> fs.length &&& 1 = 1
  · rw [if_pos h]
    show List.map _ (List.filter _ [(f, 0 + fs.length)]) = _
    rw [List.filter_cons_of_pos (by rw [Nat.zero_add]; exact decide_eq_true h)]
    rfl
  · rw [if_neg h]
    show List.map _ (List.filter _ [(f, 0 + fs.length)]) = _
    rw [List.filter_cons_of_neg (by rw [Nat.zero_add]; exact fun z => h (of_decide_eq_true z))]
    rfl
theorem bitC_low {fs : List Int} {n m : Nat} (h : ∀ k, k < fs.length → (n >>> k &&& 1) = (m >>> k &&& 1)) : bitC fs n = bitC fs m := by
  unfold bitC
  congr 1
  refine List.filter_congr fun p hp => ?_
  obtain ⟨x, k⟩ := p
  have := List.mem_zipIdx hp
  have hk : k < fs.length := by omega
  show decide (n >>> k &&& 1 = 1) = decide (m >>> k &&& 1 = 1)
  rw [h k hk]
theorem bit_one (n k : Nat) : (n >>> k &&& 1) = n / 2 ^ k % 2 := by rw [Nat.shiftRight_eq_div_pow, Nat.and_one_is_mod]
theorem chs_bits (fs : List Int) : (List.range (2 ^ fs.length)).map (bitC fs) = chs fs := by
  refine snocI (p := fun fs => (List.range (2 ^ fs.length)).map (bitC fs) = chs fs) rfl (fun fs f ih => ?_) fs
  rw [chs_snoc, List.length_append, List.length_singleton, Nat.pow_succ, Nat.mul_two, List.range_add, List.map_append, List.map_map, ← ih, List.map_map]
  congr 1
  · refine List.map_congr_left fun n hn => ?_
    have hn := List.mem_range.mp hn
    rw [bitC_snoc, bit_one, Nat.div_eq_of_lt hn]
    simp
  · refine List.map_congr_left fun n hn => ?_
    have hn := List.mem_range.mp hn
    show bitC (fs ++ [f]) (2 ^ fs.length + n) = bitC fs n ++ [f]
    rw [bitC_snoc, bit_one, Nat.add_div_left _ (Nat.two_pow_pos _), Nat.div_eq_of_lt hn, if_pos rfl]
    congr 1
    refine bitC_low fun k hk => ?_
    rw [bit_one, bit_one]
    obtain ⟨d, hd⟩ : ∃ d, 2 ^ fs.length = 2 ^ k * (2 * d) := ⟨2 ^ (fs.length - k - 1), by rw [← Nat.pow_succ', ← Nat.pow_add]; congr 1; omega⟩
    rw [hd, Nat.mul_add_div (Nat.two_pow_pos _), Nat.add_comm, Nat.add_mul_mod_self_left]
/-- what a paper's rows must keep -/
def rowH (lay : Int → Int → Int) (num : List Int → Int) (c : List Int) : Bool := c.tail.all fun g => decide (num c ≤ lay (c.headD 0) g + num (less2 c g))
/-- the number of a choice in the rows -/
def lkC (es : List (List Int × Int)) (c : List Int) : Int := ((es.find? fun e => decide (e.1 = c)).map (·.2)).getD 0
/-- faces, by steps -/
def faceAt (fs : List (List Dt)) (s : Dt) : Nat := fs.findIdx fun f => decide (s ∈ f)
def besF (ts : List Tie) (fs : List (List Dt)) : List (Int × Int) := ts.zipIdx.map fun p => ((faceAt fs ((p.2 : Int), p.1.one) : Int), (faceAt fs ((p.2 : Int), p.1.other) : Int))
def fndF (fs : List (List Dt)) : List (Dt × Int) := fs.zipIdx.flatMap fun p => p.1.map fun s => (s, (p.2 : Int))
/-! ### flat, for any order of the steps -/
theorem rounds_cls {ts : List Tie} {n : Nat} (ok : ∀ t ∈ ts, TieOk n t) (x y : Int) (hx : 0 ≤ x ∧ x < (n : Int)) (hy : 0 ≤ y ∧ y < (n : Int)) : rounds ts n x = rounds ts n y ↔ Rch ts x y := by
  constructor
  · intro e
    have h := rounds_rch ts n x
    rw [e] at h
    exact h.trans (rounds_rch ts n y).symm
  · intro h
    obtain ⟨m, lm, hm, rm⟩ := has_leader ok hx
    rw [rounds_least ok lm hm rm, rounds_least ok lm hm (rm.trans h)]
def AnsF (ts : List Tie) (n : Nat) (es : List (Int × Int)) (rs : List (List Int)) (b : Bool) : Prop := ∀ S, (∀ x, x ∈ S ↔ x ∈ (stepsB es rs rs.length).map (·.1)) → (b = true ↔ FlatL (rounds ts n) n ts (facesG (stepsB es rs rs.length) S).1)
theorem ans_all {ts : List Tie} {n : Nat} {es : List (Int × Int)} {rs : List (List Int)} {b : Bool} (ok : WebOk n ts) (od : Ord rs es) (lr : rs.length = n) (a : AnsF ts n es rs b) {S : List Dt} (pm : S.Perm ((stepsB es rs rs.length).map (·.1))) : (partsTo ts n n).all (flatP ts (facesG (stepsB es rs rs.length) S).1) = b := by
  have hS : ∀ x, x ∈ S ↔ x ∈ (stepsB es rs rs.length).map (·.1) := fun x => pm.mem_iff
  have dec := facesG_decE od hS
  have := flat_iff (lab := rounds ts n) ok.ok (rounds_cls ok.ok) (fs := (facesG (stepsB es rs rs.length) S).1) fun f hf x hx => by
    have := ((dec.all x).mpr ⟨f, hf, hx⟩).rng od
    rw [lr] at this
    exact this
  rw [Bool.eq_iff_iff, this]
  exact (a S hS).symm
theorem rounds_tie {ts : List Tie} {n : Nat} (ok : WebOk n ts) {es : List (Int × Int)} (tw : TwE ts es) : ∀ e ∈ es, rounds ts n e.1 = rounds ts n e.2 := (tw_lab tw).mpr fun t ht => by
  have o := ok.ok t ht
  exact (rounds_cls ok.ok t.one t.other ⟨o.1, o.2.1⟩ ⟨o.2.2.1, o.2.2.2.1⟩).mpr (Rch.adj ⟨t, ht, rfl, .inl ⟨rfl, rfl⟩⟩)
theorem AnsF.one {ts : List Tie} {n : Nat} {es : List (Int × Int)} {rs : List (List Int)} {b : Bool} (ok : WebOk n ts) (tw : TwE ts es) (od : Ord rs es) {S : List Dt} (hS : ∀ x, x ∈ S ↔ x ∈ (stepsB es rs rs.length).map (·.1)) (h : b = true ↔ FlatL (rounds ts n) n ts (facesG (stepsB es rs rs.length) S).1) : AnsF ts n es rs b := fun S' hS' =>
  h.trans (FlatL.of fun c => Dec.fc (NxR.fn od) (od.nxLab (rounds_tie ok tw)) (facesG_decE od hS) (facesG_decE od hS') c)
theorem AnsF.rot {ts : List Tie} {n : Nat} {es : List (Int × Int)} {rs rs' : List (List Int)} {b : Bool} (ok : WebOk n ts) (tw : TwE ts es) (od : Ord rs es) (od' : Ord rs' es) (r : Rot rs rs') : AnsF ts n es rs b ↔ AnsF ts n es rs' b := by
  constructor
  · intro h S' hS'
    exact (h _ fun x => Iff.rfl).trans (flat_same od' (rounds_tie ok tw) (facesG_decE od fun x => Iff.rfl) (facesG_decE od' hS') r)
  · intro h S hS
    exact (h _ fun x => Iff.rfl).trans (flat_same od' (rounds_tie ok tw) (facesG_decE od hS) (facesG_decE od' fun x => Iff.rfl) r).symm
theorem AnsF.back {ts : List Tie} {n : Nat} {es : List (Int × Int)} {rs : List (List Int)} {b : Bool} (ok : WebOk n ts) (tw : TwE ts es) (od : Ord rs es) (od' : Ord (rs.map List.reverse) es) (h : AnsF ts n es rs b) : AnsF ts n es (rs.map List.reverse) b := fun S' hS' =>
  (h _ fun x => Iff.rfl).trans (flat_back od' (rounds_tie ok tw) (facesG_decE od fun x => Iff.rfl) (facesG_decE od' hS'))
theorem AnsF.grown {ts : List Tie} {n : Nat} {es : List (Int × Int)} {rs : List (List Int)} (ok : WebOk n ts) (tw : TwE ts es) (u : EulE es rs) (ln : rs.length = n) : AnsF ts n es rs true := fun S hS => by
  obtain ⟨lab, fs, u⟩ := u
  subst ln
  have rg : ∀ f ∈ fs, ∀ x ∈ f, 0 ≤ x.2 ∧ x.2 < (rs.length : Int) := fun f hf x hx => (u.din hf hx).rng u.od
  have cls : ∀ x y, 0 ≤ x ∧ x < (rs.length : Int) → 0 ≤ y ∧ y < (rs.length : Int) → (lab x = lab y ↔ Rch ts x y) := fun x y hx hy => by
    have ix : ((x.toNat : Nat) : Int) = x := by omega
    have iy : ((y.toNat : Nat) : Int) = y := by omega
    refine ⟨fun e => ?_, rch_lab ((tw_lab tw).mp u.tie)⟩
    have := cn_rch tw (u.con x.toNat y.toNat (by omega) (by omega) (by rw [ix, iy]; exact e))
    rwa [ix, iy] at this
  have f1 := (flat_iff ok.ok cls rg).mpr (u.flat tw)
  have f2 := (flat_iff ok.ok (rounds_cls ok.ok) rg).mp f1
  exact ⟨fun _ => (FlatL.of fun c => Dec.fc (NxR.fn u.od) (u.od.nxLab (rounds_tie ok tw)) u.dec (facesG_decE u.od hS) c).mp f2, fun _ => rfl⟩
theorem Ord.rev {rs : List (List Int)} {es : List (Int × Int)} (od : Ord rs es) : Ord (rs.map List.reverse) es := od.perm (by rw [List.length_map]) fun i row' e => by
  rw [List.getElem?_map] at e
  obtain ⟨row, er, rfl⟩ := Option.map_eq_some_iff.mp e
  exact ⟨row, er, List.reverse_perm _⟩
/-! ### flat webs and their faces -/
def IsS (es : List (Int × Int)) (rs : List (List Int)) (S : List Dt) : Prop := S.Perm ((stepsB es rs rs.length).map (·.1)) ∧ S.Pairwise (fun x y => SrtO.lexB y x = false)
open Classical in
noncomputable def fcs (es : List (Int × Int)) (rs : List (List Int)) : List (List Dt) := if h : ∃ S, IsS es rs S then (facesG (stepsB es rs rs.length) h.choose).1 else []
theorem fcs_of {es : List (Int × Int)} {rs : List (List Int)} {S : List Dt} (h : IsS es rs S) : (facesG (stepsB es rs rs.length) S).1 = fcs es rs := by
  have h' : ∃ S, IsS es rs S := ⟨S, h⟩
  unfold fcs
  rw [dif_pos h', sorted_one (h.1.trans h'.choose_spec.1.symm) h.2 h'.choose_spec.2]
structure FcOk (ts : List Tie) (fs : List (List Dt)) : Prop where
  nd : fs.flatten.Nodup
  has : ∀ (i : Nat) t, ts[i]? = some t → ((i : Int), t.one) ∈ fs.flatten ∧ ((i : Int), t.other) ∈ fs.flatten
  ne : ∀ f ∈ fs, f ≠ []
  rg : ∀ f ∈ fs, f.length ≤ 500 ∧ ∀ x ∈ f, 0 ≤ x.1 ∧ x.1 < (ts.length : Int)
  len : fs.length ≤ 500
  tot : fs.flatten.length ≤ 1000
  ev : (oddN ts fs fs.length).length % 2 = 0
theorem FcOk.of {rs : List (List Int)} {ts : List Tie} {es : List (Int × Int)} (od : Ord rs es) (tw : TwE ts es) (le : es.length ≤ 100) {S : List Dt} (h : IsS es rs S) : FcOk ts (fcs es rs) := by
  rw [← fcs_of h]
  have bd := faces_bound od tw le h.1
  have rnd := stepsB_rnd od
  have pm := facesG_perm rnd h.1
  have few := stepsB_few od
  refine ⟨pm.nodup_iff.mpr ?_, fun i t et => ?_, facesG_ne rnd h.1, bd.2, bd.1, ?_, faces_even od ts h.1⟩
  · exact rnd.nk
  · have li := (List.getElem?_eq_some_iff.mp et).1
    have ee : es[i]? = some (es[i]'(by have := tw.1; omega)) := List.getElem?_eq_getElem _
    have key := fun (p : Int) (hp : p = (es[i]'(by have := tw.1; omega)).1 ∨ p = (es[i]'(by have := tw.1; omega)).2) => pm.mem_iff.mpr ((stepsB_key od (x := ((i : Int), p))).mpr ⟨i, _, ee, rfl, hp⟩)
    rcases tw.2 i _ _ et ee with ⟨h3, h4⟩ | ⟨h3, h4⟩
    · exact ⟨key _ (.inl h3), key _ (.inr h4)⟩
    · exact ⟨key _ (.inr h3), key _ (.inl h4)⟩
  · rw [pm.length_eq, List.length_map]
    omega
/-- a flat web, its orders -/
structure FlW (H : Hp) (wv : V) (o : Addr) (n : Nat) (ts : List Tie) (rs : List (List Int)) (es : List (Int × Int)) : Prop where
  W : WebAt H wv n ts
  ok : WebOk n ts
  us : ∃ us, H o = some (.tup us) ∧ Paired (IntsV H) us rs
  od : Ord rs es
  tw : TwE ts es
  lr : rs.length = n
  le : es.length ≤ 100
  flat : AnsF ts n es rs true
theorem FlW.tk {H H' : Hp} {wv : V} {o : Addr} {n : Nat} {ts : List Tie} {rs : List (List Int)} {es : List (Int × Int)} (w : FlW H wv o n ts rs es) (k : Tk H H') : FlW H' wv o n ts rs es := by
  obtain ⟨us, h1, h2⟩ := w.us
  exact ⟨w.W.tk k, w.ok, ⟨us, k _ _ h1, Paired.mono (fun _ _ x => x.tk k) h2⟩, w.od, w.tw, w.lr, w.le, w.flat⟩
def spFlatFaces : Sp := fun vs H Q _ => ∃ (wv : V) (o : Addr) (n : Nat) (ts : List Tie) (rs : List (List Int)) (es : List (Int × Int)), vs = [wv, .ref o] ∧ FlW H wv o n ts rs es ∧
  ∀ r vs' H', Same H H' → H' r = some (.tup vs') → Paired (FcV H') vs' (fcs es rs) → FcOk ts (fcs es rs) → Q (.ref r) H'
/-! found: steps, with the number of their face -/
def kvN (es : List (Dt × Int)) : List (List Key × V) := es.map fun e => ([Sum.inl e.1.1, Sum.inl e.1.2], V.int e.2)
theorem kvN_none {x : Dt} : ∀ {es : List (Dt × Int)}, x ∉ es.map (·.1) → valV (kvN es) [Sum.inl x.1, Sum.inl x.2] = none
  | [], _ => rfl
  | e :: es, h => by
    rw [List.map_cons, List.mem_cons, not_or] at h
    have ih := kvN_none (x := x) (es := es) h.2
    unfold kvN at ih ⊢
    rw [List.map_cons]
    unfold valV at ih ⊢
    rw [List.find?_cons_of_neg]
    · exact ih
    · intro z
      have z := of_decide_eq_true z
      injection z with z1 z2
      injection z2 with z2 _
      exact h.1 (Prod.ext (Sum.inl.inj z1).symm (Sum.inl.inj z2).symm)
theorem kvN_some {x : Dt} {v : Int} : ∀ {es : List (Dt × Int)}, (es.map (·.1)).Nodup → (x, v) ∈ es → valV (kvN es) [Sum.inl x.1, Sum.inl x.2] = some (.int v)
  | [], _, h => by cases h
  | e :: es, nd, h => by
    rw [List.map_cons, List.nodup_cons] at nd
    rcases List.mem_cons.mp h with z | z
    · rw [← z]
      unfold kvN valV
      rw [List.map_cons, List.find?_cons_of_pos (by exact decide_eq_true rfl)]
      rfl
    · have ih := kvN_some nd.2 z
      unfold kvN valV at ih ⊢
      rw [List.map_cons, List.find?_cons_of_neg]
      · exact ih
      · intro q
        have q := of_decide_eq_true q
        injection q with z1 z2
        injection z2 with z2 _
        refine nd.1 (List.mem_map.mpr ⟨_, z, ?_⟩)
        exact (Prod.ext (Sum.inl.inj z1) (Sum.inl.inj z2)).symm
theorem kvN_put {x : Dt} {v : Int} {es : List (Dt × Int)} (h : x ∉ es.map (·.1)) : putK (kvN es) [Sum.inl x.1, Sum.inl x.2] (.int v) = kvN (es ++ [(x, v)]) := by
  unfold putK
  rw [valV_any, kvN_none h]
  unfold kvN
  rw [List.map_append]
  rfl
theorem kvN_len (es : List (Dt × Int)) : (kvN es).length = es.length := by unfold kvN; rw [List.length_map]
def fndTo (fs : List (List Dt)) (i j : Nat) : List (Dt × Int) := fndF (fs.take i) ++ ((fs.getD i []).take j).map fun s => (s, (i : Int))
theorem fnd_snoc {fs : List (List Dt)} {i : Nat} {f : List Dt} (e : fs[i]? = some f) : fndF (fs.take (i + 1)) = fndF (fs.take i) ++ f.map fun s => (s, (i : Int)) := by
  have li := (List.getElem?_eq_some_iff.mp e).1
  unfold fndF
  rw [List.take_add_one, e, List.zipIdx_append, List.flatMap_append, List.length_take, Nat.min_eq_left (by omega)]
  congr 1
  show List.flatMap _ [(f, 0 + i)] = _
  rw [Nat.zero_add]
  show _ ++ [] = _
  rw [List.append_nil]
theorem fnd_keys (fs : List (List Dt)) : ∀ k, ((fs.zipIdx k).flatMap fun p => p.1.map fun s => (s, (p.2 : Int))).map (·.1) = fs.flatten := by
  induction fs with
  | nil => intro _; rfl
  | cons f fs ih =>
    intro k
    rw [List.zipIdx_cons, List.flatMap_cons, List.map_append, ih, List.flatten_cons, List.map_map]
    congr 1
    exact List.map_id f
theorem fndF_keys (fs : List (List Dt)) : (fndF fs).map (·.1) = fs.flatten := fnd_keys fs 0
theorem fnd_mem {fs : List (List Dt)} {s : Dt} (h : s ∈ fs.flatten) : (s, (faceAt fs s : Int)) ∈ fndF fs := by
  obtain ⟨f, hf, hs⟩ := List.mem_flatten.mp h
  have hx : ∃ f ∈ fs, (decide (s ∈ f)) = true := ⟨f, hf, decide_eq_true hs⟩
  have l := List.findIdx_lt_length_of_exists hx
  have e := List.findIdx_getElem (w := l)
  unfold fndF
  rw [List.mem_flatMap]
  refine ⟨(fs[fs.findIdx fun f => decide (s ∈ f)], fs.findIdx fun f => decide (s ∈ f)), ?_, ?_⟩
  · exact List.mem_zipIdx_iff_getElem?.mpr (List.getElem?_eq_getElem l)
  · exact List.mem_map.mpr ⟨s, of_decide_eq_true e, rfl⟩
theorem faceAt_lt {fs : List (List Dt)} {s : Dt} (h : s ∈ fs.flatten) : faceAt fs s < fs.length := by
  obtain ⟨f, hf, hs⟩ := List.mem_flatten.mp h
  exact List.findIdx_lt_length_of_exists ⟨f, hf, decide_eq_true hs⟩
theorem fnd_len (fs : List (List Dt)) : (fndF fs).length = fs.flatten.length := by rw [← fndF_keys fs, List.length_map]
theorem fnd_get {fs : List (List Dt)} (nd : fs.flatten.Nodup) {s : Dt} (h : s ∈ fs.flatten) : valV (kvN (fndF fs)) [Sum.inl s.1, Sum.inl s.2] = some (.int (faceAt fs s)) :=
  kvN_some (by rw [fndF_keys]; exact nd) (fnd_mem h)
theorem fndTo_new {fs : List (List Dt)} (nd : fs.flatten.Nodup) {i j : Nat} {f : List Dt} {s : Dt} (e : fs[i]? = some f) (es : f[j]? = some s) : s ∉ (fndTo fs i j).map (·.1) := by
  unfold fndTo
  rw [List.map_append, fndF_keys, List.map_map, List.getD_eq_getElem?_getD, e, List.mem_append, not_or]
  have sp : fs = fs.take i ++ f :: fs.drop (i + 1) := by
    have li := (List.getElem?_eq_some_iff.mp e)
    rw [← li.2, ← List.drop_eq_getElem_cons li.1, List.take_append_drop]
  rw [sp, List.flatten_append, List.flatten_cons, List.nodup_append] at nd
  refine ⟨fun h => nd.2.2 s h s (List.mem_append_left _ (List.mem_of_getElem? es)) rfl, fun h => ?_⟩
  have ndf := (List.nodup_append.mp nd.2.1).1
  have h : s ∈ f.take j := by
    obtain ⟨y, hy, ey⟩ := List.mem_map.mp h
    have ey : y = s := ey
    rw [← ey]
    exact hy
  obtain ⟨m, em⟩ := List.getElem?_of_mem h
  have lm := (List.getElem?_eq_some_iff.mp em).1
  rw [List.length_take] at lm
  rw [List.getElem?_take_of_lt (by omega)] at em
  have := (List.getElem?_inj (List.getElem?_eq_some_iff.mp em).1 ndf).mp (em.trans es.symm)
  omega
/-! ### comprehensions by an invariant -/
/-- any comprehension's walk by an invariant -/
theorem it_gen {J : It} {n : Nat} {G : Hp → Prop} {Y : Nat → Hp → V → Hp → Prop} (w : Walk J n G Y) {S : V → Hp → (Hp → Prop) → Prop} {H1 : Hp} {Qd : Hp → Prop} (Pv : Nat → Hp → Prop) (h0 : Pv 0 H1) (hG : ∀ i H, i ≤ n → Pv i H → G H)
    (hs : ∀ i x H H', i < n → Pv i H → Y i H x H' → S x H' (Pv (i + 1))) (hd : ∀ H, Pv n H → Qd H) :
    ∃ W : Nat → Nat → Hp → Prop, (∃ m, W 0 m H1) ∧ ∀ i m H, W i m H → (J.stop i H ∧ Qd H) ∨ (J.go i H ∧ ∃ Nx : Hp → Prop, (∀ H', Nx H' → ∃ m', m' < m ∧ W (i + 1) m' H') ∧ ∀ x H', J.yld i H x H' → S x H' Nx) := by
  refine ⟨fun i m H => m = n - i ∧ i ≤ n ∧ Pv i H, ⟨n, by simp, Nat.zero_le _, h0⟩, ?_⟩
  rintro i m H ⟨rfl, hi, p⟩
  have q := hG i H hi p
  by_cases hlt : i < n
  · exact .inr ⟨w.goes i H hlt q, Pv (i + 1), fun H' p' => ⟨n - (i + 1), by omega, rfl, hlt, p'⟩, fun x H' y => hs i x H H' hlt p (w.yields i H x H' hlt q y)⟩
  · have e : i = n := by omega
    subst e
    exact .inl ⟨w.stops H q, hd H p⟩
/-! ### all(..) over any walk, by what is told of each -/
def AllTo (Ps : List Addr) (H1 : Hp) (p : Nat → Bool) (i : Nat) (H : Hp) : Prop := Kt Ps H1 H ∧ ∀ j, j < i → p j = true
theorem all_gen {J : It} {n : Nat} {G : Hp → Prop} {Y : Nat → Hp → V → Hp → Prop} (w : Walk J n G Y) {Ps : List Addr} {Pt : Addr} {H1 : Hp} (p : Nat → Bool) {S : V → Hp → (Hp → Prop) → Prop} {Qt : Hp → Prop} (hT : Tabs Ps H1) (hPt : Pt ∈ Ps)
    (hG : ∀ H', Kt Ps H1 H' → G H') (hs : ∀ i x H' H'', i < n → AllTo Ps H1 p i H' → Y i H' x H'' → S x H'' (AllTo Ps H1 p (i + 1))) (hq : ∀ H', Kt Ps H1 H' → (List.range n).all p = true → Qt H') :
    GxR.TabG H1 Pt ∧ ∃ W : Nat → Nat → Hp → Prop, (∀ H2, GxR.Tabbed Pt H1 H2 → ∃ m, W 0 m H2) ∧ ∀ i m H, W i m H → (J.stop i H ∧ Qt H) ∨ (J.go i H ∧ ∃ Nx : Hp → Prop, (∀ H', Nx H' → ∃ m', m' < m ∧ W (i + 1) m' H') ∧ ∀ x H', J.yld i H x H' → S x H' Nx) := by
  refine ⟨hT Pt hPt, fun i m H => m = n - i ∧ i ≤ n ∧ AllTo Ps H1 p i H, fun H2 h2 => ⟨n, by simp, Nat.zero_le _, Kt.tabbed hT hPt h2, fun j h => absurd h (by omega)⟩, ?_⟩
  rintro i m H ⟨rfl, hi, a⟩
  have g := hG H a.1
  by_cases hlt : i < n
  · exact .inr ⟨w.goes i H hlt g, AllTo Ps H1 p (i + 1), fun H' a' => ⟨n - (i + 1), by omega, rfl, hlt, a'⟩, fun x H' y => hs i x H H' hlt a (w.yields i H x H' hlt g y)⟩
  · have e : i = n := by omega
    subst e
    exact .inl ⟨w.stops H g, hq H a.1 (List.all_eq_true.mpr fun j hj => a.2 j (List.mem_range.mp hj))⟩
theorem all_fin {Ps : List Addr} {H1 H3 : Hp} {p : Nat → Bool} {i n : Nat} {b : Bool} {R : Prop} (k : Kt Ps H1 H3) (a : ∀ j, j < i → p j = true) (hi : i < n) (e0 : p i = b) (q : (List.range n).all p = false → R) : if b = true then AllTo Ps H1 p (i + 1) H3 else R := by
  subst e0
  cases e : p i with
  | true =>
    rw [if_pos rfl]
    refine ⟨k, fun j hj => ?_⟩
    by_cases z : j = i
    · rw [z]; exact e
    · exact a j (by omega)
  | false =>
    rw [if_neg (by simp)]
    refine q ?_
    rw [Bool.eq_false_iff]
    intro z
    have := (List.all_eq_true.mp z) i (List.mem_range.mpr hi)
    rw [e] at this
    cases this
theorem all_range {α : Type} (xs : List α) (p : α → Bool) (d : α) : (List.range xs.length).all (fun i => p (xs.getD i d)) = xs.all p := by
  rw [Bool.eq_iff_iff, List.all_eq_true, List.all_eq_true]
  constructor
  · intro h x hx
    obtain ⟨i, e⟩ := List.getElem?_of_mem hx
    have := h i (List.mem_range.mpr (List.getElem?_eq_some_iff.mp e).1)
    rw [List.getD_eq_getElem?_getD, e] at this
    exact this
  · intro h i hi
    have e := List.getElem?_eq_getElem (List.mem_range.mp hi)
    rw [List.getD_eq_getElem?_getD, e]
    exact h _ (List.mem_of_getElem? e)
/-! ### flat faces, choices -/
def WtV (H : Hp) (v : V) (ws : List Int) : Prop := (v = .non ∧ ∀ w ∈ ws, w = 1) ∨ IntsV H v ws
theorem WtV.tk {H H' : Hp} (k : Tk H H') {v : V} {ws : List Int} (h : WtV H v ws) : WtV H' v ws := h.imp id (fun z => z.tk k)
def spWeightF : Sp := fun vs H Q _ => ∃ (v : V) (i : Nat) (ws : List Int) (w : Int), vs = [v, .int i] ∧ WtV H v ws ∧ ws[i]? = some w ∧ Q (.int w) H
def spFacesBeside : Sp := fun vs H Q _ => ∃ (wv : V) (n : Int) (ts : List Tie) (o : Addr) (us : List V) (fs : List (List Dt)), vs = [wv, .ref o] ∧ WebAt H wv n ts ∧ ts.length ≤ 120 ∧ H o = some (.tup us) ∧ Paired (FcV H) us fs ∧ FcOk ts fs ∧
  ∀ L ys H', Same H H' → H' L = some (.lst ys) → Paired (PrV H') ys (besF ts fs) → Q (.ref L) H'
def spEvenChoices : Sp := fun vs H Q _ => ∃ (o : Addr) (fs : List Int), vs = [.ref o] ∧ H o = some (.tup (fs.map V.int)) ∧ fs.length ≤ 8 ∧
  ∀ L ys H', Same H H' → H L = none → H' L = some (.lst ys) → Paired (IntsV H') ys (evs fs) → Q (.ref L) H'
def spWithoutPair : Sp := fun vs H Q _ => ∃ (v : V) (c : List Int) (g : Int), vs = [v, .int g] ∧ IntsV H v c ∧ c.length ≤ 8 ∧ ∀ r H', Same H H' → H' r = some (.tup ((less2 c g).map V.int)) → Q (.ref r) H'
theorem ps_neverF {X : Cx} {st : Stmt} : PS X st (fun _ _ _ => False) := ⟨fun _ _ _ _ _ _ h => h.elim⟩
theorem bes_len (ts : List Tie) (fs : List (List Dt)) : (besF ts fs).length = ts.length := by unfold besF; rw [List.length_map, List.length_zipIdx]
theorem bes_take {ts : List Tie} {fs : List (List Dt)} {i : Nat} {t : Tie} (e : ts[i]? = some t) : (besF ts fs).take (i + 1) = (besF ts fs).take i ++ [((faceAt fs ((i : Int), t.one) : Int), (faceAt fs ((i : Int), t.other) : Int))] := by
  rw [List.take_add_one]
  congr 1
  unfold besF
  rw [List.getElem?_map, List.getElem?_zipIdx, e]
  simp
theorem eqv_noneI (c : List Int) : PyData.eqv (intsD c) (intsD []) = decide (c = []) := by
  rw [eqv_nil]
  cases c <;> simp
section
variable {P : Program} {w : World} {K : PySem.W.Frag} {mg : Str → Option Value} {base : Heap}
set_option maxHeartbeats 4000000 in
theorem ok_flat_faces {f : Addr} {fd : FuncData} (F : Fun K "flat_faces" "flat_faces" s_flat_faces f fd) (D_faces_of : Df P w K mg base 2 "faces_of" ["web", "orders"] spFaces) (D_are_flat_faces : Df P w K mg base 3 "are_flat_faces" ["web", "faces"] spFlatF) : FnOk P w K mg base CX0 4 f fd ["web", "orders"] spFlatFaces := by
  obtain ⟨f_faces_of, fd_faces_of, G_faces_of, g_faces_of, k_faces_of, b_faces_of⟩ := D_faces_of
  obtain ⟨f_are_flat_faces, fd_are_flat_faces, G_are_flat_faces, g_are_flat_faces, k_are_flat_faces, b_are_flat_faces⟩ := D_are_flat_faces
  refine F.ok sc_flat_faces (fun vs H Q E h => ?_) (fun cdv A outer s H vs Q E hr h => ?_)
  · obtain ⟨wv, o, n, ts, rs, es, rfl, _⟩ := h
    rfl
  · obtain ⟨wv, o, n, ts, rs, es, rfl, W, q⟩ := h
    refine ⟨_, (pss_cons (ps_set (i := 2) sc_flat_faces.nd rfl (.inl rfl) (pe_call G_faces_of (hr.mono (by decide)) (by rfl) g_faces_of k_faces_of b_faces_of .nil pass0 (pa_cons (pv 0) (pa_cons (pv 1) pa_nil))))
      (pss_cons (ps_if (pt_not (pt_val (pe_call G_are_flat_faces (hr.mono (by decide)) (by rfl) g_are_flat_faces k_are_flat_faces b_are_flat_faces .nil pass0 (pa_cons (pv 0) (pa_cons (pv 2) pa_nil)))))
        (pss_one ps_neverF)
        pss_nil)
      (pss_one (ps_ret (pv 2))))), ?_⟩
    obtain ⟨us, ho, hp⟩ := W.us
    have few := stepsB_few W.od
    have hi := W.ok.hi
    have lr := W.lr
    have le := W.le
    refine ⟨wv, rfl, .ref o, rfl, wv, n, ts, o, us, rs, es, rfl, W.W, ho, hp, W.od, W.tw, by omega, le, by omega, fun r vs1 S H1 s1 pS oS hr hv => ?_⟩
    have iS : IsS es rs S := ⟨pS, oS⟩
    rw [fcs_of iS] at hv
    have F := FcOk.of W.od W.tw le iS
    have W1 := W.tk (Same.tk s1)
    refine ⟨wv, rfl, .ref r, rfl, wv, n, ts, r, vs1, fcs es rs, rfl, W1.W, W.ok, hr, hv, F.ne, F.len, fun H2 s2 => ⟨_, rfl, ?_⟩⟩
    rw [← fcs_of iS, ans_all W.ok W.od W.lr W.flat pS]
    exact ⟨.ref r, rfl, q r vs1 H2 (s1.trans s2) (s2 _ _ hr) (fc_tk (Same.tk s2) hv) F⟩
set_option maxHeartbeats 4000000 in
theorem ok_faces_beside {f : Addr} {fd : FuncData} (F : Fun K "faces_beside" "faces_beside" s_faces_beside f fd) (m_enumerate : mg "enumerate" = none) : FnOk P w K mg base CX0 1 f fd ["web", "faces"] spFacesBeside := by
  refine F.ok sc_faces_beside (fun vs H Q E h => ?_) (fun cdv A outer s H vs Q E hr h => ?_)
  · obtain ⟨wv, n, ts, o, us, fs, rfl, _⟩ := h
    rfl
  · obtain ⟨wv, n, ts, o, us, fs, rfl, hW, l120, ho, hp, F, q⟩ := h
    have hu := room1 hr
    refine ⟨_, (pss_cons (ps_set (i := 2) sc_faces_beside.nd rfl (.inr rfl) (pe_dc2T (own := [("number", 3), ("face", 4), ("step", 5)]) (vs1 := [5]) (g := (gTup K 2 (gCons (gName 3) (gCons (gName 4) gNil)))) (tt := tYes) (g1 := (gName 5)) (wi1 := iTup K (tVar 4)) (tt1 := tYes) rfl (Nat.lt_of_succ_lt hu) sc_faces_beside.nd (pi_enumT (by rfl) m_enumerate (pa_cons (pv 1) pa_nil)) (blkOk_by (N := N_faces_beside) (sc := defScope s_faces_beside) (own := [("number", 3), ("face", 4), ("step", 5)]) (by decide +kernel)) (by decide) (fun _ _ _ _ _ => (pg_tup rfl (pgs_cons (pg_name (i := 3) sc_faces_beside.nd rfl (.inl rfl)) (pgs_cons (pg_name (i := 4) sc_faces_beside.nd rfl (.inl rfl)) pgs_nil)))) (fun _ _ _ _ _ => pts_nil) (fun _ _ _ _ _ => (pi_tup (pv 4))) (fun _ _ _ _ _ => (pg_name (i := 5) sc_faces_beside.nd rfl (.inl rfl))) (fun _ _ _ _ _ => pts_nil) (fun _ _ _ _ _ => (pv 5)) (fun _ _ _ _ _ => (pv 3))))
      (pss_one (ps_ret (pe_lc (own := [("tie", 6), ("one", 7), ("other", 8), ("kind", 9)]) (g := (gTup K 2 (gCons (gName 6) (gCons (gTup K 3 (gCons (gName 7) (gCons (gName 8) (gCons (gName 9) gNil)))) gNil)))) (tt := tYes) rfl sc_faces_beside.nd (pi_enumT (by rfl) m_enumerate (pa_cons (pe_ix ix_tup (pv 0) pe_int (fun _ _ => rfl)) pa_nil)) (blkOk_by (N := N_faces_beside) (sc := defScope s_faces_beside) (own := [("tie", 6), ("one", 7), ("other", 8), ("kind", 9)]) (by decide +kernel)) (fun _ _ _ _ _ => (pg_tup rfl (pgs_cons (pg_name (i := 6) sc_faces_beside.nd rfl (.inl rfl)) (pgs_cons (pg_tup rfl (pgs_cons (pg_name (i := 7) sc_faces_beside.nd rfl (.inl rfl)) (pgs_cons (pg_name (i := 8) sc_faces_beside.nd rfl (.inl rfl)) (pgs_cons (pg_name (i := 9) sc_faces_beside.nd rfl (.inl rfl)) pgs_nil)))) pgs_nil)))) (fun _ _ _ _ _ => pts_nil) (fun _ _ _ _ _ => (pe_tup (pa_cons (pe_dget hu (pv 2) (pe_tup (pa_cons (pv 6) (pa_cons (pv 7) pa_nil))) (fun _ _ => rfl)) (pa_cons (pe_dget hu (pv 2) (pe_tup (pa_cons (pv 6) (pa_cons (pv 8) pa_nil))) (fun _ _ => rfl)) pa_nil)))))))), ?_⟩
    have lu : us.length = fs.length := Paired.length hp
    have lF := F.len
    refine ⟨.ref o, rfl, o, us, rfl, SqT.of ho, fun D nD => ?_⟩
    refine it_gen (walk_enumT (xs := us)) (fun i H' => H' D = some (.dT (kvN (fndF (fs.take i)))) ∧ Same H H') ⟨upd_same, same_new nD⟩ (fun i H' _ h => SqT.of (h.2 _ _ ho)) ?_ ?_
    · rintro i x H1 H2 hi ⟨hD, s1⟩ ⟨T, x1, y, rfl, nT, rfl, e1, e2⟩
      obtain rfl : V.int (i : Nat) = x1 := Option.some.inj e1
      obtain ⟨f, ef, b, ws, rfl, hb, hws⟩ := Paired.at hp e2
      have sT := same_new (o := .tup [.int (i : Nat), .ref b]) nT
      have hT := upd_same (H := H1) (a := T) (o := .tup [.int (i : Nat), .ref b])
      have hD2 := sT _ _ hD
      have s2 := s1.trans sT
      generalize upd H1 T (.tup [.int (i : Nat), .ref b]) = H2 at hT hD2 s2
      have hb2 := s2 _ _ hb
      have lw : ws.length = f.length := Paired.length hws
      have hfm := List.mem_of_getElem? ef
      refine ⟨T, _, rfl, SqT.of hT, rfl, _, _, rfl, _, _, rfl, rfl, rfl, .ref b, rfl, b, rfl, ⟨ws, SqT.of hb2⟩, ?_⟩
      refine it_gen (walk_tup (xs := ws)) (fun j H' => H' D = some (.dT (kvN (fndTo fs i j))) ∧ Same H H') ⟨?_, s2⟩ (fun j H' _ h => SqT.of (h.2 _ _ hb)) ?_ ?_
      · rw [hD2]
        unfold fndTo
        rw [List.take_zero, List.map_nil, List.append_nil]
      · rintro j x H3 H4 hj ⟨hD3, s3⟩ ⟨rfl, ex⟩
        obtain ⟨s, es, c, rfl, hc⟩ := Paired.at hws ex
        have hc3 := s3 _ _ hc
        have nw := fndTo_new F.nd ef es
        have sub : (fndTo fs i j).length ≤ 1000 := by
          have := F.tot
          have e := fnd_len fs
          have l1 : (fndTo fs i j).length ≤ (fndF (fs.take (i + 1))).length := by
            rw [fnd_snoc ef]
            unfold fndTo
            rw [List.length_append, List.length_append, List.length_map, List.length_map, List.getD_eq_getElem?_getD, ef]
            have : (List.take j ((some f).getD [])).length ≤ f.length := by
              show (List.take j f).length ≤ _
              rw [List.length_take]
              omega
            omega
          have l2 : (fndF (fs.take (i + 1))).length ≤ (fndF fs).length := by
            rw [fnd_len, fnd_len]
            have : fs.flatten.length = (fs.take (i + 1)).flatten.length + (fs.drop (i + 1)).flatten.length := by
              rw [← List.length_append, ← List.flatten_append, List.take_append_drop]
            omega
          omega
        refine ⟨rfl, .ref c, rfl, .int (i : Nat), rfl, kvN (fndTo fs i j), [Sum.inl s.1, Sum.inl s.2], c, rfl, hc3, hD3, by rw [kvN_len]; exact small1000 (by omega), ?_, ?_⟩
        · rw [upd_same, kvN_put nw]
          unfold fndTo
          rw [List.getD_eq_getElem?_getD, ef]
          show some (HO.dT (kvN (_ ++ (f.take j).map _ ++ _))) = some (HO.dT (kvN (_ ++ (f.take (j + 1)).map _)))
          rw [List.take_add_one, es, List.map_append, List.append_assoc]
          rfl
        · exact Same.mut s3 nD
      · rintro H3 ⟨hD3, s3⟩
        refine ⟨?_, s3⟩
        rw [hD3, fnd_snoc ef, lw]
        unfold fndTo
        rw [List.getD_eq_getElem?_getD, ef]
        show some (HO.dT (kvN (_ ++ (f.take f.length).map _))) = _
        rw [List.take_length]
    · rintro H1 ⟨hD, s1⟩
      rw [lu, List.take_length] at hD
      obtain ⟨wa, wb, ws, rfl, hwa, hwb, hpw⟩ := id hW
      have lw : ws.length = ts.length := Paired.length hpw
      refine ⟨.ref wa, rfl, wa, _, 1, .ref wb, rfl, rfl, SqT.of (s1 _ _ hwa), rfl, wb, ws, rfl, SqT.of (s1 _ _ hwb), fun L nL => ?_⟩
      refine lc_it (walk_enumT (xs := ws)) (fun i H' => ∃ ys, H' L = some (.lst ys) ∧ Paired (PrV H') ys ((besF ts fs).take i) ∧ Same H1 H') ⟨[], upd_same, .nil, same_new nL⟩ (fun i H' _ ⟨_, _, _, s⟩ => SqT.of ((s1.trans s) _ _ hwb)) ?_ ?_
      · rintro i x H2 H3 hi ⟨ys, hL, hys, s2⟩ ⟨T, x1, y, rfl, nT, rfl, e1, e2⟩
        obtain rfl : V.int (i : Nat) = x1 := Option.some.inj e1
        obtain ⟨t, et, c, rfl, hc⟩ := Paired.at hpw e2
        have sT := same_new (o := .tup [.int (i : Nat), .ref c]) nT
        have hT := upd_same (H := H2) (a := T) (o := .tup [.int (i : Nat), .ref c])
        have hL3 := sT _ _ hL
        have hys3 : Paired (PrV (upd H2 T (.tup [.int (i : Nat), .ref c]))) ys _ := pr_tk (Same.tk sT) hys
        have s3 := s2.trans sT
        generalize upd H2 T (.tup [.int (i : Nat), .ref c]) = H3 at hT hL3 hys3 s3
        have s03 := s1.trans s3
        have hh := F.has i t et
        have g1 := fnd_get F.nd hh.1
        have g2 := fnd_get F.nd hh.2
        refine ⟨T, _, rfl, SqT.of hT, rfl, ?_⟩
        refine ⟨_, _, rfl, _, _, rfl, c, _, rfl, SqT.of (s03 _ _ hc), rfl, _, _, rfl, _, _, rfl, _, _, rfl, rfl, rfl, rfl, ?_⟩
        refine ⟨.ref D, rfl, .int (i : Nat), rfl, .int t.one, rfl, by show 2 ≤ sizeLine; decide, fun k1 n1 => ?_⟩
        have sk1 := same_new (o := .tup [.int (i : Nat), .int t.one]) n1
        refine ⟨D, .int (faceAt fs ((i : Int), t.one)), rfl, ?_, ?_⟩
        · rw [← g1]
          exact DGet.t (sk1 _ _ (s3 _ _ hD)) (k := [Sum.inl (i : Int), Sum.inl t.one]) upd_same
        refine ⟨.ref D, rfl, .int (i : Nat), rfl, .int t.other, rfl, by show 2 ≤ sizeLine; decide, fun k2 n2 => ?_⟩
        have sk2 := same_new (o := .tup [.int (i : Nat), .int t.other]) n2
        refine ⟨D, .int (faceAt fs ((i : Int), t.other)), rfl, ?_, ?_⟩
        · rw [← g2]
          exact DGet.t (sk2 _ _ (sk1 _ _ (s3 _ _ hD))) (k := [Sum.inl (i : Int), Sum.inl t.other]) upd_same
        refine ⟨by show 2 ≤ sizeLine; decide, fun p np => ?_⟩
        have sp := same_new (o := .tup [.int (faceAt fs ((i : Int), t.one)), .int (faceAt fs ((i : Int), t.other))]) np
        have s4 := (sk1.trans sk2).trans sp
        have hL4 := s4 _ _ hL3
        have ll : ys.length ≤ i := by
          have := Paired.length hys
          rw [List.length_take] at this
          omega
        have hp4 := upd_same (H := upd (upd H3 k1 (.tup [.int (i : Nat), .int t.one])) k2 (.tup [.int (i : Nat), .int t.other])) (a := p) (o := .tup [.int (faceAt fs ((i : Int), t.one)), .int (faceAt fs ((i : Int), t.other))])
        have hys4 := pr_tk (Same.tk s4) hys3
        have s5 := s3.trans s4
        generalize upd (upd (upd H3 k1 (.tup [.int (i : Nat), .int t.one])) k2 (.tup [.int (i : Nat), .int t.other])) p (.tup [.int (faceAt fs ((i : Int), t.one)), .int (faceAt fs ((i : Int), t.other))]) = H4 at s4 hL4 hp4 hys4 s5
        refine ⟨ys, hL4, small1000 (by omega), ys ++ [.ref p], upd_same, ?_, Same.mut s5 nL⟩
        rw [bes_take et]
        have tk := tk_lst (ys := ys ++ [.ref p]) hL4
        exact Paired.snoc (pr_tk tk hys4) ⟨p, rfl, tk _ _ hp4⟩
      · rintro H2 ⟨ys, hL, hys, s2⟩
        rw [lw, List.take_of_length_le (by rw [bes_len]; omega)] at hys
        exact q L ys H2 (s1.trans s2) hL hys
set_option maxHeartbeats 4000000 in
theorem ok_weight_of {f : Addr} {fd : FuncData} (F : Fun K "weight_of" "weight_of" s_weight_of f fd)  : FnOk P w K mg base CX0 1 f fd ["weights", "tie"] spWeightF := by
  refine F.ok sc_weight_of (fun vs H Q E h => ?_) (fun cdv A outer s H vs Q E hr h => ?_)
  · obtain ⟨v, i, ws, w0, rfl, _⟩ := h
    rfl
  · obtain ⟨v, i, ws, w0, rfl, hw, ew, q⟩ := h
    refine ⟨_, (pss_cons (ps_if (pt_cmpR op_isN (pv 0) pe_non (nomark _))
        (pss_one (ps_ret pe_int))
        pss_nil)
      (pss_one (ps_ret (pe_ix ix_tup (pv 0) (pv 1) (fun _ _ => rfl))))), ?_⟩
    rcases hw with ⟨rfl, h1⟩ | ⟨a, rfl, ha⟩
    · obtain rfl := h1 w0 (List.mem_of_getElem? ew)
      exact ⟨.non, rfl, rfl, _, rfl, q⟩
    · refine ⟨.ref a, rfl, rfl, _, rfl, .ref a, rfl, .int i, rfl, a, _, _, _, rfl, rfl, SqT.of ha, ?_, q⟩
      exact atI_nat (by rw [List.getElem?_map, ew]; rfl)
set_option maxHeartbeats 4000000 in
theorem ok_without_pair {f : Addr} {fd : FuncData} (F : Fun K "without_pair" "without_pair" s_without_pair f fd) (M : Free mg) : FnOk P w K mg base CX0 1 f fd ["choice", "other"] spWithoutPair := by
  refine F.ok sc_without_pair (fun vs H Q E h => ?_) (fun cdv A outer s H vs Q E hr h => ?_)
  · obtain ⟨v, c, g, rfl, _⟩ := h
    rfl
  · obtain ⟨v, c, g, rfl, hv, lc, q⟩ := h
    refine ⟨_, (pss_one (ps_ret (pe_callTy call_tuple_of (by rfl) M.tuple (by decide +kernel) (pa_cons (pe_lc (own := [("face", 2)]) (g := (gName 2)) (te := tVar 2) rfl sc_without_pair.nd (pi_tup (pe_slice sl_tupU (pv 0) (po_some pe_int) po_none)) (blkOk_by (N := N_without_pair) (sc := defScope s_without_pair) (own := [("face", 2)]) (by decide +kernel)) (fun _ _ _ _ _ => (pg_name (i := 2) sc_without_pair.nd rfl (.inl rfl))) (fun _ _ _ _ _ => (pts_one (pt_cmpR op_ne (pv 2) (pv 1) (nomark _)))) (fun _ _ _ _ _ => (pv 2))) pa_nil)))), ?_⟩
    obtain ⟨a, rfl, ha⟩ := hv
    refine ⟨.ref a, rfl, 1, rfl, a, _, rfl, ha, fun r1 H1 s1 h1 => ?_⟩
    rw [cut_tail, ← List.map_drop] at h1
    refine ⟨r1, rfl, ⟨_, SqT.of h1⟩, fun L nL => ?_⟩
    have et : c.drop 1 = c.tail := by cases c <;> rfl
    rw [et] at h1
    refine lc_tup (xs := c.tail.map V.int) (fun j H' => H' L = some (.lst (((c.tail.take j).filter fun x => decide (x ≠ g)).map V.int)) ∧ Same H1 H') ⟨upd_same, same_new nL⟩ (fun j H' _ h => SqT.of (h.2 _ _ h1)) ?_ ?_
    · rintro j x H2 ex ⟨hL, s2⟩
      rw [List.getElem?_map] at ex
      obtain ⟨z, ez, rfl⟩ := Option.map_eq_some_iff.mp ex
      have jl := (List.getElem?_eq_some_iff.mp ez).1
      have tl : c.tail.length ≤ c.length := by rw [List.length_tail]; omega
      refine ⟨rfl, .int z, rfl, .int g, rfl, rfl, _, rfl, ?_⟩
      have ln : (((c.tail.take j).filter fun x => decide (x ≠ g)).map V.int).length ≤ 8 := by
        rw [List.length_map]
        refine Nat.le_trans (List.length_filter_le _ _) ?_
        rw [List.length_take]
        omega
      rw [List.take_add_one, ez, List.filter_append]
      by_cases hz : z = g
      · rw [decide_eq_true (show V.int z = V.int g by rw [hz])]
        refine ⟨?_, s2⟩
        rw [hL]
        simp [hz]
      · rw [decide_eq_false (fun h : V.int z = V.int g => hz (V.int.inj h))]
        refine ⟨.int z, rfl, _, hL, small1000 (by omega), ?_, Same.mut s2 nL⟩
        rw [upd_same]
        simp [hz]
    · rintro H2 ⟨hL, s2⟩
      rw [List.length_map, List.take_length] at hL
      refine ⟨L, _, rfl, .inl ⟨SqL.of hL, fun p np => ?_⟩⟩
      exact q p _ ((s1.trans s2).trans (same_new np)) upd_same
set_option maxHeartbeats 4000000 in
theorem ok_even_choices {f : Addr} {fd : FuncData} (F : Fun K "even_choices" "even_choices" s_even_choices f fd) (M : Free mg) (m_sorted : mg "sorted" = none) : FnOk P w K mg base CX0 1 f fd ["faces"] spEvenChoices := by
  refine F.ok sc_even_choices (fun vs H Q E h => ?_) (fun cdv A outer s H vs Q E hr h => ?_)
  · obtain ⟨o, fs, rfl, _⟩ := h
    rfl
  · obtain ⟨o, fs, rfl, ho, l8, q⟩ := h
    refine ⟨_, (pss_cons (ps_set (i := 1) sc_even_choices.nd rfl (.inl rfl) (pe_lst (pa_cons (pe_tup pa_nil) pa_nil)))
      (pss_cons (ps_for PassesOwn.never rfl (pi_tup (pv 0)) (pg_name (i := 2) sc_even_choices.nd rfl (.inr rfl))
        (pss_one (ps_set (i := 1) sc_even_choices.nd rfl (.inl rfl) (pe_op op_cat (pv 1) (pe_lc (own := [("choice", 3)]) (g := (gName 3)) (tt := tYes) rfl sc_even_choices.nd (pi_list (pv 1)) (blkOk_by (N := N_even_choices) (sc := defScope s_even_choices) (own := [("choice", 3)]) (by decide +kernel)) (fun _ _ _ _ _ => (pg_name (i := 3) sc_even_choices.nd rfl (.inl rfl))) (fun _ _ _ _ _ => pts_nil) (fun _ _ _ _ _ => (pe_tup (t := StX.tStar K (tVar 3) (tCons (tVar 2) tNil)) (StX.pa_star (pv 3) (pa_cons (pv 2) pa_nil)))))))))
      (pss_one (ps_ret (pe_callB (cr_sortedD (room65 hr)) (by rfl) m_sorted (by decide +kernel) (pa_cons (pe_lc (own := [("choice", 3)]) (g := (gName 3)) (te := tVar 3) rfl sc_even_choices.nd (pi_list (pv 1)) (blkOk_by (N := N_even_choices) (sc := defScope s_even_choices) (own := [("choice", 3)]) (by decide +kernel)) (fun _ _ _ _ _ => (pg_name (i := 3) sc_even_choices.nd rfl (.inl rfl))) (fun _ _ _ _ _ => (pts_one (PW.pt (pw_and (pt_cmpR (r := rNeD K) (op_neD hr.units) (pv 3) (pe_tup pa_nil) (nomark _)) (pw_and1 (pt_cmpR op_eq (pe_op op_mod (pe_callB (r := rLenK54 K) call_len_seq (by rfl) M.len PySem.boot_len (pa_cons (pv 3) pa_nil)) pe_int) pe_int (nomark _))))))) (fun _ _ _ _ _ => (pv 3))) pa_nil)))))), ?_⟩
    refine ⟨Nat.zero_le _, fun e0 n0 => ⟨by show 1 ≤ sizeLine; decide, fun L0 nL0 => ?_⟩⟩
    have nL0H : H L0 = none := by
      have := nL0
      by_cases z : L0 = e0
      · rw [z, upd_same] at this
        cases this
      · rwa [upd_ne z] at this
    have s0 := (same_new (o := .tup []) n0).trans (same_new (o := .lst [.ref e0]) nL0)
    have hL0 := upd_same (H := upd H e0 (.tup [])) (a := L0) (o := .lst [.ref e0])
    have he0 : (upd (upd H e0 (.tup [])) L0 (.lst [.ref e0])) e0 = some (.tup []) := same_new nL0 _ _ upd_same
    generalize upd (upd H e0 (.tup [])) L0 (.lst [.ref e0]) = H0 at s0 hL0 he0
    refine ⟨.ref o, rfl, o, rfl, ⟨_, SqT.of (s0 _ _ ho)⟩, ?_⟩
    refine for_tup (xs := fs.map V.int) (fun i σ' H' => ∃ (L : Addr) (ys : List V) (y2 y3 : Option V), σ' = [some (.ref o), some (.ref L), y2, y3] ∧ H' L = some (.lst ys) ∧ H L = none ∧ Paired (IntsV H') ys (chs (fs.take i)) ∧ Same H H') ⟨L0, _, _, _, rfl, hL0, nL0H, .cons ⟨e0, rfl, he0⟩ .nil, s0⟩ (fun i σ' H' _ ⟨_, _, _, _, _, _, _, _, s⟩ => SqT.of (s _ _ ho)) ?_ ?_
    · rintro i x σ' H2 ex ⟨L, ys, y2, y3, rfl, hL, nL, hp, s2⟩
      rw [List.getElem?_map] at ex
      obtain ⟨z, ez, rfl⟩ := Option.map_eq_some_iff.mp ex
      have il := (List.getElem?_eq_some_iff.mp ez).1
      have ly : ys.length = 2 ^ (fs.take i).length := by rw [Paired.length hp, chs_len]
      have ly2 : ys.length ≤ 128 := by
        rw [ly, List.length_take]
        exact Nat.pow_le_pow_right (n := 2) (i := _) (j := 7) (by decide) (by omega)
      refine ⟨.ref L, rfl, .ref L, rfl, L, rfl, ⟨ys, SqL.of hL⟩, fun M nM => ?_⟩
      refine lc_list (xs := ys) (fun j H' => ∃ zs, H' M = some (.lst zs) ∧ Paired (IntsV H') zs (((chs (fs.take i)).take j).map (· ++ [z])) ∧ Same H2 H') ⟨[], upd_same, .nil, same_new nM⟩ (fun j H' _ ⟨_, _, _, s⟩ => SqL.of (s _ _ hL)) ?_ ?_
      · rintro j x H3 ex ⟨zs, hM, hz, s3⟩
        obtain ⟨c, ec, a, rfl, ha⟩ := Paired.at hp ex
        have jl := (List.getElem?_eq_some_iff.mp ex).1
        have cl : c.length ≤ 8 := by
          have := (mem_chs.mp (List.mem_of_getElem? ec)).length_le
          rw [List.length_take] at this
          omega
        have lz : zs.length ≤ 128 := by
          have := Paired.length hz
          rw [List.length_map, List.length_take] at this
          omega
        refine ⟨rfl, .ref a, rfl, a, _, rfl, .inl (SqT.of (s3 _ _ ha)), .int z, rfl, by rw [List.length_append, List.length_map]; exact small1000 (by omega), fun p np => ?_⟩
        have sp := same_new (o := .tup (c.map V.int ++ [.int z])) np
        have hM4 := sp _ _ hM
        have hz4 : Paired (IntsV (upd H3 p (.tup (c.map V.int ++ [.int z])))) zs _ := Paired.mono (fun _ _ x => x.tk (Same.tk sp)) hz
        have hp4 := upd_same (H := H3) (a := p) (o := .tup (c.map V.int ++ [.int z]))
        have s4 := s3.trans sp
        generalize upd H3 p (.tup (c.map V.int ++ [.int z])) = H4 at sp hM4 hz4 hp4 s4
        have tk := tk_lst (ys := zs ++ [.ref p]) hM4
        refine ⟨zs, hM4, small1000 (by omega), zs ++ [.ref p], upd_same, ?_, Same.mut s4 nM⟩
        rw [List.take_add_one, ec, List.map_append]
        exact Paired.snoc (Paired.mono (fun _ _ x => x.tk tk) hz4) ⟨p, rfl, by rw [tk _ _ hp4, List.map_append]; rfl⟩
      · rintro H3 ⟨zs, hM, hz, s3⟩
        rw [Paired.length hp, List.take_length] at hz
        have lz : zs.length = ys.length := by rw [Paired.length hz, List.length_map, Paired.length hp]
        refine ⟨L, M, ys, zs, rfl, rfl, s3 _ _ hL, hM, Nat.le_of_lt (small1000 (show ys.length + zs.length ≤ 1000 by omega)), fun N nN => ?_⟩
        have sN := same_new (o := .lst (ys ++ zs)) nN
        have s5 := (s2.trans s3).trans sN
        refine ⟨N, ys ++ zs, _, _, rfl, upd_same, (s2.trans s3).free nN, ?_, s5⟩
        rw [chs_take ez]
        exact Paired.app2F (Paired.mono (fun _ _ x => x.tk (Same.tk (s3.trans sN))) hp) (Paired.mono (fun _ _ x => x.tk (Same.tk sN)) hz)
    · rintro σ' H2 ⟨L, ys, y2, y3, rfl, hL, nL, hp, s2⟩
      rw [List.length_map, List.take_length] at hp
      have ly : ys.length ≤ 256 := by
        rw [Paired.length hp, chs_len]
        exact Nat.pow_le_pow_right (n := 2) (i := _) (j := 8) (by decide) l8
      refine ⟨.ref L, rfl, L, rfl, ⟨ys, SqL.of hL⟩, fun M nM => ?_⟩
      refine lc_list (xs := ys) (fun j H' => ∃ zs, H' M = some (.lst zs) ∧ Paired (IntsV H') zs (((chs fs).take j).filter evenC) ∧ Same H2 H') ⟨[], upd_same, .nil, same_new nM⟩ (fun j H' _ ⟨_, _, _, s⟩ => SqL.of (s _ _ hL)) ?_ ?_
      · rintro j x H3 ex ⟨zs, hM, hz, s3⟩
        obtain ⟨c, ec, a, rfl, ha⟩ := Paired.at hp ex
        have jl := (List.getElem?_eq_some_iff.mp ex).1
        have lz : zs.length ≤ 256 := by
          have h1 := Paired.length hz
          have h2 := List.length_filter_le evenC ((chs fs).take j)
          rw [List.length_take] at h2
          omega
        have ev : ((chs fs).take (j + 1)).filter evenC = ((chs fs).take j).filter evenC ++ if evenC c = true then [c] else [] := by
          rw [List.take_add_one, ec, List.filter_append]
          congr 1
          show List.filter evenC [c] = _
          rw [List.filter_cons, List.filter_nil]
        refine ⟨rfl, .ref a, rfl, by show 0 ≤ sizeLine; decide, fun p np => ?_⟩
        have sp := same_new (o := .tup []) np
        have hp0 := upd_same (H := H3) (a := p) (o := .tup [])
        have s4 := s3.trans sp
        have hM4 := sp _ _ hM
        have hz4 : Paired (IntsV (upd H3 p (.tup []))) zs _ := Paired.mono (fun _ _ x => x.tk (Same.tk sp)) hz
        generalize upd H3 p (.tup []) = H4 at sp hp0 s4 hM4 hz4
        refine ⟨intsD c, intsD [], IntsV.dp ⟨a, rfl, s4 _ _ ha⟩, IntsV.dp ⟨p, rfl, hp0⟩, shaped_intsD _, shaped_intsD _, _, rfl, ?_⟩
        rw [eqv_noneI]
        have fin : evenC c = true ∨ evenC c = false := by cases evenC c <;> simp
        by_cases hc : c = []
        · rw [decide_eq_true hc]
          have e1 : evenC c = false := by unfold evenC; rw [decide_eq_false (fun z => z hc)]; rfl
          rw [e1, if_neg (by simp), List.append_nil] at ev
          exact ⟨zs, hM4, by rw [ev]; exact hz4, s4⟩
        · rw [decide_eq_false hc]
          refine ⟨.ref a, rfl, a, _, rfl, .inr (SqT.of (s4 _ _ ha)), _, 2, rfl, rfl, show (0 : Int) < 2 by decide, rfl, _, rfl, ?_⟩
          rw [List.length_map]
          have e1 : decide (V.int ((c.length : Nat) % 2 : Int) = V.int 0) = evenC c := by
            unfold evenC
            rw [decide_eq_true (show c ≠ [] from hc), Bool.true_and, decide_eq_decide]
            constructor
            · intro h
              have := V.int.inj h
              omega
            · intro h
              rw [show ((c.length : Nat) : Int) % 2 = 0 by omega]
          rw [e1]
          have tk := tk_lst (ys := zs ++ [.ref a]) hM4
          cases e2 : evenC c with
          | true =>
            rw [e2, if_pos rfl] at ev
            refine ⟨.ref a, rfl, zs, hM4, small1000 (by omega), zs ++ [.ref a], upd_same, ?_, Same.mut s4 nM⟩
            rw [ev]
            exact Paired.snoc (Paired.mono (fun _ _ x => x.tk tk) hz4) ⟨a, rfl, tk _ _ (s4 _ _ ha)⟩
          | false =>
            rw [e2, if_neg (by simp), List.append_nil] at ev
            exact ⟨zs, hM4, by rw [ev]; exact hz4, s4⟩
      · rintro H3 ⟨zs, hM, hz, s3⟩
        rw [Paired.length hp, List.take_length] at hz
        refine ⟨M, zs, _, rfl, SqL.of hM, hz, fun c hc => ?_, fun N vs nN hv => ?_⟩
        · have := (List.mem_filter.mp hc).2
          unfold evenC at this
          rw [Bool.and_eq_true, decide_eq_true_iff] at this
          exact this.1
        · have sN := same_new (o := .lst vs) nN
          exact q N vs _ ((s2.trans s3).trans sN) ((s2.trans s3).free nN) upd_same (Paired.mono (fun _ _ x => x.tk (Same.tk sN)) hv)
end
/-! ### things of any kind, by depth -/
def PapV : Nat → Hp → V → Prop
  | 0, H, v => Kn H v ∧ parts H v = none
  | d + 1, H, v => Kn H v ∧ ∀ xs, parts H v = some xs → (∀ x ∈ xs, PapV d H x) ∧ xs.length ≤ 1000
theorem PapV.kn {d : Nat} {H : Hp} {v : V} (h : PapV d H v) : Kn H v := by
  cases d with
  | zero => exact h.1
  | succ d => exact h.1
theorem PapV.up : ∀ {d : Nat} {H : Hp} {v : V}, PapV d H v → PapV (d + 1) H v
  | 0, H, v, h => ⟨h.1, fun xs e => by rw [h.2] at e; cases e⟩
  | d + 1, H, v, h => ⟨h.1, fun xs e => ⟨fun x hx => PapV.up ((h.2 xs e).1 x hx), (h.2 xs e).2⟩⟩
theorem PapV.mono {d e : Nat} (l : d ≤ e) {H : Hp} {v : V} (h : PapV d H v) : PapV e H v := by
  induction l with
  | refl => exact h
  | step _ ih => exact ih.up
theorem PapV.row {d : Nat} {H : Hp} {v : V} (h : PapV d H v) : RowK H v := by
  have h := h.up
  exact ⟨h.1, fun ys e => ⟨fun y hy => ((h.2 ys e).1 y hy).kn, (h.2 ys e).2⟩⟩
def StayP (H H' : Hp) : Prop := ∀ u, Kn H u → Kn H' u ∧ parts H' u = parts H u
theorem StayP.kt {Ps : List Addr} {H H' : Hp} (k : Kt Ps H H') (t : Tabs Ps H) : StayP H H' := fun u h => ⟨k.kn t h, kt_kn_parts k t h⟩
theorem StayP.same {H H' : Hp} (s : Same H H') : StayP H H' := fun u h => by
  cases u with
  | ref a =>
    rcases h with ⟨xs, h⟩ | ⟨xs, h⟩ | ⟨xs, h⟩
    · exact ⟨.inl ⟨xs, s _ _ h⟩, by unfold parts; simp only [h, s _ _ h]⟩
    · exact ⟨.inr (.inl ⟨xs, h.same s⟩), (parts_of' (h.same s)).trans (parts_of' h).symm⟩
    · obtain ⟨h, d⟩ := h
      have h' := s _ _ h
      refine ⟨.inr (.inr ⟨xs, h', d⟩), ?_⟩
      unfold parts
      cases xs with
      | dK kvs => simp only [h, h']
      | dT kvs => simp only [h, h']
      | _ => exact d.elim
  | _ => exact ⟨h, rfl⟩
theorem StayP.trans {H H1 H2 : Hp} (a : StayP H H1) (b : StayP H1 H2) : StayP H H2 := fun u h => ⟨(b u (a u h).1).1, ((b u (a u h).1).2).trans (a u h).2⟩
theorem PapV.stay : ∀ {d : Nat} {H H' : Hp} {v : V}, PapV d H v → StayP H H' → PapV d H' v
  | 0, H, H', v, h, s => ⟨(s v h.1).1, (s v h.1).2.trans h.2⟩
  | d + 1, H, H', v, h, s => ⟨(s v h.1).1, fun xs e => by
    rw [(s v h.1).2] at e
    exact ⟨fun x hx => PapV.stay ((h.2 xs e).1 x hx) s, (h.2 xs e).2⟩⟩
def PapA (H : Hp) (v : V) : Prop := ∃ d, PapV d H v
theorem PapA.kn {H : Hp} {v : V} (h : PapA H v) : Kn H v := let ⟨_, h⟩ := h; h.kn
theorem PapA.row {H : Hp} {v : V} (h : PapA H v) : RowK H v := let ⟨_, h⟩ := h; h.row
theorem PapA.stay {H H' : Hp} {v : V} (h : PapA H v) (s : StayP H H') : PapA H' v := let ⟨d, h⟩ := h; ⟨d, h.stay s⟩
theorem PapA.at' {H : Hp} {v : V} {xs : List V} (h : PapA H v) (e : parts H v = some xs) : (∀ x ∈ xs, PapA H x) ∧ xs.length ≤ 1000 := by
  obtain ⟨d, h⟩ := h
  have h := h.up
  exact ⟨fun x hx => ⟨d, (h.2 xs e).1 x hx⟩, (h.2 xs e).2⟩
/-! ### what a flat paper shows -/
def toZ : V → Int
  | .int z => z
  | _ => 0
def valZ (xs : List V) (i : Int) : Int := toZ (xs.getD i.toNat .non)
def absZ (i : Int) : Int := if i < 0 then -i else i
abbrev Gap := Int × Int × Int
def layB (H : Hp) (gaps : List Gap) (m : Nat) (f : Int) (v : V) : Bool := match parts H v with
  | none => false
  | some xs => decide (xs.length = m) && (xs.all (wfrom 0) && (decide (valZ xs f = 0) && gaps.all fun g => decide (absZ (valZ xs g.1 - valZ xs g.2.1) ≤ g.2.2)))
def trowZ (H : Hp) (c : List Int) (r : V) : Option Int := match parts H r with
  | some [k, .int z] => if parts H k = some (c.map V.int) ∧ 0 ≤ z then some z else none
  | _ => none
def tabS (H : Hp) : List (List Int) → List V → Option (List Int)
  | [], [] => some []
  | c :: cs, r :: rs => match trowZ H c r, tabS H cs rs with
    | some z, some zs => some (z :: zs)
    | _, _ => none
  | _, _ => none
def tabB (H : Hp) (cs : List (List Int)) (v : V) : Option (List Int) := match parts H v with
  | none => none
  | some rows => tabS H cs rows
def numF (odd : List Int) (zs : List Int) (c : List Int) : Int := lkC ((evs odd).zip zs ++ [([], 0)]) c
def lyAt (odd : List Int) (ls : List V) (f : Int) : V := ((((odd.zip ls).find? fun e => decide (e.1 = f)).map (·.2))).getD .non
def layI (H : Hp) (odd : List Int) (ls : List V) (f g : Int) : Int := valZ ((parts H (lyAt odd ls f)).getD []) g
def shownF (H : Hp) (odd : List Int) (m : Nat) (gaps : List Gap) (v : V) : Option Int := match parts H v with
  | some [l, t] => match parts H l with
    | some ls => if ls.length = odd.length then match tabB H (evs odd) t with
        | some zs => if (odd.zip ls).all (fun p => layB H gaps m p.1 p.2) && (evs odd).all (rowH (layI H odd ls) (numF odd zs)) then some (numF odd zs odd) else none
        | none => none
      else none
    | none => none
  | _ => none
def GapV (H : Hp) (v : V) (g : Gap) : Prop := ∃ a, v = .ref a ∧ H a = some (.tup [.int g.1, .int g.2.1, .int g.2.2])
theorem GapV.tk {H H' : Hp} (k : Tk H H') {v : V} {g : Gap} (h : GapV H v g) : GapV H' v g := let ⟨a, e, h⟩ := h; ⟨a, e, k _ _ h⟩
def spLayerH (Ps : List Addr) : Sp := fun vs H Q _ => ∃ (f : Int) (G : Addr) (gys : List V) (gaps : List Gap) (m : Nat) (v : V), vs = [.int f, .ref G, .int m, v] ∧ H G = some (.lst gys) ∧ Paired (GapV H) gys gaps ∧ (∀ g ∈ gaps, (0 ≤ g.1 ∧ g.1 < (m : Int)) ∧ 0 ≤ g.2.1 ∧ g.2.1 < (m : Int)) ∧ (0 ≤ f ∧ f < (m : Int)) ∧ RowK H v ∧ Tabs Ps H ∧
  ∀ H', Kt Ps H H' → Q (.bl (layB H gaps m f v)) H'
def spIsTable (Ps : List Addr) : Sp := fun vs H Q _ => ∃ (L : Addr) (ys : List V) (cs : List (List Int)) (m : Nat) (v : V), vs = [.ref L, .int m, v] ∧ H L = some (.lst ys) ∧ Paired (IntsV H) ys cs ∧ cs.length ≤ 256 ∧ (∀ c ∈ cs, c.Pairwise (· < ·) ∧ ∀ x ∈ c, 0 ≤ x ∧ x < (m : Int)) ∧ PapA H v ∧ Tabs Ps H ∧
  ∀ H', Kt Ps H H' → Q (.bl (tabB H cs v).isSome) H'
theorem wfrom_int {v : V} (h : wfrom 0 v = true) : ∃ z, v = .int z ∧ 0 ≤ z := by
  cases v with
  | int z => exact ⟨z, rfl, of_decide_eq_true h⟩
  | _ => cases h
theorem valZ_at {xs : List V} (h : xs.all (wfrom 0) = true) {i : Int} (h0 : 0 ≤ i) (h1 : i < (xs.length : Int)) : atI xs i = some (.int (valZ xs i)) := by
  have l : i.toNat < xs.length := by omega
  have e := List.getElem?_eq_getElem l
  obtain ⟨z, ez, _⟩ := wfrom_int (List.all_eq_true.mp h _ (List.mem_of_getElem? e))
  unfold valZ
  rw [List.getD_eq_getElem?_getD, e]
  show atI xs i = some (.int (toZ xs[i.toNat]))
  have a := atI_nat e
  rw [show ((i.toNat : Nat) : Int) = i by omega] at a
  rw [a, ez]
  rfl
section
variable {P : Program} {w : World} {K : PySem.W.Frag} {mg : Str → Option Value} {base : Heap}
set_option maxHeartbeats 4000000 in
theorem ok_layer_holds {f c Pt : Addr} {fd : FuncData} {Ps : List Addr} (F : FunC K "layer_holds" "layer_holds" s_layer_holds f fd c) (TB : GxR.TabB base mg c Pt) (hPt : Pt ∈ Ps) (m_abs : mg "abs" = none) (m_all : mg "all" = none) (D_is_whole_from : Df P w K mg base 2 "is_whole_from" ["low", "thing"] spFrom) (D_is_tuple_of : Df P w K mg base 1 "is_tuple_of" ["length", "thing"] spTupleOf) : FnOk P w K mg base CX0 4 f fd ["start", "gaps", "many", "thing"] (spLayerH Ps) := by
  obtain ⟨f_is_whole_from, fd_is_whole_from, G_is_whole_from, g_is_whole_from, k_is_whole_from, b_is_whole_from⟩ := D_is_whole_from
  obtain ⟨f_is_tuple_of, fd_is_tuple_of, G_is_tuple_of, g_is_tuple_of, k_is_tuple_of, b_is_tuple_of⟩ := D_is_tuple_of
  refine F.ok sc_layer_holds (fun vs H Q E h => ?_) (fun A outer s H vs Q E hr h => ?_)
  · obtain ⟨fc, G, gys, gaps, m, v, rfl, _⟩ := h
    rfl
  · obtain ⟨fc, G, gys, gaps, m, v, rfl, hG, hg, bg, bf, kv, hT, q⟩ := h
    refine ⟨_, (pss_cons (ps_if (PW.pt (pw_or (pt_not (pt_val (pe_call G_is_tuple_of (hr.mono (by decide)) (by rfl) g_is_tuple_of k_is_tuple_of b_is_tuple_of .nil pass0 (pa_cons (pv 2) (pa_cons (pv 3) pa_nil))))) (pw_or1 (pt_not (pt_val (pe_all (k := 2) (own := [("number", 4)]) (g := gName 4) hr TB rfl rfl sc_layer_holds.nd (by rfl) m_all (pi_tup (pv 3)) (blkOk_by (N := N_layer_holds) (sc := defScope s_layer_holds) (own := [("number", 4)]) (by decide +kernel)) ⟨rfl, by decide +kernel, by decide +kernel⟩ (show (".0" : Str) ∉ N_layer_holds by decide +kernel) (fun _ _ _ _ _ _ _ => (pg_name (i := 4) sc_layer_holds.nd rfl (.inl rfl))) (fun _ _ _ _ _ _ _ hr' => (pe_call G_is_whole_from hr' (by rfl) g_is_whole_from k_is_whole_from b_is_whole_from .nil pass0 (pa_cons pe_int (pa_cons (pv 4) pa_nil))))))))))
        (pss_one (ps_ret pe_bl))
        pss_nil)
      (pss_one (ps_ret (pe_and (pe_cmpR op_eq (pe_ix ix_tup (pv 3) (pv 0) (fun _ _ => rfl)) pe_int (nomark _)) (pe_one (pe_all (k := 2) (own := [("one", 5), ("other", 6), ("most", 7)]) (g := gTup K 3 (gCons (gName 5) (gCons (gName 6) (gCons (gName 7) gNil)))) hr TB rfl rfl sc_layer_holds.nd (by rfl) m_all (pi_list (pv 1)) (blkOk_by (N := N_layer_holds) (sc := defScope s_layer_holds) (own := [("one", 5), ("other", 6), ("most", 7)]) (by decide +kernel)) ⟨rfl, by decide +kernel, by decide +kernel⟩ (show (".0" : Str) ∉ N_layer_holds by decide +kernel) (fun _ _ _ _ _ _ _ => (pg_tup rfl (pgs_cons (pg_name (i := 5) sc_layer_holds.nd rfl (.inl rfl)) (pgs_cons (pg_name (i := 6) sc_layer_holds.nd rfl (.inl rfl)) (pgs_cons (pg_name (i := 7) sc_layer_holds.nd rfl (.inl rfl)) pgs_nil))))) (fun _ _ _ _ _ _ _ hr' => (pe_cmpR op_le (pe_callB call_abs (by rfl) m_abs (by decide +kernel) (pa_cons (pe_op op_sub (pe_ix (r := rIxT K) ix_tup (pv 3) (pv 5) (fun _ _ => rfl)) (pe_ix (r := rIxT K) ix_tup (pv 3) (pv 6) (fun _ _ => rfl))) pa_nil)) (pv 7) (nomark _))))))))), ?_⟩
    refine ⟨.int m, rfl, v, rfl, (m : Int), v, rfl, kv.1, _, rfl, ?_⟩
    cases hpv : parts H v with
    | none =>
      have e1 : lenIs H v (m : Int) = false := by unfold lenIs; rw [hpv]
      have e2 : layB H gaps m fc v = false := by unfold layB; rw [hpv]
      rw [e1]
      rw [e2] at q
      exact q _ (Kt.refl hT)
    | some xs =>
    have e1 : lenIs H v (m : Int) = decide ((xs.length : Int) = (m : Int)) := by unfold lenIs; rw [hpv]
    rw [e1]
    have e2 : layB H gaps m fc v = (decide (xs.length = m) && (xs.all (wfrom 0) && (decide (valZ xs fc = 0) && gaps.all fun g => decide (absZ (valZ xs g.1 - valZ xs g.2.1) ≤ g.2.2)))) := by
      unfold layB
      rw [hpv]
    rw [e2] at q
    by_cases hl : xs.length = m
    case neg =>
      rw [decide_eq_false (show ¬ (xs.length : Int) = (m : Int) by omega)]
      rw [decide_eq_false hl] at q
      exact q _ (Kt.refl hT)
    rw [decide_eq_true (show (xs.length : Int) = (m : Int) by omega)]
    rw [decide_eq_true hl, Bool.true_and] at q
    obtain ⟨a, rfl, ea⟩ := parts_at hpv
    refine ⟨.ref a, rfl, a, rfl, ⟨_, ea.sq⟩, ?_⟩
    refine all_gen (walk_tup (K := K) (a := a) (xs := xs)) (fun i => wfrom 0 (xs.getD i .non)) hT hPt (fun H' k => (ea.kt k hT).sq) ?_ ?_
    · rintro i x H2 H3 hi ⟨k2, al⟩ ⟨rfl, ex⟩
      refine ⟨rfl, x, rfl, 0, x, rfl, k2.kn hT ((kv.2 xs hpv).1 x (List.mem_of_getElem? ex)), _, rfl, ?_⟩
      have eg : xs.getD i .non = x := by rw [List.getD_eq_getElem?_getD, ex]; rfl
      refine all_fin (p := fun i => wfrom 0 (xs.getD i .non)) k2 al hi (congrArg (wfrom 0) eg) fun h => ⟨_, rfl, ?_⟩
      rw [all_range xs (wfrom 0) .non] at h
      rw [h] at q
      exact q _ k2
    · intro H2 k2 hall
      rw [all_range xs (wfrom 0) .non] at hall
      rw [hall, Bool.true_and] at q
      have ea2 := ea.kt k2 hT
      have hG2 := k2.lst hT hG
      have hg2 : Paired (GapV H2) gys gaps := Paired.mono (fun _ _ x => x.tk (k2.tk hT)) hg
      have lg := Paired.length hg
      refine ⟨_, rfl, .ref a, rfl, .int fc, rfl, a, xs, fc, _, rfl, rfl, ea2.sq, valZ_at hall bf.1 (by omega), rfl, _, rfl, ?_⟩
      rw [show decide (V.int (valZ xs fc) = V.int 0) = decide (valZ xs fc = 0) from decide_eq_decide.mpr ⟨fun h => V.int.inj h, fun h => by rw [h]⟩]
      cases hz : decide (valZ xs fc = 0) with
      | false =>
        rw [hz] at q
        exact q _ k2
      | true =>
      rw [hz, Bool.true_and] at q
      refine ⟨.ref G, rfl, G, rfl, ⟨_, SqL.of hG2⟩, ?_⟩
      have T2 := k2.tab
      refine all_gen (walk_list (K := K) (a := G) (xs := gys)) (fun i => decide (absZ (valZ xs (gaps.getD i (0, 0, 0)).1 - valZ xs (gaps.getD i (0, 0, 0)).2.1) ≤ (gaps.getD i (0, 0, 0)).2.2)) T2 hPt (fun H' k => SqL.of (k.lst T2 hG2)) ?_ ?_
      · rintro i x H3 H4 hi ⟨k3, al⟩ ⟨rfl, ex⟩
        obtain ⟨g, eg, c, rfl, hc⟩ := Paired.at hg2 ex
        have gm := bg g (List.mem_of_getElem? eg)
        have hc3 := k3.tup T2 hc
        have ea3 := ea2.kt k3 T2
        refine ⟨c, _, rfl, SqT.of hc3, rfl, _, _, rfl, _, _, rfl, _, _, rfl, rfl, rfl, ?_⟩
        refine ⟨.ref a, rfl, .int g.1, rfl, a, xs, g.1, _, rfl, rfl, ea3.sq, valZ_at hall gm.1.1 (by omega), .ref a, rfl, .int g.2.1, rfl, a, xs, g.2.1, _, rfl, rfl, ea3.sq, valZ_at hall gm.2.1 (by omega), _, _, rfl, rfl, _, rfl, .int g.2.2, rfl, _, _, rfl, rfl, _, rfl, ?_⟩
        have eg2 : gaps.getD i (0, 0, 0) = g := by rw [List.getD_eq_getElem?_getD, eg]; rfl
        refine all_fin (p := fun i => decide (absZ (valZ xs (gaps.getD i (0, 0, 0)).1 - valZ xs (gaps.getD i (0, 0, 0)).2.1) ≤ (gaps.getD i (0, 0, 0)).2.2)) k3 al hi (by rw [eg2]; rfl) fun h => ?_
        rw [lg, all_range gaps (fun g => decide (absZ (valZ xs g.1 - valZ xs g.2.1) ≤ g.2.2)) (0, 0, 0)] at h
        rw [h] at q
        exact q _ (k2.trans k3)
      · intro H3 k3 hall3
        rw [lg, all_range gaps (fun g => decide (absZ (valZ xs g.1 - valZ xs g.2.1) ≤ g.2.2)) (0, 0, 0)] at hall3
        rw [hall3] at q
        exact q _ (k2.trans k3)
end
/-! ### tables of rows -/
theorem rise_of {H : Hp} {m : Int} {k : V} {c : List Int} (e : parts H k = some (c.map V.int)) (pw : c.Pairwise (· < ·)) (b : ∀ x ∈ c, 0 ≤ x ∧ x < m) : riseB H m k = true := by
  unfold riseB
  rw [e]
  show ((c.map V.int).all (wbelow m) && chainB (c.map V.int)) = true
  rw [Bool.and_eq_true, List.all_eq_true]
  refine ⟨fun x hx => ?_, ?_⟩
  · obtain ⟨z, hz, rfl⟩ := List.mem_map.mp hx
    have := b z hz
    show (decide (0 ≤ z) && decide (z < m)) = true
    rw [decide_eq_true this.1, decide_eq_true this.2]
    rfl
  · unfold chainB
    rw [← List.map_drop, List.zip_map, List.all_map, List.all_eq_true]
    intro p hp
    obtain ⟨i, ei⟩ := List.getElem?_of_mem hp
    obtain ⟨e1, e2⟩ := List.getElem?_zip_eq_some.mp ei
    rw [List.getElem?_drop] at e2
    obtain ⟨l1, v1⟩ := List.getElem?_eq_some_iff.mp e1
    obtain ⟨l2, v2⟩ := List.getElem?_eq_some_iff.mp e2
    have := List.pairwise_iff_getElem.mp pw i (1 + i) l1 l2 (by omega)
    show decide (p.1 < p.2) = true
    rw [← v1, ← v2]
    exact decide_eq_true this
theorem rise_ints {H : Hp} {m : Int} {k : V} (h : riseB H m k = true) : ∃ c : List Int, parts H k = some (c.map V.int) := by
  unfold riseB at h
  cases e : parts H k with
  | none => rw [e] at h; cases h
  | some xs =>
    rw [e] at h
    have h := (Bool.and_eq_true _ _ ▸ h : _ ∧ _).1
    obtain ⟨ns, en, _⟩ := ints_of h
    exact ⟨ns, by rw [en]⟩
theorem trow_some {H : Hp} {c : List Int} {r : V} {z : Int} (h : trowZ H c r = some z) : ∃ k, parts H r = some [k, .int z] ∧ parts H k = some (c.map V.int) ∧ 0 ≤ z := by
  unfold trowZ at h
  split at h
  · rename_i k y e
    split at h
    · rename_i q
      cases h
      exact ⟨k, e, q⟩
    · cases h
  · cases h
theorem tabS_none {H : Hp} : ∀ {cs : List (List Int)} {rows : List V} {i : Nat} {c : List Int} {r : V}, cs[i]? = some c → rows[i]? = some r → trowZ H c r = none → tabS H cs rows = none
  | [], _, i, _, _, e, _, _ => by cases e
  | _ :: _, [], i, _, _, _, e, _ => by cases e
  | c :: cs, r :: rows, 0, _, _, e1, e2, h => by
    cases e1
    cases e2
    unfold tabS
    rw [h]
  | c :: cs, r :: rows, i + 1, _, _, e1, e2, h => by
    have := tabS_none (cs := cs) (rows := rows) (i := i) e1 e2 h
    unfold tabS
    rw [this]
    cases trowZ H c r <;> rfl
theorem tabS_len {H : Hp} : ∀ {cs : List (List Int)} {rows : List V} {zs : List Int}, tabS H cs rows = some zs → rows.length = cs.length ∧ zs.length = cs.length
  | [], [], _, h => by cases h; exact ⟨rfl, rfl⟩
  | [], _ :: _, _, h => by cases h
  | _ :: _, [], _, h => by cases h
  | c :: cs, r :: rows, zs, h => by
    unfold tabS at h
    cases h1 : trowZ H c r with
    | none => rw [h1] at h; cases h
    | some z =>
      cases h2 : tabS H cs rows with
      | none => rw [h1, h2] at h; cases h
      | some ys =>
        rw [h1, h2] at h
        cases h
        have := tabS_len h2
        exact ⟨by rw [List.length_cons, List.length_cons, this.1], by rw [List.length_cons, List.length_cons, this.2]⟩
/-- rows that are pairs of a tuple of ints and a number from 0 on -/
def RowR2 (H : Hp) (r : V) (x : List Int × Int) : Prop := ∃ k, parts H r = some [k, .int x.2] ∧ parts H k = some (x.1.map V.int) ∧ 0 ≤ x.2
theorem mapint_inj {a b : List Int} (h : a.map V.int = b.map V.int) : a = b := List.map_inj_right (fun _ _ e => V.int.inj e) |>.mp h
theorem tabS_rows {H : Hp} : ∀ {cs : List (List Int)} {rows : List V} {xs : List (List Int × Int)}, Paired (RowR2 H) rows xs → tabS H cs rows = if cs = xs.map (·.1) then some (xs.map (·.2)) else none
  | [], _, _, .nil => rfl
  | _ :: _, _, _, .nil => rfl
  | [], _, _, .cons _ _ => rfl
  | c :: cs, _, x :: xs, .cons (l₁ := rows) h t => by
    obtain ⟨k, h1, h2, h3⟩ := h
    have ih := tabS_rows (cs := cs) t
    unfold tabS
    rw [ih]
    unfold trowZ
    rw [h1]
    show (match (if parts H k = some (c.map V.int) ∧ 0 ≤ x.2 then some x.2 else none), _ with | some z, some zs => some (z :: zs) | _, _ => none) = _
    rw [h2]
    by_cases e : c = x.1
    · subst e
      rw [if_pos ⟨rfl, h3⟩]
      by_cases e2 : cs = xs.map (·.1)
      · rw [if_pos e2, if_pos (by rw [List.map_cons, e2])]
        rfl
      · rw [List.map_cons, if_neg e2, if_neg (fun z => e2 (List.cons.inj z).2)]
    · rw [List.map_cons, if_neg (fun z => e (mapint_inj (Option.some.inj z.1)).symm), if_neg (fun z => e (List.cons.inj z).1)]
/-- a tuple of ints, whether or not it is known to have no dict -/
def IntsA (H : Hp) (v : V) (c : List Int) : Prop := ∃ a, v = .ref a ∧ TupA H a (c.map V.int)
theorem IntsA.same {H H' : Hp} (s : Same H H') {v : V} {c : List Int} (h : IntsA H v c) : IntsA H' v c := let ⟨a, e, h⟩ := h; ⟨a, e, h.same s⟩
theorem dpall_intsA {K : PySem.W.Frag} {H : Hp} : ∀ c : List Int, DpAll K H (c.map V.int) (c.map PyData.int)
  | [] => .nil
  | x :: c => .cons (.int x) (dpall_intsA c)
theorem IntsA.dp {K : PySem.W.Frag} {H : Hp} {v : V} {c : List Int} (h : IntsA H v c) : Dp K H v (intsD c) := by
  obtain ⟨a, rfl, h⟩ := h
  exact .tup h.sq (dpall_intsA c)
theorem dp_intssA {K : PySem.W.Frag} {H : Hp} : ∀ {xs : List V} {cs : List (List Int)}, Paired (IntsA H) xs cs → DpAll K H xs (cs.map intsD)
  | _, _, .nil => .nil
  | _, _, .cons h t => .cons h.dp (dp_intssA t)
theorem TupA.mut {H : Hp} {p Z : Addr} {xs ys zs : List V} (h : TupA H p xs) (hZ : H Z = some (.lst ys)) : TupA (upd H Z (.lst zs)) p xs := by
  rcases h with h | ⟨o, od, h⟩
  · exact .inl (by rw [upd_ne (fun z => by rw [z, hZ] at h; cases h)]; exact h)
  · exact .inr ⟨o, od, by rw [upd_ne (fun z => by rw [z, hZ] at h; cases h)]; exact h⟩
theorem IntsA.mut {H : Hp} {Z : Addr} {ys zs : List V} (hZ : H Z = some (.lst ys)) {v : V} {c : List Int} (h : IntsA H v c) : IntsA (upd H Z (.lst zs)) v c := let ⟨a, e, h⟩ := h; ⟨a, e, h.mut hZ⟩
theorem eqvAll_intsF : ∀ xs ys : List Int, PyData.eqvAll (xs.map PyData.int) (ys.map PyData.int) = decide (xs = ys)
  | [], [] => by simp [PyData.eqvAll]
  | [], _ :: _ => by simp [PyData.eqvAll]
  | _ :: _, [] => by simp [PyData.eqvAll]
  | x :: xs, y :: ys => by
    rw [List.map_cons, List.map_cons, PyData.eqvAll, eqvAll_intsF xs ys, PyData.eqv]
    by_cases h : x = y <;> by_cases h2 : xs = ys <;> simp [h, h2]
theorem eqv_intsF (xs ys : List Int) : PyData.eqv (intsD xs) (intsD ys) = decide (xs = ys) := by
  unfold intsD
  rw [PyData.eqv, eqvAll_intsF]
theorem eqvAll_intss : ∀ xs ys : List (List Int), PyData.eqvAll (xs.map intsD) (ys.map intsD) = decide (xs = ys)
  | [], [] => by simp [PyData.eqvAll]
  | [], _ :: _ => by simp [PyData.eqvAll]
  | _ :: _, [] => by simp [PyData.eqvAll]
  | x :: xs, y :: ys => by
    rw [List.map_cons, List.map_cons, PyData.eqvAll, eqvAll_intss xs ys, eqv_intsF]
    by_cases h : x = y <;> by_cases h2 : xs = ys <;> simp [h, h2]
def listsD (cs : List (List Int)) : PyData := .list (cs.map intsD)
theorem eqv_lists (xs ys : List (List Int)) : PyData.eqv (listsD xs) (listsD ys) = decide (xs = ys) := by
  unfold listsD
  rw [PyData.eqv, eqvAll_intss]
theorem lay_intss : ∀ cs : List (List Int), PyData.canLayAll0 (cs.map intsD) = true
  | [] => by simp [PyData.canLayAll0]
  | c :: cs => by rw [List.map_cons, PyData.canLayAll0, lay_intsD, lay_intss cs]; rfl
theorem deep_intss : ∀ cs : List (List Int), PyData.depthAll (cs.map intsD) ≤ 1
  | [] => by simp [PyData.depthAll]
  | c :: cs => by
    have := deep_intss cs
    rw [List.map_cons, PyData.depthAll, deep_intsD]
    omega
theorem shaped_lists (cs : List (List Int)) : SeqAt.shaped (listsD cs) = true := by
  have h := deep_intss cs
  have d : (listsD cs).depth ≤ 2 := by
    unfold listsD
    rw [PyData.depth]
    omega
  have l : (listsD cs).canLay0 = true := by
    unfold listsD
    rw [PyData.canLay0, lay_intss]
  unfold SeqAt.shaped
  rw [l]
  simp
  omega
section
variable {P : Program} {w : World} {K : PySem.W.Frag} {mg : Str → Option Value} {base : Heap}
set_option maxHeartbeats 4000000 in
theorem ok_is_table {f c Pt : Addr} {fd : FuncData} {Ps : List Addr} (F : FunC K "is_table" "is_table" s_is_table f fd c) (TB : GxR.TabB base mg c Pt) (hPt : Pt ∈ Ps) (M : Free mg) (m_all : mg "all" = none) (D_is_tuple_of : Df P w K mg base 1 "is_tuple_of" ["length", "thing"] spTupleOf) (D_is_whole_from : Df P w K mg base 2 "is_whole_from" ["low", "thing"] spFrom) (D_are_rising_below : Df P w K mg base 4 "are_rising_below" ["limit", "thing"] (spRising Ps)) : FnOk P w K mg base CX0 6 f fd ["choices", "many", "thing"] (spIsTable Ps) := by
  obtain ⟨f_is_tuple_of, fd_is_tuple_of, G_is_tuple_of, g_is_tuple_of, k_is_tuple_of, b_is_tuple_of⟩ := D_is_tuple_of
  obtain ⟨f_is_whole_from, fd_is_whole_from, G_is_whole_from, g_is_whole_from, k_is_whole_from, b_is_whole_from⟩ := D_is_whole_from
  obtain ⟨f_are_rising_below, fd_are_rising_below, G_are_rising_below, g_are_rising_below, k_are_rising_below, b_are_rising_below⟩ := D_are_rising_below
  refine F.ok sc_is_table (fun vs H Q E h => ?_) (fun A outer s H vs Q E hr h => ?_)
  · obtain ⟨L, ys, cs, m, v, rfl, _⟩ := h
    rfl
  · obtain ⟨L, ys, cs, m, v, rfl, hL, hys, l256, bc, pa, hT, q⟩ := h
    refine ⟨_, (pss_cons (ps_if (PW.pt (pw_or (pt_not (pt_val (pe_call G_is_tuple_of (hr.mono (by decide)) (by rfl) g_is_tuple_of k_is_tuple_of b_is_tuple_of .nil pass0 (pa_cons (pe_callB call_len_seq (by rfl) M.len PySem.boot_len (pa_cons (pv 0) pa_nil)) (pa_cons (pv 2) pa_nil))))) (pw_or1 (pt_not (pt_val (pe_all (k := 4) (own := [("row", 3)]) (g := gName 3) hr TB rfl rfl sc_is_table.nd (by rfl) m_all (pi_tup (pv 2)) (blkOk_by (N := N_is_table) (sc := defScope s_is_table) (own := [("row", 3)]) (by decide +kernel)) ⟨rfl, by decide +kernel, by decide +kernel⟩ (show (".0" : Str) ∉ N_is_table by decide +kernel) (fun _ _ _ _ _ _ _ => (pg_name (i := 3) sc_is_table.nd rfl (.inl rfl))) (fun _ _ _ _ _ _ _ hr' => (pe_call G_is_tuple_of (hr'.mono (by decide)) (by rfl) g_is_tuple_of k_is_tuple_of b_is_tuple_of .nil pass0 (pa_cons pe_int (pa_cons (pv 3) pa_nil))))))))))
        (pss_one (ps_ret pe_bl))
        pss_nil)
      (pss_cons (ps_if (pt_not (pt_val (pe_all (k := 4) (own := [("row", 3)]) (g := gName 3) hr TB rfl rfl sc_is_table.nd (by rfl) m_all (pi_tup (pv 2)) (blkOk_by (N := N_is_table) (sc := defScope s_is_table) (own := [("row", 3)]) (by decide +kernel)) ⟨rfl, by decide +kernel, by decide +kernel⟩ (show (".0" : Str) ∉ N_is_table by decide +kernel) (fun _ _ _ _ _ _ _ => (pg_name (i := 3) sc_is_table.nd rfl (.inl rfl))) (fun _ _ _ _ _ _ _ hr' => (pe_and (pe_call G_are_rising_below (hr'.mono (by decide)) (by rfl) g_are_rising_below k_are_rising_below b_are_rising_below .nil pass0 (pa_cons (pv 1) (pa_cons (pe_ix (r := rIxT K) ix_tup (pv 3) pe_int (fun _ _ => rfl)) pa_nil))) (pe_one (pe_call G_is_whole_from (hr'.mono (by decide)) (by rfl) g_is_whole_from k_is_whole_from b_is_whole_from .nil pass0 (pa_cons pe_int (pa_cons (pe_ix (r := rIxT K) ix_tup (pv 3) pe_int (fun _ _ => rfl)) pa_nil)))))))))
        (pss_one (ps_ret pe_bl))
        pss_nil)
      (pss_one (ps_ret (pe_cmpR (op_eqD hr.units) (pv 0) (pe_lc (own := [("row", 3)]) (g := (gName 3)) (tt := tYes) rfl sc_is_table.nd (pi_tup (pv 2)) (blkOk_by (N := N_is_table) (sc := defScope s_is_table) (own := [("row", 3)]) (by decide +kernel)) (fun _ _ _ _ _ => (pg_name (i := 3) sc_is_table.nd rfl (.inl rfl))) (fun _ _ _ _ _ => pts_nil) (fun _ _ _ _ _ => (pe_ix (r := rIxT K) ix_tup (pv 3) pe_int (fun _ _ => rfl)))) (nomark _)))))), ?_⟩
    have ly : ys.length = cs.length := Paired.length hys
    refine ⟨.ref L, rfl, L, ys, rfl, .inl (SqL.of hL), v, rfl, _, v, rfl, pa.kn, _, rfl, ?_⟩
    cases hpv : parts H v with
    | none =>
      have e1 : lenIs H v (ys.length : Nat) = false := by unfold lenIs; rw [hpv]
      have e2 : tabB H cs v = none := by unfold tabB; rw [hpv]
      rw [e1]
      rw [e2] at q
      exact q _ (Kt.refl hT)
    | some rows =>
    have e1 : lenIs H v (ys.length : Nat) = decide ((rows.length : Int) = (ys.length : Nat)) := by unfold lenIs; rw [hpv]
    have e2 : tabB H cs v = tabS H cs rows := by unfold tabB; rw [hpv]
    rw [e1]
    rw [e2] at q
    by_cases hl : rows.length = cs.length
    case neg =>
      rw [decide_eq_false (show ¬ (rows.length : Int) = (ys.length : Nat) by omega)]
      have : tabS H cs rows = none := by
        cases h : tabS H cs rows with
        | none => rfl
        | some zs => exact absurd (tabS_len h).1 hl
      rw [this] at q
      exact q _ (Kt.refl hT)
    rw [decide_eq_true (show (rows.length : Int) = (ys.length : Nat) by omega)]
    obtain ⟨a, rfl, ea⟩ := parts_at hpv
    have pr := pa.at' hpv
    refine ⟨.ref a, rfl, a, rfl, ⟨_, ea.sq⟩, ?_⟩
    -- a row that is none
    have bad : ∀ {i : Nat} {r : V}, rows[i]? = some r → (∀ c, c ∈ cs → trowZ H c r = none) → tabS H cs rows = none := fun {i r} er h => by
      have il := (List.getElem?_eq_some_iff.mp er).1
      have ec : cs[i]? = some (cs[i]'(by omega)) := List.getElem?_eq_getElem _
      exact tabS_none ec er (h _ (List.mem_of_getElem? ec))
    refine all_gen (walk_tup (K := K) (a := a) (xs := rows)) (fun i => lenIs H (rows.getD i .non) 2) hT hPt (fun H' k => (ea.kt k hT).sq) ?_ ?_
    · rintro i r H2 H3 hi ⟨k2, al⟩ ⟨rfl, er⟩
      have pk := (pr.1 r (List.mem_of_getElem? er)).kn
      have eg : rows.getD i .non = r := by rw [List.getD_eq_getElem?_getD, er]; rfl
      have el : lenIs H3 r 2 = lenIs H r 2 := by unfold lenIs; rw [kt_kn_parts k2 hT pk]
      refine ⟨rfl, r, rfl, 2, r, rfl, k2.kn hT pk, _, rfl, ?_⟩
      refine all_fin (p := fun i => lenIs H (rows.getD i .non) 2) k2 al hi (by rw [el, eg]) fun h => ⟨_, rfl, ?_⟩
      obtain ⟨r', hr', h'⟩ : ∃ r' ∈ rows, lenIs H r' 2 = false := by
        rw [all_range rows (fun r => lenIs H r 2) .non, List.all_eq_false] at h
        obtain ⟨r', h1, h2⟩ := h
        exact ⟨r', h1, by simpa using h2⟩
      obtain ⟨j, ej⟩ := List.getElem?_of_mem hr'
      have : tabS H cs rows = none := bad ej fun c _ => by
        cases e : trowZ H c r' with
        | none => rfl
        | some z =>
          obtain ⟨k, h1, _⟩ := trow_some e
          unfold lenIs at h'
          rw [h1] at h'
          cases h'
      rw [this] at q
      exact q _ k2
    · intro H2 k2 hall
      rw [all_range rows (fun r => lenIs H r 2) .non, List.all_eq_true] at hall
      have T2 := k2.tab
      have ea2 := ea.kt k2 hT
      refine ⟨_, rfl, .ref a, rfl, a, rfl, ⟨_, ea2.sq⟩, ?_⟩
      have two : ∀ r ∈ rows, ∃ k z, parts H r = some [k, z] := fun r hr => by
        have h := hall r hr
        unfold lenIs at h
        cases e : parts H r with
        | none => rw [e] at h; cases h
        | some xs =>
          rw [e] at h
          have h : decide ((xs.length : Int) = 2) = true := h
          have h := of_decide_eq_true h
          match xs, h with
          | [k, z], _ => exact ⟨k, z, rfl⟩
          | [], h => simp at h
          | [_], h => simp at h
          | _ :: _ :: _ :: _, h => simp at h; omega
      refine all_gen (walk_tup (K := K) (a := a) (xs := rows)) (fun i => riseB H m ((parts H (rows.getD i .non)).getD [] |>.getD 0 .non) && wfrom 0 ((parts H (rows.getD i .non)).getD [] |>.getD 1 .non)) T2 hPt (fun H' k => (ea2.kt k T2).sq) ?_ ?_
      · rintro i r H3 H4 hi ⟨k3, al⟩ ⟨rfl, er⟩
        have hrm := List.mem_of_getElem? er
        obtain ⟨k, z, ekz⟩ := two r hrm
        have eg : rows.getD i .non = r := by rw [List.getD_eq_getElem?_getD, er]; rfl
        obtain ⟨ra, rfl, hra⟩ := parts_at ekz
        have k23 := k2.trans k3
        have hra3 := hra.kt k23 hT
        have pk := ((pr.1 _ hrm).at' ekz).1 k (by simp)
        have pz := (((pr.1 _ hrm).at' ekz).1 z (by simp)).kn
        have ek : riseB H4 m k = riseB H m k := rise_kt pk.row k23 hT m
        have fin : ∀ b, (riseB H m k && wfrom 0 z) = b → ∀ (H5 : Hp), Kt Ps H2 H5 → ∀ R : Prop, (Q (.bl false) H5 → R) → if b = true then AllTo Ps H2 (fun i => riseB H m ((parts H (rows.getD i .non)).getD [] |>.getD 0 .non) && wfrom 0 ((parts H (rows.getD i .non)).getD [] |>.getD 1 .non)) (i + 1) H5 else R := fun b eb H5 k5 R hR => by
          refine all_fin (p := fun i => riseB H m ((parts H (rows.getD i .non)).getD [] |>.getD 0 .non) && wfrom 0 ((parts H (rows.getD i .non)).getD [] |>.getD 1 .non)) k5 al hi (by rw [eg, ekz]; exact eb) fun h => hR ?_
          obtain ⟨r', hr', h'⟩ : ∃ r' ∈ rows, (riseB H m ((parts H r').getD [] |>.getD 0 .non) && wfrom 0 ((parts H r').getD [] |>.getD 1 .non)) = false := by
            rw [all_range rows (fun r => riseB H m ((parts H r).getD [] |>.getD 0 .non) && wfrom 0 ((parts H r).getD [] |>.getD 1 .non)) .non, List.all_eq_false] at h
            obtain ⟨r', h1, h2⟩ := h
            exact ⟨r', h1, by simpa using h2⟩
          obtain ⟨j, ej⟩ := List.getElem?_of_mem hr'
          have : tabS H cs rows = none := bad ej fun c hc => by
            cases e : trowZ H c r' with
            | none => rfl
            | some y =>
              obtain ⟨k', h1, h2, h3⟩ := trow_some e
              rw [h1] at h'
              have h' : (riseB H m k' && wfrom 0 (.int y)) = false := h'
              rw [rise_of h2 (bc c hc).1 (bc c hc).2, show wfrom 0 (.int y) = true from decide_eq_true h3] at h'
              cases h'
          rw [this] at q
          exact q _ (k2.trans k5)
        refine ⟨rfl, .int m, rfl, .ref ra, rfl, ra, _, 0, k, rfl, rfl, hra3.sq, rfl, m, k, rfl, pk.row.kt k23 hT, k23.tab, fun H5 k5 => ?_⟩
        rw [ek]
        have k35 := k3.trans k5
        cases hb : riseB H m k with
        | false =>
          refine ⟨_, rfl, _, rfl, ?_⟩
          exact fin false (by rw [hb]; rfl) H5 k35 _ fun h => ⟨_, rfl, h⟩
        | true =>
          refine ⟨_, rfl, .ref ra, rfl, ra, _, 1, z, rfl, rfl, (hra3.kt k5 k3.tab).sq, rfl, 0, z, rfl, (k2.trans k35).kn hT pz, _, rfl, ?_⟩
          exact fin _ (by rw [hb]; rfl) H5 k35 _ fun h => ⟨_, rfl, h⟩
      · intro H3 k3 hall3
        have k23 := k2.trans k3
        have T3 := k23.tab
        rw [all_range rows (fun r => riseB H m ((parts H r).getD [] |>.getD 0 .non) && wfrom 0 ((parts H r).getD [] |>.getD 1 .non)) .non, List.all_eq_true] at hall3
        have good : ∀ r ∈ rows, ∃ x : List Int × Int, RowR2 H r x := fun r hr => by
          obtain ⟨k, z, ekz⟩ := two r hr
          have h := hall3 r hr
          rw [ekz] at h
          have h : (riseB H m k && wfrom 0 z) = true := h
          rw [Bool.and_eq_true] at h
          obtain ⟨c, ec⟩ := rise_ints h.1
          obtain ⟨y, rfl, y0⟩ := wfrom_int h.2
          exact ⟨(c, y), k, ekz, ec, y0⟩
        obtain ⟨xs, hxs⟩ : ∃ xs : List (List Int × Int), Paired (RowR2 H) rows xs := by
          clear hall3 hall q bad pr ea ea2 hl ly hys two
          revert good
          generalize rows = rows
          intro good
          induction rows with
          | nil => exact ⟨[], .nil⟩
          | cons r rows ih =>
            obtain ⟨xs, h⟩ := ih fun r hr => good r (List.mem_cons_of_mem _ hr)
            obtain ⟨x, hx⟩ := good r List.mem_cons_self
            exact ⟨x :: xs, .cons hx h⟩
        have lx := Paired.length hxs
        rw [tabS_rows hxs] at q
        have ea3 := ea.kt k23 hT
        refine ⟨_, rfl, .ref L, rfl, .ref a, rfl, a, rfl, ⟨_, ea3.sq⟩, fun Z nZ => ?_⟩
        refine lc_tup (xs := rows) (fun j H' => ∃ zs, H' Z = some (.lst zs) ∧ Paired (IntsA H') zs ((xs.map (·.1)).take j) ∧ Same H3 H') ⟨[], upd_same, .nil, same_new nZ⟩ (fun j H' _ ⟨_, _, _, s⟩ => (ea3.same s).sq) ?_ ?_
        · rintro j r H4 er ⟨zs, hZ, hz, s4⟩
          obtain ⟨x, ex, k, h1, h2, h3⟩ := Paired.at hxs er
          have jl := (List.getElem?_eq_some_iff.mp er).1
          obtain ⟨ra, rfl, hra⟩ := parts_at h1
          obtain ⟨ka, rfl, hka⟩ := parts_at h2
          have hra4 := (hra.kt k23 hT).same s4
          have hka4 := (hka.kt k23 hT).same s4
          have lz : zs.length ≤ 256 := by
            have := Paired.length hz
            rw [List.length_take, List.length_map] at this
            omega
          refine ⟨rfl, .ref ra, rfl, ra, _, 0, .ref ka, rfl, rfl, hra4.sq, rfl, zs, hZ, small1000 (by omega), zs ++ [.ref ka], upd_same, ?_, Same.mut s4 nZ⟩
          rw [List.take_add_one, List.getElem?_map, ex]
          exact Paired.snoc (Paired.mono (fun _ _ x => IntsA.mut hZ x) hz) ⟨ka, rfl, hka4.mut hZ⟩
        · rintro H4 ⟨zs, hZ, hz, s4⟩
          have hz : Paired (IntsA H4) zs (xs.map (·.1)) := by
            rw [List.take_of_length_le (by rw [List.length_map]; omega)] at hz
            exact hz
          have k4 := k23.trans (Kt.same T3 s4)
          have hL4 := k4.lst hT hL
          have hys4 : Paired (IntsV H4) ys cs := Paired.mono (fun _ _ x => x.tk (k4.tk hT)) hys
          refine ⟨listsD cs, listsD (xs.map (·.1)), .lst (SqL.of hL4) (dp_intss hys4), .lst (SqL.of hZ) (dp_intssA hz), shaped_lists _, shaped_lists _, ?_⟩
          rw [eqv_lists]
          by_cases e : cs = xs.map (·.1)
          · rw [decide_eq_true e]
            rw [if_pos e] at q
            exact q _ k4
          · rw [decide_eq_false e]
            rw [if_neg e] at q
            exact q _ k4
end
/-! ### a flat paper judged -/
def kvC (es : List (List Int × Int)) : List (List Key × V) := es.map fun e => (e.1.map Sum.inl, V.int e.2)
theorem kvC_len (es : List (List Int × Int)) : (kvC es).length = es.length := by unfold kvC; rw [List.length_map]
theorem inl_inj {a b : List Int} (h : (a.map Sum.inl : List Key) = b.map Sum.inl) : a = b := List.map_inj_right (fun _ _ e => Sum.inl.inj e) |>.mp h
theorem kvC_get (c : List Int) : ∀ es : List (List Int × Int), valV (kvC es) (c.map Sum.inl) = (es.find? fun e => decide (e.1 = c)).map fun e => V.int e.2
  | [] => rfl
  | e :: es => by
    have ih := kvC_get c es
    unfold kvC valV at ih ⊢
    rw [List.map_cons]
    by_cases h : e.1 = c
    · rw [List.find?_cons_of_pos (by exact decide_eq_true (by rw [h])), List.find?_cons_of_pos (by exact decide_eq_true h)]
      rfl
    · rw [List.find?_cons_of_neg (by exact fun z => h (inl_inj (of_decide_eq_true z))), List.find?_cons_of_neg (by exact fun z => h (of_decide_eq_true z))]
      exact ih
theorem kvC_put {c : List Int} {v : Int} {es : List (List Int × Int)} (h : c ∉ es.map (·.1)) : putK (kvC es) (c.map Sum.inl) (.int v) = kvC (es ++ [(c, v)]) := by
  have n : (es.find? fun e => decide (e.1 = c)) = none := List.find?_eq_none.mpr fun e he z => h (List.mem_map.mpr ⟨e, he, of_decide_eq_true z⟩)
  unfold putK
  rw [valV_any, kvC_get, n]
  unfold kvC
  rw [List.map_append]
  rfl
theorem inl_kV (c : List Int) : ((c.map Sum.inl : List Key).map kV) = c.map V.int := by rw [List.map_map]; rfl
def kvB (es : List (Int × V)) : List (Key × V) := es.map fun e => (Sum.inl e.1, e.2)
theorem kvB_len (es : List (Int × V)) : (kvB es).length = es.length := by unfold kvB; rw [List.length_map]
theorem kvB_get (f : Int) : ∀ es : List (Int × V), valV (kvB es) (Sum.inl f) = (es.find? fun e => decide (e.1 = f)).map (·.2)
  | [] => rfl
  | e :: es => by
    have ih := kvB_get f es
    unfold kvB valV at ih ⊢
    rw [List.map_cons]
    by_cases h : e.1 = f
    · rw [List.find?_cons_of_pos (by exact decide_eq_true (by rw [h])), List.find?_cons_of_pos (by exact decide_eq_true h)]
      rfl
    · rw [List.find?_cons_of_neg (by exact fun z => h (Sum.inl.inj (of_decide_eq_true z))), List.find?_cons_of_neg (by exact fun z => h (of_decide_eq_true z))]
      exact ih
theorem kvB_put {f : Int} {v : V} {es : List (Int × V)} (h : f ∉ es.map (·.1)) : putK (kvB es) (Sum.inl f) v = kvB (es ++ [(f, v)]) := by
  have n : (es.find? fun e => decide (e.1 = f)) = none := List.find?_eq_none.mpr fun e he z => h (List.mem_map.mpr ⟨e, he, of_decide_eq_true z⟩)
  unfold putK
  rw [valV_any, kvB_get, n]
  unfold kvB
  rw [List.map_append]
  rfl
theorem layB_kn {H H' : Hp} {v : V} (h : parts H' v = parts H v) (gaps : List Gap) (m : Nat) (f : Int) : layB H' gaps m f v = layB H gaps m f v := by
  unfold layB
  rw [h]
theorem tabS_paired {H : Hp} : ∀ {cs : List (List Int)} {rows : List V} {zs : List Int}, tabS H cs rows = some zs → Paired (RowR2 H) rows (cs.zip zs)
  | [], [], _, h => by cases h; exact .nil
  | [], _ :: _, _, h => by cases h
  | _ :: _, [], _, h => by cases h
  | c :: cs, r :: rows, zs, h => by
    unfold tabS at h
    cases h1 : trowZ H c r with
    | none => rw [h1] at h; cases h
    | some z =>
      cases h2 : tabS H cs rows with
      | none => rw [h1, h2] at h; cases h
      | some ys =>
        rw [h1, h2] at h
        cases h
        obtain ⟨k, a, b, c0⟩ := trow_some h1
        exact .cons ⟨k, a, b, c0⟩ (tabS_paired h2)
theorem RowR2.stay {H H' : Hp} {r : V} {x : List Int × Int} (p : PapA H r) (h : RowR2 H r x) (s : StayP H H') : RowR2 H' r x := by
  obtain ⟨k, h1, h2, h3⟩ := h
  have pk := (p.at' h1).1 k (by simp)
  exact ⟨k, (s r p.kn).2.trans h1, (s k pk.kn).2.trans h2, h3⟩
theorem trowZ_stay {H H' : Hp} {c : List Int} {r : V} (p : PapA H r) (s : StayP H H') : trowZ H' c r = trowZ H c r := by
  unfold trowZ
  rw [(s r p.kn).2]
  cases e : parts H r with
  | none => rfl
  | some xs =>
    match xs, e with
    | [], _ => rfl
    | [_], _ => rfl
    | [k, y], e =>
      have pk := (p.at' e).1 k (by simp)
      cases y with
      | int z =>
        show (if parts H' k = some (c.map V.int) ∧ 0 ≤ z then some z else none) = if parts H k = some (c.map V.int) ∧ 0 ≤ z then some z else none
        rw [(s k pk.kn).2]
      | _ => rfl
    | _ :: y :: _ :: _, _ => cases y <;> rfl
theorem tabS_stay {H H' : Hp} (s : StayP H H') : ∀ (cs : List (List Int)) (rows : List V), (∀ r ∈ rows, PapA H r) → tabS H' cs rows = tabS H cs rows
  | [], [], _ => rfl
  | [], _ :: _, _ => rfl
  | _ :: _, [], _ => rfl
  | c :: cs, r :: rows, h => by
    unfold tabS
    rw [tabS_stay s cs rows fun r hr => h r (List.mem_cons_of_mem _ hr), trowZ_stay (h r List.mem_cons_self) s]
theorem tabB_stay {H H' : Hp} {v : V} (p : PapA H v) (s : StayP H H') (cs : List (List Int)) : tabB H' cs v = tabB H cs v := by
  unfold tabB
  rw [(s v p.kn).2]
  cases e : parts H v with
  | none => rfl
  | some rows => exact tabS_stay s cs rows (p.at' e).1
/-- where a table is right, its dict can be made -/
def KeyOk (H : Hp) (odd : List Int) (v : V) : Prop := ∀ l t rows zs, parts H v = some [l, t] → parts H t = some rows → tabS H (evs odd) rows = some zs → (∃ a, t = .ref a ∧ NoD H a rows) ∧ ∀ r ∈ rows, ∀ k z, parts H r = some [k, z] → ∃ b xs, k = .ref b ∧ H b = some (.tup xs)
theorem KeyOk.stay {H H' : Hp} {odd : List Int} {v : V} (h : KeyOk H odd v) (p : PapA H v) (s : StayP H H') (hn : ∀ a xs, NoD H a xs → NoD H' a xs) (ht : Tk H H') : KeyOk H' odd v := fun l t rows zs e1 e2 e3 => by
  rw [(s v p.kn).2] at e1
  have pt := (p.at' e1).1 t (by simp)
  rw [(s t pt.kn).2] at e2
  have pr := (pt.at' e2).1
  rw [tabS_stay s _ _ pr] at e3
  obtain ⟨⟨a, ea, ha⟩, hk⟩ := h l t rows zs e1 e2 e3
  refine ⟨⟨a, ea, hn _ _ ha⟩, fun r hr k z e => ?_⟩
  rw [(s r (pr r hr).kn).2] at e
  obtain ⟨b, xs, eb, hb⟩ := hk r hr k z e
  exact ⟨b, xs, eb, ht _ _ hb⟩
theorem KeyOk.kt {Ps : List Addr} {H H' : Hp} {odd : List Int} {v : V} (h : KeyOk H odd v) (p : PapA H v) (k : Kt Ps H H') (t : Tabs Ps H) : KeyOk H' odd v := h.stay p (StayP.kt k t) (fun _ _ x => x.kt k t) (k.tk t)
theorem KeyOk.same {H H' : Hp} {odd : List Int} {v : V} (h : KeyOk H odd v) (p : PapA H v) (s : Same H H') : KeyOk H' odd v := h.stay p (StayP.same s) (fun _ _ x => x.same s) (Same.tk s)
def optZ : Option Int → V
  | some z => .int z
  | none => .non
def spRowH (Ps : List Addr) : Sp := fun vs H Q _ => ∃ (v : V) (c : List Int) (By : Addr) (kb : List (Key × V)) (Nu : Addr) (es : List (List Int × Int)) (lay : Int → Int → Int), vs = [v, .ref By, .ref Nu] ∧ IntsV H v c ∧ (2 ≤ c.length ∧ c.length ≤ 8) ∧ H By = some (.dK kb) ∧
  (∃ a xs, valV kb (.inl (c.headD 0)) = some (.ref a) ∧ TupA H a xs ∧ ∀ g ∈ c.tail, atI xs g = some (.int (lay (c.headD 0) g))) ∧ H Nu = some (.dT (kvC es)) ∧ c ∈ es.map (·.1) ∧ (∀ g ∈ c.tail, less2 c g ∈ es.map (·.1)) ∧ Tabs Ps H ∧
  ∀ H', Kt Ps H H' → Q (.bl (rowH lay (lkC es) c)) H'
def spNumShown (Ps : List Addr) : Sp := fun vs H Q _ => ∃ (o : Addr) (odd : List Int) (m : Nat) (G : Addr) (gys : List V) (gaps : List Gap) (v : V), vs = [.ref o, .int m, .ref G, v] ∧ H o = some (.tup (odd.map V.int)) ∧ odd.length ≤ 8 ∧ odd.length % 2 = 0 ∧ odd.Pairwise (· < ·) ∧ (∀ x ∈ odd, 0 ≤ x ∧ x < (m : Int)) ∧ H G = some (.lst gys) ∧ Paired (GapV H) gys gaps ∧ (∀ g ∈ gaps, (0 ≤ g.1 ∧ g.1 < (m : Int)) ∧ 0 ≤ g.2.1 ∧ g.2.1 < (m : Int)) ∧ PapA H v ∧ KeyOk H odd v ∧ Tabs Ps H ∧
  ∀ H', Kt Ps H H' → Q (optZ (shownF H odd m gaps v)) H'
theorem lk_get {es : List (List Int × Int)} {c : List Int} (h : c ∈ es.map (·.1)) : valV (kvC es) (c.map Sum.inl) = some (.int (lkC es c)) := by
  rw [kvC_get]
  unfold lkC
  obtain ⟨e, he, rfl⟩ := List.mem_map.mp h
  cases f : es.find? fun x => decide (x.1 = e.1) with
  | none => exact absurd (decide_eq_true rfl) (List.find?_eq_none.mp f e he)
  | some y => rfl
section
variable {P : Program} {w : World} {K : PySem.W.Frag} {mg : Str → Option Value} {base : Heap}
set_option maxHeartbeats 4000000 in
theorem ok_row_holds {f c Pt : Addr} {fd : FuncData} {Ps : List Addr} (F : FunC K "row_holds" "row_holds" s_row_holds f fd c) (TB : GxR.TabB base mg c Pt) (hPt : Pt ∈ Ps) (m_all : mg "all" = none) (D_without_pair : Df P w K mg base 1 "without_pair" ["choice", "other"] spWithoutPair) : FnOk P w K mg base CX0 3 f fd ["choice", "layers", "numbers"] (spRowH Ps) := by
  obtain ⟨f_without_pair, fd_without_pair, G_without_pair, g_without_pair, k_without_pair, b_without_pair⟩ := D_without_pair
  refine F.ok sc_row_holds (fun vs H Q E h => ?_) (fun A outer s H vs Q E hr h => ?_)
  · obtain ⟨v, c, By, kb, Nu, es, lay, rfl, _⟩ := h
    rfl
  · obtain ⟨v, c, By, kb, Nu, es, lay, rfl, hv, lc, hB, hl, hN, hc, hg, hT, q⟩ := h
    have hu := room1 hr
    refine ⟨_, (pss_cons (ps_set (i := 3) sc_row_holds.nd rfl (.inr rfl) (pe_dget hu (pv 1) (pe_ix ix_tup (pv 0) pe_int (fun _ _ => rfl)) (fun _ _ => rfl)))
      (pss_one (ps_ret (pe_all (k := 1) (own := [("other", 4)]) (g := gName 4) hr TB rfl rfl sc_row_holds.nd (by rfl) m_all (pi_tup (pe_slice sl_tupU (pv 0) (po_some pe_int) po_none)) (blkOk_by (N := N_row_holds) (sc := defScope s_row_holds) (own := [("other", 4)]) (by decide +kernel)) ⟨rfl, by decide +kernel, by decide +kernel⟩ (show (".0" : Str) ∉ N_row_holds by decide +kernel) (fun _ _ _ _ _ _ _ => (pg_name (i := 4) sc_row_holds.nd rfl (.inl rfl))) (fun _ _ _ _ _ _ _ hr' => (pe_cmpR op_le (pe_dget (room1 hr') (pv 2) (pv 0) (fun _ _ => rfl)) (pe_op op_add (pe_ix (r := rIxT K) ix_tup (pv 3) (pv 4) (fun _ _ => rfl)) (pe_dget (room1 hr') (pv 2) (pe_call G_without_pair (hr'.mono (by decide)) (by rfl) g_without_pair k_without_pair b_without_pair .nil pass0 (pa_cons (pv 0) (pa_cons (pv 4) pa_nil))) (fun _ _ => rfl))) (nomark _))))))), ?_⟩
    obtain ⟨a, rfl, ha⟩ := hv
    obtain ⟨b, xs, eb, hb, at'⟩ := hl
    obtain ⟨f0, c', rfl⟩ : ∃ f0 c', c = f0 :: c' := by
      cases c with
      | nil => exact absurd lc.1 (by simp)
      | cons x c => exact ⟨x, c, rfl⟩
    refine ⟨.ref By, rfl, .ref a, rfl, a, _, 0, .int f0, rfl, rfl, SqT.of ha, atI_of (by decide) rfl, By, .ref b, rfl, ?_, ?_⟩
    · rw [← eb]
      exact DGet.k (k := Sum.inl f0) hB
    refine ⟨.ref a, rfl, 1, rfl, a, _, rfl, ha, fun r1 H1 s1 h1 => ?_⟩
    rw [cut_tail] at h1
    have h1 : H1 r1 = some (.tup (c'.map V.int)) := h1
    have k1 := Kt.same hT s1
    have T1 := k1.tab
    refine ⟨r1, rfl, ⟨_, SqT.of h1⟩, ?_⟩
    have ea : rowH lay (lkC es) (f0 :: c') = c'.all fun g => decide (lkC es (f0 :: c') ≤ lay f0 g + lkC es (less2 (f0 :: c') g)) := rfl
    rw [ea] at q
    refine all_gen (walk_tup (K := K) (a := r1) (xs := c'.map V.int)) (fun i => decide (lkC es (f0 :: c') ≤ lay f0 (c'.getD i 0) + lkC es (less2 (f0 :: c') (c'.getD i 0)))) T1 hPt (fun H' k => SqT.of (k.tup T1 h1)) ?_ ?_
    · rintro i x H2 H3 hi ⟨k2, al⟩ ⟨rfl, ex⟩
      rw [List.getElem?_map] at ex
      obtain ⟨g, eg, rfl⟩ := Option.map_eq_some_iff.mp ex
      have gm := List.mem_of_getElem? eg
      have k02 := k1.trans k2
      have T3 := k02.tab
      have hN3 := k02.keep Nu _ (hT.out hN fun _ z => by cases z) hN
      have ha3 := k02.tup hT ha
      refine ⟨rfl, .ref Nu, rfl, .ref a, rfl, Nu, .int (lkC es (f0 :: c')), rfl, ?_, ?_⟩
      · rw [← lk_get hc]
        exact DGet.t hN3 (by rw [inl_kV]; exact ha3)
      refine ⟨.ref b, rfl, .int g, rfl, b, xs, g, .int (lay f0 g), rfl, rfl, (hb.kt k02 hT).sq, at' g gm, .ref Nu, rfl, .ref a, rfl, .int g, rfl, .ref a, f0 :: c', g, rfl, ⟨a, rfl, ha3⟩, lc.2, fun r H4 s4 hr4 => ?_⟩
      have k4 := Kt.same T3 s4
      refine ⟨Nu, .int (lkC es (less2 (f0 :: c') g)), rfl, ?_, ?_⟩
      · rw [← lk_get (hg g gm)]
        exact DGet.t (s4 _ _ hN3) (by rw [inl_kV]; exact hr4)
      refine ⟨_, _, rfl, rfl, _, _, rfl, rfl, _, rfl, ?_⟩
      have eg2 : c'.getD i 0 = g := by rw [List.getD_eq_getElem?_getD, eg]; rfl
      refine all_fin (p := fun i => decide (lkC es (f0 :: c') ≤ lay f0 (c'.getD i 0) + lkC es (less2 (f0 :: c') (c'.getD i 0)))) (k2.trans k4) al hi (by rw [eg2]) fun h => ?_
      rw [List.length_map, all_range c' (fun g => decide (lkC es (f0 :: c') ≤ lay f0 g + lkC es (less2 (f0 :: c') g))) 0] at h
      rw [h] at q
      exact q _ (k02.trans k4)
    · intro H2 k2 h
      rw [List.length_map, all_range c' (fun g => decide (lkC es (f0 :: c') ≤ lay f0 g + lkC es (less2 (f0 :: c') g))) 0] at h
      rw [h] at q
      exact q _ (k1.trans k2)
end
theorem zip_len {α β : Type} {xs : List α} {ys : List β} (h : ys.length = xs.length) : (xs.zip ys).length = xs.length := by rw [List.length_zip]; omega
theorem zip_fst {α β : Type} : ∀ {xs : List α} {ys : List β}, ys.length = xs.length → (xs.zip ys).map (·.1) = xs
  | [], _, _ => rfl
  | x :: xs, [], h => by simp at h
  | x :: xs, y :: ys, h => by rw [List.zip_cons_cons, List.map_cons, zip_fst (by simpa using h)]
theorem odd_head {c odd : List Int} (h : c ∈ evs odd) : ∃ f c', c = f :: c' ∧ f ∈ odd ∧ (∀ g ∈ c', g ∈ odd) ∧ 2 ≤ c.length ∧ c.length ≤ odd.length := by
  obtain ⟨s, ne, ev⟩ := mem_evs.mp h
  cases c with
  | nil => exact absurd rfl ne
  | cons f c' =>
    refine ⟨f, c', rfl, s.subset List.mem_cons_self, fun g hg => s.subset (List.mem_cons_of_mem _ hg), ?_, s.length_le⟩
    rw [List.length_cons] at ev ⊢
    cases c' with
    | nil => simp at ev
    | cons => rw [List.length_cons]; omega
theorem evs_rising {odd : List Int} (pw : odd.Pairwise (· < ·)) {c : List Int} (h : c ∈ evs odd) : c.Pairwise (· < ·) := pw.sublist (mem_evs.mp h).1
theorem mem_fst {es : List (List Int × Int)} {c : List Int} (h : c ∈ es.map (·.1)) : c ∈ (es ++ [(([] : List Int), (0 : Int))]).map (fun e => e.1) := by
  rw [List.map_append]
  exact List.mem_append_left _ h
section
variable {P : Program} {w : World} {K : PySem.W.Frag} {mg : Str → Option Value} {base : Heap}
set_option maxHeartbeats 4000000 in
theorem ok_number_shown {f c Pt : Addr} {fd : FuncData} {Ps : List Addr} (F : FunC K "number_shown" "number_shown" s_number_shown f fd c) (TB : GxR.TabB base mg c Pt) (hPt : Pt ∈ Ps) (M : Free mg) (m_all : mg "all" = none) (m_zip : mg "zip" = none) (D_even_choices : Df P w K mg base 1 "even_choices" ["faces"] spEvenChoices) (D_is_table : Df P w K mg base 6 "is_table" ["choices", "many", "thing"] (spIsTable Ps)) (D_is_tuple_of : Df P w K mg base 1 "is_tuple_of" ["length", "thing"] spTupleOf) (D_layer_holds : Df P w K mg base 4 "layer_holds" ["start", "gaps", "many", "thing"] (spLayerH Ps)) (D_row_holds : Df P w K mg base 3 "row_holds" ["choice", "layers", "numbers"] (spRowH Ps)) : FnOk P w K mg base CX0 8 f fd ["odd", "many", "gaps", "thing"] (spNumShown Ps) := by
  obtain ⟨f_even_choices, fd_even_choices, G_even_choices, g_even_choices, k_even_choices, b_even_choices⟩ := D_even_choices
  obtain ⟨f_is_table, fd_is_table, G_is_table, g_is_table, k_is_table, b_is_table⟩ := D_is_table
  obtain ⟨f_is_tuple_of, fd_is_tuple_of, G_is_tuple_of, g_is_tuple_of, k_is_tuple_of, b_is_tuple_of⟩ := D_is_tuple_of
  obtain ⟨f_layer_holds, fd_layer_holds, G_layer_holds, g_layer_holds, k_layer_holds, b_layer_holds⟩ := D_layer_holds
  obtain ⟨f_row_holds, fd_row_holds, G_row_holds, g_row_holds, k_row_holds, b_row_holds⟩ := D_row_holds
  refine F.ok sc_number_shown (fun vs H Q E h => ?_) (fun A outer s H vs Q E hr h => ?_)
  · obtain ⟨o, odd, m, G, gys, gaps, v, rfl, _⟩ := h
    rfl
  · obtain ⟨o, odd, m, G, gys, gaps, v, rfl, ho, l8, ev, pw, bo, hG, hg, bg, pa, ky, hT, q⟩ := h
    have hu := room1 hr
    refine ⟨_, (pss_cons (ps_set (i := 4) sc_number_shown.nd rfl (.inl rfl) (pe_call G_even_choices (hr.mono (by decide)) (by rfl) g_even_choices k_even_choices b_even_choices .nil pass0 (pa_cons (pv 0) pa_nil)))
      (pss_cons (ps_if (PW.pt (pw_or (pt_not (pt_val (pe_call G_is_tuple_of (hr.mono (by decide)) (by rfl) g_is_tuple_of k_is_tuple_of b_is_tuple_of .nil pass0 (pa_cons pe_int (pa_cons (pv 3) pa_nil))))) (pw_or (pt_not (pt_val (pe_call G_is_tuple_of (hr.mono (by decide)) (by rfl) g_is_tuple_of k_is_tuple_of b_is_tuple_of .nil pass0 (pa_cons (pe_callB call_len_seq (by rfl) M.len PySem.boot_len (pa_cons (pv 0) pa_nil)) (pa_cons (pe_ix ix_tup (pv 3) pe_int (fun _ _ => rfl)) pa_nil))))) (pw_or1 (pt_not (pt_val (pe_call G_is_table (hr.mono (by decide)) (by rfl) g_is_table k_is_table b_is_table .nil pass0 (pa_cons (pv 4) (pa_cons (pv 1) (pa_cons (pe_ix ix_tup (pv 3) pe_int (fun _ _ => rfl)) pa_nil))))))))))
        (pss_one (ps_ret pe_non))
        pss_nil)
      (pss_cons (ps_asg (pv 3) (pg_tup rfl (pgs_cons (pg_name (i := 5) sc_number_shown.nd rfl (.inl rfl)) (pgs_cons (pg_name (i := 6) sc_number_shown.nd rfl (.inl rfl)) pgs_nil))))
      (pss_cons (ps_if (pt_not (pt_val (pe_all (k := 6) (own := [("face", 7), ("layer", 8)]) (g := gTup K 2 (gCons (gName 7) (gCons (gName 8) gNil))) hr TB rfl rfl sc_number_shown.nd (by rfl) m_all (RZ.pi_zipA (by rfl) m_zip (pa_cons (pv 0) (pa_cons (pv 5) pa_nil))) (blkOk_by (N := N_number_shown) (sc := defScope s_number_shown) (own := [("face", 7), ("layer", 8)]) (by decide +kernel)) ⟨rfl, by decide +kernel, by decide +kernel⟩ (show (".0" : Str) ∉ N_number_shown by decide +kernel) (fun _ _ _ _ _ _ _ => (pg_tup rfl (pgs_cons (pg_name (i := 7) sc_number_shown.nd rfl (.inl rfl)) (pgs_cons (pg_name (i := 8) sc_number_shown.nd rfl (.inl rfl)) pgs_nil)))) (fun _ _ _ _ _ _ _ hr' => (pe_call G_layer_holds (hr'.mono (by decide)) (by rfl) g_layer_holds k_layer_holds b_layer_holds .nil pass0 (pa_cons (pv 7) (pa_cons (pv 2) (pa_cons (pv 1) (pa_cons (pv 8) pa_nil)))))))))
        (pss_one (ps_ret pe_non))
        pss_nil)
      (pss_cons (ps_set (i := 9) sc_number_shown.nd rfl (.inr rfl) (pe_dc1T (own := [("choice", 10), ("number", 11)]) (g := (gTup K 2 (gCons (gName 10) (gCons (gName 11) gNil)))) (tt := tYes) rfl (Nat.lt_of_succ_lt hu) sc_number_shown.nd (pi_tup (pv 6)) (blkOk_by (N := N_number_shown) (sc := defScope s_number_shown) (own := [("choice", 10), ("number", 11)]) (by decide +kernel)) (fun _ _ _ _ _ => (pg_tup rfl (pgs_cons (pg_name (i := 10) sc_number_shown.nd rfl (.inl rfl)) (pgs_cons (pg_name (i := 11) sc_number_shown.nd rfl (.inl rfl)) pgs_nil)))) (fun _ _ _ _ _ => pts_nil) (fun _ _ _ _ _ => (pv 10)) (fun _ _ _ _ _ => (pv 11))))
      (pss_cons (ps_dput hu (pv 9) (pe_tup pa_nil) pe_int rfl)
      (pss_cons (ps_set (i := 12) sc_number_shown.nd rfl (.inr rfl) (pe_dc (own := [("face", 7), ("layer", 8)]) (g := (gTup K 2 (gCons (gName 7) (gCons (gName 8) gNil)))) (tt := tYes) rfl sc_number_shown.nd  (RZ.pi_zipA (by rfl) m_zip (pa_cons (pv 0) (pa_cons (pv 5) pa_nil))) (blkOk_by (N := N_number_shown) (sc := defScope s_number_shown) (own := [("face", 7), ("layer", 8)]) (by decide +kernel)) (fun _ _ _ _ _ => (pg_tup rfl (pgs_cons (pg_name (i := 7) sc_number_shown.nd rfl (.inl rfl)) (pgs_cons (pg_name (i := 8) sc_number_shown.nd rfl (.inl rfl)) pgs_nil)))) (fun _ _ _ _ _ => pts_nil) (fun _ _ _ _ _ => (pv 7)) (fun _ _ _ _ _ => (pv 8))))
      (pss_one (ps_ret (pe_ifExp (pt_val (pe_all (k := 6) (own := [("choice", 10)]) (g := gName 10) hr TB rfl rfl sc_number_shown.nd (by rfl) m_all (pi_list (pv 4)) (blkOk_by (N := N_number_shown) (sc := defScope s_number_shown) (own := [("choice", 10)]) (by decide +kernel)) ⟨rfl, by decide +kernel, by decide +kernel⟩ (show (".0" : Str) ∉ N_number_shown by decide +kernel) (fun _ _ _ _ _ _ _ => (pg_name (i := 10) sc_number_shown.nd rfl (.inl rfl))) (fun _ _ _ _ _ _ _ hr' => (pe_call G_row_holds (hr'.mono (by decide)) (by rfl) g_row_holds k_row_holds b_row_holds .nil pass0 (pa_cons (pv 10) (pa_cons (pv 12) (pa_cons (pv 9) pa_nil))))))) (pe_dget hu (pv 9) (pv 0) (fun _ _ => rfl)) pe_non)))))))))), ?_⟩
    have nd : odd.Nodup := pw.imp fun h => by omega
    have no : ∀ H1, Kt Ps H H1 → shownF H odd m gaps v = none → Q .non H1 := fun H1 k1 e => by
      have := q H1 k1
      rw [e] at this
      exact this
    refine ⟨.ref o, rfl, o, odd, rfl, ho, l8, fun L ys H1 s1 nL hL hys => ?_⟩
    have k1 := Kt.same hT s1
    have T1 := k1.tab
    have lys : ys.length = (evs odd).length := Paired.length hys
    have le := evs_len odd l8
    have kv := pa.kn
    refine ⟨v, rfl, 2, v, rfl, k1.kn hT kv, _, rfl, ?_⟩
    have ep : parts H1 v = parts H v := kt_kn_parts k1 hT kv
    cases hpv : parts H v with
    | none =>
      have e1 : lenIs H1 v 2 = false := by unfold lenIs; rw [ep, hpv]
      rw [e1]
      exact no _ k1 (by unfold shownF; rw [hpv])
    | some xs =>
    by_cases hl : xs.length = 2
    case neg =>
      have e1 : lenIs H1 v 2 = false := by unfold lenIs; rw [ep, hpv]; exact decide_eq_false (by omega)
      rw [e1]
      refine no _ k1 ?_
      unfold shownF
      rw [hpv]
      match xs, hl with
      | [], _ => rfl
      | [_], _ => rfl
      | _ :: _ :: _ :: _, _ => rfl
      | [x, y], h => exact absurd rfl h
    obtain ⟨l, tb, rfl⟩ : ∃ l tb, xs = [l, tb] := by
      match xs, hl with
      | [l, tb], _ => exact ⟨l, tb, rfl⟩
      | [], h => simp at h
      | [_], h => simp at h
      | _ :: _ :: _ :: _, h => simp at h
    have e1 : lenIs H1 v 2 = true := by unfold lenIs; rw [ep, hpv]; rfl
    rw [e1]
    obtain ⟨va, rfl, hva⟩ := parts_at hpv
    have pl := (pa.at' hpv).1 l (by simp)
    have pt := (pa.at' hpv).1 tb (by simp)
    have es : shownF H odd m gaps (.ref va) = match parts H l with
      | some ls => if ls.length = odd.length then match tabB H (evs odd) tb with
          | some zs => if (odd.zip ls).all (fun p => layB H gaps m p.1 p.2) && (evs odd).all (rowH (layI H odd ls) (numF odd zs)) then some (numF odd zs odd) else none
          | none => none
        else none
      | none => none := by
      unfold shownF
      rw [hpv]
      try rfl
    have hva1 := hva.kt k1 hT
    have el : parts H1 l = parts H l := kt_kn_parts k1 hT pl.kn
    refine ⟨.ref o, rfl, o, _, rfl, .inr (SqT.of (k1.tup hT ho)), .ref va, rfl, va, _, 0, l, rfl, rfl, hva1.sq, rfl, _, l, rfl, k1.kn hT pl.kn, _, rfl, ?_⟩
    rw [List.length_map]
    cases hpl : parts H l with
    | none =>
      have e2 : lenIs H1 l (odd.length : Nat) = false := by unfold lenIs; rw [el, hpl]
      rw [e2]
      exact no _ k1 (by rw [es, hpl])
    | some ls =>
    rw [hpl] at es
    by_cases hll : ls.length = odd.length
    case neg =>
      have e2 : lenIs H1 l (odd.length : Nat) = false := by unfold lenIs; rw [el, hpl]; exact decide_eq_false (by omega)
      rw [e2]
      exact no _ k1 (by rw [es]; exact if_neg hll)
    have e2 : lenIs H1 l (odd.length : Nat) = true := by unfold lenIs; rw [el, hpl]; exact decide_eq_true (by omega)
    rw [e2]
    obtain ⟨la, rfl, hla⟩ := parts_at hpl
    have es : shownF H odd m gaps (.ref va) = match tabB H (evs odd) tb with
          | some zs => if (odd.zip ls).all (fun p => layB H gaps m p.1 p.2) && (evs odd).all (rowH (layI H odd ls) (numF odd zs)) then some (numF odd zs odd) else none
          | none => none := es.trans (if_pos hll)
    refine ⟨.ref L, rfl, .int m, rfl, .ref va, rfl, va, _, 1, tb, rfl, rfl, hva1.sq, rfl, L, ys, evs odd, m, tb, rfl, hL, hys, le, fun c hc => ⟨evs_rising pw hc, fun x hx => bo x ((mem_evs.mp hc).1.subset hx)⟩, pt.stay (StayP.kt k1 hT), T1, fun H2 k2 => ?_⟩
    have k02 := k1.trans k2
    have T2 := k02.tab
    have et : tabB H1 (evs odd) tb = tabB H (evs odd) tb := tabB_stay pt (StayP.kt k1 hT) _
    rw [et]
    cases htab : tabB H (evs odd) tb with
    | none => exact ⟨_, rfl, no _ k02 (by rw [es, htab])⟩
    | some zs =>
    rw [htab] at es
    have es2 : shownF H odd m gaps (.ref va) = if ((odd.zip ls).all (fun p => layB H gaps m p.1 p.2) && (evs odd).all (rowH (layI H odd ls) (numF odd zs))) = true then some (numF odd zs odd) else none := es
    obtain ⟨rows, hrows⟩ : ∃ rows, parts H tb = some rows := by
      unfold tabB at htab
      cases e : parts H tb with
      | none => rw [e] at htab; cases htab
      | some rows => exact ⟨rows, rfl⟩
    have hts : tabS H (evs odd) rows = some zs := by
      unfold tabB at htab
      rw [hrows] at htab
      exact htab
    obtain ⟨ta, rfl, hta⟩ := parts_at hrows
    have hva2 := hva.kt k02 hT
    refine ⟨_, rfl, .ref va, rfl, va, _, rfl, hva2.sq, rfl, _, _, rfl, _, _, rfl, rfl, ?_⟩
    have hla2 := hla.kt k02 hT
    have ho2 := k02.tup hT ho
    have lz := (tabS_len hts).2
    have lr := (tabS_len hts).1
    refine ⟨.ref o, rfl, .ref la, rfl, o, la, _, _, rfl, .inr ⟨SqT.of ho2, hla2.sq, ?_⟩⟩
    have lzl : (odd.zip ls).length = odd.length := zip_len hll
    have plk := (pl.at' hpl).1
    have pG := fun (H' : Hp) (k : Kt Ps H H') => Paired.mono (fun _ _ x => GapV.tk (k.tk hT) x) hg
    refine all_gen (walk_zipT (K := K) (a := o) (b := la) (xs := odd.map V.int) (ys := ls) (n := odd.length) (by rw [List.length_map]; omega)) (fun i => (fun p : Int × V => layB H gaps m p.1 p.2) ((odd.zip ls).getD i (0, .non))) T2 hPt (fun H' k => ⟨SqT.of (k.tup T2 ho2), (hla2.kt k T2).sq⟩) ?_ ?_
    · rintro i x H3 H4 hi ⟨k3, al⟩ ⟨T, x1, y, rfl, nT, rfl, e1, e2⟩
      have e1 : (odd.map V.int)[i]? = some x1 := e1
      rw [List.getElem?_map] at e1
      obtain ⟨f0, ef, rfl⟩ := Option.map_eq_some_iff.mp e1
      have e2 : ls[i]? = some y := e2
      have sT := same_new (o := .tup [.int f0, y]) nT
      have k4 := k3.trans (Kt.same k3.tab sT)
      have hTt := upd_same (H := H3) (a := T) (o := .tup [.int f0, y])
      generalize upd H3 T (.tup [.int f0, y]) = H4 at sT k4 hTt
      have k04 := k02.trans k4
      have T4 := k04.tab
      have py := plk y (List.mem_of_getElem? e2)
      have ez : (odd.zip ls)[i]? = some (f0, y) := zip_at ef e2
      refine ⟨T, _, rfl, SqT.of hTt, rfl, _, _, rfl, _, _, rfl, rfl, rfl, .int f0, rfl, .ref G, rfl, .int m, rfl, y, rfl, f0, G, gys, gaps, m, y, rfl, k04.lst hT hG, pG H4 k04, bg, bo f0 (List.mem_of_getElem? ef), py.row.kt k04 hT, T4, fun H5 k5 => ⟨_, rfl, ?_⟩⟩
      refine all_fin (p := fun i => (fun p : Int × V => layB H gaps m p.1 p.2) ((odd.zip ls).getD i (0, .non))) (k4.trans k5) al hi (by rw [layB_kn (kt_kn_parts k04 hT py.kn), List.getD_eq_getElem?_getD, ez]; rfl) fun h => ⟨_, rfl, ?_⟩
      rw [← lzl, all_range (odd.zip ls) (fun p : Int × V => layB H gaps m p.1 p.2) (0, .non)] at h
      refine no _ (k04.trans k5) ?_
      rw [es2, h]
      rfl
    intro H3 k3 hall
    rw [← lzl, all_range (odd.zip ls) (fun p : Int × V => layB H gaps m p.1 p.2) (0, .non)] at hall
    have es : shownF H odd m gaps (.ref va) = if (evs odd).all (rowH (layI H odd ls) (numF odd zs)) then some (numF odd zs odd) else none := by
      rw [es2, hall, Bool.true_and]
    have k03 := k02.trans k3
    have T3 := k03.tab
    have hta3 := hta.kt k03 hT
    have prs := (pt.at' hrows).1
    have hrp := tabS_paired hts
    have ndE := evs_nodup nd
    have lzz : ((evs odd).zip zs).length = (evs odd).length := zip_len lz
    have fz : ((evs odd).zip zs).map (·.1) = evs odd := zip_fst lz
    refine ⟨_, rfl, .ref ta, rfl, ta, rfl, ⟨_, hta3.sq⟩, fun D nD => ?_⟩
    refine it_gen (walk_tup (K := K) (xs := rows)) (fun j H' => H' D = some (.dT (kvC (((evs odd).zip zs).take j))) ∧ Same H3 H') ⟨upd_same, same_new nD⟩ (fun j H' _ h => (hta3.same h.2).sq) ?_ ?_
    · rintro j r H4 H5 hj ⟨hD, s4⟩ ⟨rfl, er⟩
      obtain ⟨x, ex, k, h1, h2, h3⟩ := Paired.at hrp er
      have jl := (List.getElem?_eq_some_iff.mp ex).1
      obtain ⟨ra, rfl, hra⟩ := parts_at h1
      obtain ⟨ka, _, rfl, hka⟩ := (ky _ _ _ _ hpv hrows hts).2 _ (List.mem_of_getElem? er) _ _ h1
      have h2' := parts_of' (H := H) (.inl hka)
      rw [h2] at h2'
      obtain rfl := Option.some.inj h2'
      have hra4 := (hra.kt k03 hT).same s4
      have hka4 := s4 _ _ (k03.tup hT hka)
      have nw : x.1 ∉ (((evs odd).zip zs).take j).map (·.1) := by
        rw [List.map_take, fz]
        intro hx
        obtain ⟨i, ei⟩ := List.getElem?_of_mem hx
        have li := (List.getElem?_eq_some_iff.mp ei).1
        rw [List.length_take] at li
        rw [List.getElem?_take_of_lt (by omega)] at ei
        have ej : (evs odd)[j]? = some x.1 := by
          have := congrArg (Option.map (·.1)) ex
          rw [← List.getElem?_map, fz] at this
          exact this
        have := (List.getElem?_inj (List.getElem?_eq_some_iff.mp ei).1 ndE).mp (ei.trans ej.symm)
        omega
      refine ⟨ra, _, rfl, hra4.sq, rfl, _, _, rfl, _, _, rfl, rfl, rfl, .ref ka, rfl, .int x.2, rfl, kvC (((evs odd).zip zs).take j), x.1.map Sum.inl, ka, rfl, by rw [inl_kV]; exact hka4, hD, by rw [kvC_len, List.length_take]; exact small1000 (by omega), ?_, Same.mut s4 nD⟩
      rw [upd_same, kvC_put nw, List.take_add_one, ex]
      rfl
    rintro H4 ⟨hD, s4⟩
    have hD : H4 D = some (.dT (kvC ((evs odd).zip zs))) := by
      rw [hD, List.take_of_length_le (by omega)]
    have k04 := k03.trans (Kt.same T3 s4)
    have T4 := k04.tab
    have hE : ([] : List Int) ∉ ((evs odd).zip zs).map (·.1) := by
      rw [fz]
      exact fun h => (mem_evs.mp h).2.1 rfl
    refine ⟨.ref D, rfl, by show 0 ≤ sizeLine; decide, fun e0 n0 => ?_⟩
    have se := same_new (o := .tup []) n0
    have he := upd_same (H := H4) (a := e0) (o := .tup [])
    have hD5 := se _ _ hD
    have s5 := s4.trans se
    have nD5 : H3 D = none := nD
    generalize upd H4 e0 (.tup []) = H5 at se he hD5 s5
    refine ⟨D, _, rfl, DPut.t (k := []) hD5 he (by rw [kvC_len]; exact small1000 (by omega)), ?_⟩
    have s6 : Same H3 (upd H5 D (.dT (putK (kvC ((evs odd).zip zs)) [] (.int 0)))) := Same.mut s5 nD5
    have hD6 : (upd H5 D (.dT (putK (kvC ((evs odd).zip zs)) [] (.int 0)))) D = some (.dT (kvC ((evs odd).zip zs ++ [([], 0)]))) := by
      rw [upd_same, show putK (kvC ((evs odd).zip zs)) [] (.int 0) = kvC ((evs odd).zip zs ++ [([], 0)]) from kvC_put hE]
    generalize upd H5 D (.dT (putK (kvC ((evs odd).zip zs)) [] (.int 0))) = H6 at s6 hD6
    have k06 := k03.trans (Kt.same T3 s6)
    have T6 := k06.tab
    have ho6 := k06.tup hT ho
    have hla6 := hla.kt k06 hT
    refine ⟨.ref o, rfl, .ref la, rfl, o, la, _, _, rfl, .inr ⟨SqT.of ho6, hla6.sq, fun B nB => ?_⟩⟩
    refine it_gen (walk_zipT (K := K) (a := o) (b := la) (xs := odd.map V.int) (ys := ls) (n := odd.length) (by rw [List.length_map]; omega)) (fun j H' => H' B = some (.dK (kvB ((odd.zip ls).take j))) ∧ Same H6 H') ⟨upd_same, same_new nB⟩ (fun j H' _ h => ⟨SqT.of (h.2 _ _ ho6), (hla6.same h.2).sq⟩) ?_ ?_
    · rintro j x H7 H8 hj ⟨hB, s7⟩ ⟨T, x1, y, rfl, nT, rfl, e1, e2⟩
      have e1 : (odd.map V.int)[j]? = some x1 := e1
      rw [List.getElem?_map] at e1
      obtain ⟨f0, ef, rfl⟩ := Option.map_eq_some_iff.mp e1
      have e2 : ls[j]? = some y := e2
      have sT := same_new (o := .tup [.int f0, y]) nT
      have s8 := s7.trans sT
      have hTt := upd_same (H := H7) (a := T) (o := .tup [.int f0, y])
      have hB8 := sT _ _ hB
      generalize upd H7 T (.tup [.int f0, y]) = H8 at sT s8 hTt hB8
      have ez : (odd.zip ls)[j]? = some (f0, y) := zip_at ef e2
      have nw : f0 ∉ ((odd.zip ls).take j).map (·.1) := by
        rw [List.map_take, zip_fst hll]
        intro hx
        obtain ⟨i, ei⟩ := List.getElem?_of_mem hx
        have li := (List.getElem?_eq_some_iff.mp ei).1
        rw [List.length_take] at li
        rw [List.getElem?_take_of_lt (by omega)] at ei
        have := (List.getElem?_inj (List.getElem?_eq_some_iff.mp ei).1 nd).mp (ei.trans ef.symm)
        omega
      refine ⟨T, _, rfl, SqT.of hTt, rfl, _, _, rfl, _, _, rfl, rfl, rfl, .int f0, rfl, y, rfl, kvB ((odd.zip ls).take j), .inl f0, rfl, hB8, by rw [kvB_len, List.length_take]; exact small1000 (by omega), ?_, Same.mut s8 nB⟩
      rw [upd_same, kvB_put nw, List.take_add_one, ez]
      rfl
    rintro H7 ⟨hB, s7⟩
    have hB : H7 B = some (.dK (kvB (odd.zip ls))) := by
      rw [hB, List.take_of_length_le (by omega)]
    have k07 := k06.trans (Kt.same T6 s7)
    have T7 := k07.tab
    have hD7 := s7 _ _ hD6
    have k17 : Kt Ps H1 H7 := k2.trans (k3.trans (Kt.same T3 (s6.trans s7)))
    have hL7 := k17.lst T1 hL
    have hys7 : Paired (IntsV H7) ys (evs odd) := Paired.mono (fun _ _ x => x.tk (k17.tk T1)) hys
    -- the layers, by their faces
    have lay : ∀ f0, f0 ∈ odd → ∃ b xs, valV (kvB (odd.zip ls)) (.inl f0) = some (.ref b) ∧ TupA H b xs ∧ ∀ g ∈ odd, atI xs g = some (.int (layI H odd ls f0 g)) := fun f0 hf => by
      rw [kvB_get]
      have hm : f0 ∈ (odd.zip ls).map (·.1) := by rw [zip_fst hll]; exact hf
      obtain ⟨e, he', e1'⟩ := List.mem_map.mp hm
      cases fd : (odd.zip ls).find? fun e => decide (e.1 = f0) with
      | none => exact absurd (decide_eq_true e1') (List.find?_eq_none.mp fd e he')
      | some p =>
        have hp1 : p.1 = f0 := by
          have := List.find?_some fd
          exact of_decide_eq_true this
        have hpm := List.mem_of_find?_eq_some fd
        have hl := List.all_eq_true.mp hall p hpm
        have hlay : layI H odd ls f0 = fun g => valZ ((parts H p.2).getD []) g := by
          funext g
          unfold layI lyAt
          rw [fd]
          rfl
        unfold layB at hl
        cases epp : parts H p.2 with
        | none => rw [epp] at hl; cases hl
        | some xs =>
          rw [epp] at hl
          rw [Bool.and_eq_true, Bool.and_eq_true, decide_eq_true_iff] at hl
          obtain ⟨b, eb, hb⟩ := parts_at epp
          refine ⟨b, xs, by rw [← eb]; rfl, hb, fun g hg' => ?_⟩
          rw [hlay, epp]
          have := bo g hg'
          exact valZ_at hl.2.1 this.1 (by omega)
    refine ⟨.ref L, rfl, L, rfl, ⟨_, SqL.of hL7⟩, ?_⟩
    have lE : ys.length = (evs odd).length := lys
    refine all_gen (walk_list (K := K) (a := L) (xs := ys)) (fun i => rowH (layI H odd ls) (numF odd zs) ((evs odd).getD i [])) T7 hPt (fun H' k => SqL.of (k.lst T7 hL7)) ?_ ?_
    · rintro i x H8 H9 hi ⟨k8, al⟩ ⟨rfl, ex⟩
      obtain ⟨c, ec, ca, rfl, hca⟩ := Paired.at hys7 ex
      have cm := List.mem_of_getElem? ec
      obtain ⟨f0, c', rfl, hf0, hc', c2, cl⟩ := odd_head cm
      have k08 := k07.trans k8
      obtain ⟨b, xs, eb, hb, hat⟩ := lay f0 hf0
      have hD8 := k8.keep D _ (Tabs.out T7 hD7 fun _ z => by cases z) hD7
      have hB8 := k8.dct T7 hB
      refine ⟨rfl, .ref ca, rfl, .ref B, rfl, .ref D, rfl, .ref ca, f0 :: c', B, kvB (odd.zip ls), D, (evs odd).zip zs ++ [([], 0)], layI H odd ls, rfl, ⟨ca, rfl, k8.tup T7 hca⟩, ⟨c2, by omega⟩, hB8, ⟨b, xs, eb, hb.kt k08 hT, fun g hg' => hat g (hc' g hg')⟩, hD8, mem_fst (by rw [fz]; exact cm), fun g hg' => ?_, k08.tab, fun H10 k10 => ⟨_, rfl, ?_⟩⟩
      · rcases less2_evs nd cm hg' with z | z
        · rw [z, List.map_append]
          exact List.mem_append_right _ (by simp)
        · exact mem_fst (by rw [fz]; exact z)
      · refine all_fin (p := fun i => rowH (layI H odd ls) (numF odd zs) ((evs odd).getD i [])) (k8.trans k10) al hi (by rw [List.getD_eq_getElem?_getD, ec]; rfl) fun h => ?_
        rw [lE, all_range (evs odd) (rowH (layI H odd ls) (numF odd zs)) []] at h
        refine ⟨_, rfl, ?_⟩
        refine no _ (k08.trans k10) ?_
        rw [es, h]
        rfl
    · intro H8 k8 h
      rw [lE, all_range (evs odd) (rowH (layI H odd ls) (numF odd zs)) []] at h
      have k08 := k07.trans k8
      have hD8 := k8.keep D _ (Tabs.out T7 hD7 fun _ z => by cases z) hD7
      have mo : odd ∈ ((evs odd).zip zs ++ [(([] : List Int), (0 : Int))]).map (fun e => e.1) := by
        by_cases z : odd = []
        · rw [List.map_append, z]
          exact List.mem_append_right _ (by simp)
        · exact mem_fst (by rw [fz]; exact evs_self z ev)
      refine ⟨_, rfl, .ref D, rfl, .ref o, rfl, D, .int (numF odd zs odd), rfl, ?_, ?_⟩
      · unfold numF
        rw [← lk_get mo]
        exact DGet.t hD8 (by rw [inl_kV]; exact k08.tup hT ho)
      · have := q _ k08
        rw [es, h] at this
        exact this
end
/-! ### flat papers that hold -/
def gapsF (ts : List Tie) (fs : List (List Dt)) (ws : List Int) : List Gap := ((besF ts fs).zip ws).map fun p => (p.1.1, p.1.2, p.2)
abbrev oddF (ts : List Tie) (fs : List (List Dt)) : List Int := oddN ts fs fs.length
def flatB (H : Hp) (ts : List Tie) (fs : List (List Dt)) (ws : List Int) (number : Int) (v : V) : Bool := if (oddF ts fs).length ≤ 8 then (match shownF H (oddF ts fs) fs.length (gapsF ts fs ws) v with
    | some s => decide (number ≤ s)
    | none => false) else false
theorem oddF_rising (ts : List Tie) (fs : List (List Dt)) (m : Nat) : (oddN ts fs m).Pairwise (· < ·) := by
  unfold oddN
  rw [List.pairwise_map]
  exact (List.pairwise_lt_range.filter _).imp fun h => by omega
theorem oddF_rg {ts : List Tie} {fs : List (List Dt)} {m : Nat} : ∀ x ∈ oddN ts fs m, 0 ≤ x ∧ x < (m : Int) := fun x hx => by
  unfold oddN at hx
  obtain ⟨i, hi, rfl⟩ := List.mem_map.mp hx
  have := List.mem_range.mp (List.mem_filter.mp hi).1
  omega
theorem bes_rg {ts : List Tie} {fs : List (List Dt)} (F : FcOk ts fs) : ∀ p ∈ besF ts fs, (0 ≤ p.1 ∧ p.1 < (fs.length : Int)) ∧ 0 ≤ p.2 ∧ p.2 < (fs.length : Int) := fun p hp => by
  unfold besF at hp
  obtain ⟨⟨t, i⟩, hi, rfl⟩ := List.mem_map.mp hp
  have et := List.mem_zipIdx_iff_getElem?.mp hi
  have h := F.has i t et
  have h1 := faceAt_lt h.1
  have h2 := faceAt_lt h.2
  show (0 ≤ ((faceAt fs ((i : Int), t.one) : Nat) : Int) ∧ ((faceAt fs ((i : Int), t.one) : Nat) : Int) < _) ∧ 0 ≤ ((faceAt fs ((i : Int), t.other) : Nat) : Int) ∧ ((faceAt fs ((i : Int), t.other) : Nat) : Int) < _
  omega
theorem gaps_rg {ts : List Tie} {fs : List (List Dt)} (F : FcOk ts fs) (ws : List Int) : ∀ g ∈ gapsF ts fs ws, (0 ≤ g.1 ∧ g.1 < (fs.length : Int)) ∧ 0 ≤ g.2.1 ∧ g.2.1 < (fs.length : Int) := fun g hg => by
  unfold gapsF at hg
  obtain ⟨p, hp, rfl⟩ := List.mem_map.mp hg
  exact bes_rg F p.1 (List.of_mem_zip (a := p.1) (b := p.2) hp).1
theorem gaps_take {ts : List Tie} {fs : List (List Dt)} {ws : List Int} {i : Nat} {p : Int × Int} {w : Int} (e : (besF ts fs)[i]? = some p) (ew : ws[i]? = some w) : (gapsF ts fs ws).take (i + 1) = (gapsF ts fs ws).take i ++ [(p.1, p.2, w)] := by
  rw [List.take_add_one]
  congr 1
  unfold gapsF
  rw [List.getElem?_map, zip_at e ew]
  rfl
def spFlatPaper (Ps : List Addr) : Sp := fun vs H Q _ => ∃ (wv : V) (o : Addr) (wts : V) (number : Int) (v : V) (n : Nat) (ts : List Tie) (rs : List (List Int)) (es : List (Int × Int)) (ws : List Int), vs = [wv, .ref o, wts, .int number, v] ∧ FlW H wv o n ts rs es ∧ WtV H wts ws ∧ ws.length = ts.length ∧ PapA H v ∧ KeyOk H (oddF ts (fcs es rs)) v ∧ Tabs Ps H ∧
  ∀ H', Kt Ps H H' → FcOk ts (fcs es rs) → Q (.bl (flatB H ts (fcs es rs) ws number v)) H'
theorem layI_stay {H H' : Hp} {odd : List Int} {ls : List V} (h : ∀ x ∈ ls, parts H' x = parts H x) (f g : Int) : layI H' odd ls f g = layI H odd ls f g := by
  unfold layI
  have : parts H' (lyAt odd ls f) = parts H (lyAt odd ls f) := by
    unfold lyAt
    cases fd : (odd.zip ls).find? fun e => decide (e.1 = f) with
    | none => rfl
    | some p =>
      have := List.mem_of_find?_eq_some fd
      exact h p.2 (List.of_mem_zip (a := p.1) (b := p.2) this).2
  rw [this]
theorem rowH_congr {lay lay' : Int → Int → Int} (h : ∀ f g, lay' f g = lay f g) (num : List Int → Int) (c : List Int) : rowH lay' num c = rowH lay num c := by
  have : lay' = lay := by funext f g; exact h f g
  rw [this]
theorem shownF_stay {H H' : Hp} {v : V} (p : PapA H v) (s : StayP H H') (odd : List Int) (m : Nat) (gaps : List Gap) : shownF H' odd m gaps v = shownF H odd m gaps v := by
  unfold shownF
  rw [(s v p.kn).2]
  cases e : parts H v with
  | none => rfl
  | some xs =>
    match xs, e with
    | [], _ => rfl
    | [_], _ => rfl
    | _ :: _ :: _ :: _, _ => rfl
    | [l, t], e =>
      have pl := (p.at' e).1 l (by simp)
      have pt := (p.at' e).1 t (by simp)
      show (match parts H' l with | some ls => _ | none => none) = (match parts H l with | some ls => _ | none => none)
      rw [(s l pl.kn).2]
      cases el : parts H l with
      | none => rfl
      | some ls =>
        have pls := (pl.at' el).1
        have h1 : ∀ x ∈ ls, parts H' x = parts H x := fun x hx => (s x (pls x hx).kn).2
        show (if _ then (match tabB H' (evs odd) t with | some zs => _ | none => none) else none) = (if _ then (match tabB H (evs odd) t with | some zs => _ | none => none) else none)
        rw [tabB_stay pt s]
        cases et : tabB H (evs odd) t with
        | none => rfl
        | some zs =>
          have e1 : (odd.zip ls).all (fun p => layB H' gaps m p.1 p.2) = (odd.zip ls).all (fun p => layB H gaps m p.1 p.2) := by
            rw [Bool.eq_iff_iff, List.all_eq_true, List.all_eq_true]
            have each : ∀ x ∈ odd.zip ls, layB H' gaps m x.1 x.2 = layB H gaps m x.1 x.2 := fun x hx => layB_kn (h1 x.2 (List.of_mem_zip (a := x.1) (b := x.2) hx).2) gaps m x.1
            exact ⟨fun h x hx => by rw [← each x hx]; exact h x hx, fun h x hx => by rw [each x hx]; exact h x hx⟩
          have e2 : rowH (layI H' odd ls) (numF odd zs) = rowH (layI H odd ls) (numF odd zs) := funext fun c => rowH_congr (fun f g => layI_stay h1 f g) _ c
          show (if _ then (if ((odd.zip ls).all (fun p => layB H' gaps m p.1 p.2) && (evs odd).all (rowH (layI H' odd ls) (numF odd zs))) = true then _ else none) else none) = (if _ then (if ((odd.zip ls).all (fun p => layB H gaps m p.1 p.2) && (evs odd).all (rowH (layI H odd ls) (numF odd zs))) = true then _ else none) else none)
          rw [e1, e2]
section
variable {P : Program} {w : World} {K : PySem.W.Frag} {mg : Str → Option Value} {base : Heap}
set_option maxHeartbeats 4000000 in
theorem ok_flat_paper_holds {f : Addr} {fd : FuncData} {tm : Tok} {Ps : List Addr} (F : Fun K "flat_paper_holds" "flat_paper_holds" s_flat_paper_holds f fd) (M : Free mg) (gM : mg "MOST_ODD" = some (.int 8 tm)) (m_enumerate : mg "enumerate" = none) (D_flat_faces : Df P w K mg base 4 "flat_faces" ["web", "orders"] spFlatFaces) (D_odd_among : Df P w K mg base 1 "odd_among" ["web", "faces"] spOddAmong) (D_faces_beside : Df P w K mg base 1 "faces_beside" ["web", "faces"] spFacesBeside) (D_weight_of : Df P w K mg base 1 "weight_of" ["weights", "tie"] spWeightF) (D_number_shown : Df P w K mg base 8 "number_shown" ["odd", "many", "gaps", "thing"] (spNumShown Ps)) : FnOk P w K mg base CX0 9 f fd ["web", "orders", "weights", "number", "thing"] (spFlatPaper Ps) := by
  obtain ⟨f_flat_faces, fd_flat_faces, G_flat_faces, g_flat_faces, k_flat_faces, b_flat_faces⟩ := D_flat_faces
  obtain ⟨f_odd_among, fd_odd_among, G_odd_among, g_odd_among, k_odd_among, b_odd_among⟩ := D_odd_among
  obtain ⟨f_faces_beside, fd_faces_beside, G_faces_beside, g_faces_beside, k_faces_beside, b_faces_beside⟩ := D_faces_beside
  obtain ⟨f_weight_of, fd_weight_of, G_weight_of, g_weight_of, k_weight_of, b_weight_of⟩ := D_weight_of
  obtain ⟨f_number_shown, fd_number_shown, G_number_shown, g_number_shown, k_number_shown, b_number_shown⟩ := D_number_shown
  refine F.ok sc_flat_paper_holds (fun vs H Q E h => ?_) (fun cdv A outer s H vs Q E hr h => ?_)
  · obtain ⟨wv, o, wts, number, v, n, ts, rs, es, ws, rfl, _⟩ := h
    rfl
  · obtain ⟨wv, o, wts, number, v, n, ts, rs, es, ws, rfl, W, hw, lw, pa, ky, hT, q⟩ := h
    refine ⟨_, (pss_cons (ps_set (i := 5) sc_flat_paper_holds.nd rfl (.inl rfl) (pe_call G_flat_faces (hr.mono (by decide)) (by rfl) g_flat_faces k_flat_faces b_flat_faces .nil pass0 (pa_cons (pv 0) (pa_cons (pv 1) pa_nil))))
      (pss_cons (ps_set (i := 6) sc_flat_paper_holds.nd rfl (.inl rfl) (pe_call G_odd_among (hr.mono (by decide)) (by rfl) g_odd_among k_odd_among b_odd_among .nil pass0 (pa_cons (pv 0) (pa_cons (pv 5) pa_nil))))
      (pss_cons (ps_if (pt_cmpR op_gt (pe_callB call_len_seq (by rfl) M.len PySem.boot_len (pa_cons (pv 6) pa_nil)) (pe_glob rfl gM (v := .int 8) ⟨tm, rfl⟩) (nomark _))
        (pss_one (ps_ret pe_bl))
        pss_nil)
      (pss_cons (ps_setLc (i := 7) (own := [("tie", 8), ("one", 9), ("other", 10)]) (g := (gTup K 2 (gCons (gName 8) (gCons (gTup K 2 (gCons (gName 9) (gCons (gName 10) gNil))) gNil)))) (tt := tYes) rfl sc_flat_paper_holds.nd rfl rfl (sw_true rfl rfl rfl (by decide +kernel)) (pi_enum (by rfl) m_enumerate (pa_cons (pe_call G_faces_beside (hr.mono (by decide)) (by rfl) g_faces_beside k_faces_beside b_faces_beside .nil pass0 (pa_cons (pv 0) (pa_cons (pv 5) pa_nil))) pa_nil)) (blkOk_by (N := N_flat_paper_holds) (sc := defScope s_flat_paper_holds) (own := [("tie", 8), ("one", 9), ("other", 10)]) (by decide +kernel)) (fun _ _ _ _ _ => (pg_tup rfl (pgs_cons (pg_name (i := 8) sc_flat_paper_holds.nd rfl (.inl rfl)) (pgs_cons (pg_tup rfl (pgs_cons (pg_name (i := 9) sc_flat_paper_holds.nd rfl (.inl rfl)) (pgs_cons (pg_name (i := 10) sc_flat_paper_holds.nd rfl (.inl rfl)) pgs_nil))) pgs_nil)))) (fun _ _ _ _ _ => pts_nil) (fun _ _ _ _ _ => (pe_tup (pa_cons (pv 9) (pa_cons (pv 10) (pa_cons (pe_call G_weight_of (hr.mono (by decide)) (by rfl) g_weight_of k_weight_of b_weight_of .nil pass0 (pa_cons (pv 2) (pa_cons (pv 8) pa_nil))) pa_nil))))))
      (pss_cons (ps_set (i := 11) sc_flat_paper_holds.nd rfl (.inl rfl) (pe_call G_number_shown (hr.mono (by decide)) (by rfl) g_number_shown k_number_shown b_number_shown .nil pass0 (pa_cons (pv 6) (pa_cons (pe_callB call_len_seq (by rfl) M.len PySem.boot_len (pa_cons (pv 5) pa_nil)) (pa_cons (pv 7) (pa_cons (pv 4) pa_nil))))))
      (pss_one (ps_ret (pe_and (pe_cmpR op_notN (pv 11) pe_non (nomark _)) (pe_one (pe_cmpR op_le (pv 3) (pv 11) (nomark _))))))))))), ?_⟩
    refine ⟨wv, rfl, .ref o, rfl, wv, o, n, ts, rs, es, rfl, W, fun r vs1 H1 s1 hr1 hv1 F => ?_⟩
    have k1 := Kt.same hT s1
    have W1 := W.tk (Same.tk s1)
    refine ⟨wv, rfl, .ref r, rfl, wv, n, ts, r, vs1, fcs es rs, rfl, W1.W, hr1, hv1, F.len, F.rg, fun d H2 s2 hd => ?_⟩
    have k2 := k1.trans (Kt.same k1.tab s2)
    have T2 := k2.tab
    have q := fun H' k => q H' k F
    generalize hfs : fcs es rs = fs at F q hv1 hd ky
    have ld : (oddF ts fs).length % 2 = 0 := F.ev
    have hv2 := fc_tk (Same.tk s2) hv1
    have hr2 := s2 _ _ hr1
    have lv : vs1.length = fs.length := Paired.length hv1
    refine ⟨.ref d, rfl, d, _, rfl, .inr (SqT.of hd), _, 8, rfl, rfl, _, rfl, ?_⟩
    rw [List.length_map]
    have lo : (oddF ts fs).length ≤ fs.length := by
      unfold oddF oddN
      rw [List.length_map]
      refine Nat.le_trans (List.length_filter_le _ _) ?_
      rw [List.length_range]
      exact Nat.le_refl _
    by_cases h8 : (oddF ts fs).length ≤ 8
    case neg =>
      rw [decide_eq_true (show (8 : Int) < ((oddF ts fs).length : Nat) by omega)]
      have := q _ k2
      unfold flatB at this
      rw [if_neg h8] at this
      exact this
    rw [decide_eq_false (show ¬ (8 : Int) < ((oddF ts fs).length : Nat) by omega)]
    have W2 := W1.tk (Same.tk s2)
    have few := W.ok.few
    refine ⟨wv, rfl, .ref r, rfl, wv, n, ts, r, vs1, fs, rfl, W2.W, few, hr2, hv2, F, fun L ys H3 s3 hL hys => ?_⟩
    have k3 := k2.trans (Kt.same T2 s3)
    have T3 := k3.tab
    have ly : ys.length = ts.length := by rw [Paired.length hys, bes_len]
    refine ⟨L, ys, rfl, SqL.of hL, fun Z nZ => ?_⟩
    refine lc_it (walk_enum (K := K) (xs := ys)) (fun i H' => ∃ zs, H' Z = some (.lst zs) ∧ Paired (GapV H') zs ((gapsF ts fs ws).take i) ∧ Same H3 H') ⟨[], upd_same, .nil, same_new nZ⟩ (fun i H' _ ⟨_, _, _, s⟩ => SqL.of (s _ _ hL)) ?_ ?_
    · rintro i x H4 H5 hi ⟨zs, hZ, hz, s4⟩ ⟨T, x1, y, rfl, nT, rfl, e1, e2⟩
      obtain rfl : V.int (i : Nat) = x1 := Option.some.inj e1
      obtain ⟨p, ep, c, rfl, hc⟩ := Paired.at hys e2
      have li := (List.getElem?_eq_some_iff.mp ep).1
      rw [bes_len] at li
      have ew : ws[i]? = some (ws[i]'(by omega)) := List.getElem?_eq_getElem _
      have sT := same_new (o := .tup [.int (i : Nat), .ref c]) nT
      have hT5 := upd_same (H := H4) (a := T) (o := .tup [.int (i : Nat), .ref c])
      have s5 := s4.trans sT
      have hZ5 := sT _ _ hZ
      have hz5 : Paired (GapV (upd H4 T (.tup [.int (i : Nat), .ref c]))) zs _ := Paired.mono (fun _ _ x => GapV.tk (Same.tk sT) x) hz
      generalize upd H4 T (.tup [.int (i : Nat), .ref c]) = H5 at sT hT5 s5 hZ5 hz5
      have hc5 := s5 _ _ hc
      have hw5 : WtV H5 wts ws := hw.tk ((k3.trans (Kt.same T3 s5)).tk hT)
      refine ⟨T, _, rfl, SqT.of hT5, rfl, _, _, rfl, _, _, rfl, c, _, rfl, SqT.of hc5, rfl, _, _, rfl, _, _, rfl, rfl, rfl, rfl, ?_⟩
      refine ⟨.int p.1, rfl, .int p.2, rfl, wts, rfl, .int (i : Nat), rfl, wts, i, ws, _, rfl, hw5, ew, by show 3 ≤ sizeLine; decide, fun a na => ?_⟩
      have sa := same_new (o := .tup [.int p.1, .int p.2, .int (ws[i]'(by omega))]) na
      have ha := upd_same (H := H5) (a := a) (o := .tup [.int p.1, .int p.2, .int (ws[i]'(by omega))])
      have hZ6 := sa _ _ hZ5
      have hz6 : Paired (GapV (upd H5 a (.tup [.int p.1, .int p.2, .int (ws[i]'(by omega))]))) zs _ := Paired.mono (fun _ _ x => GapV.tk (Same.tk sa) x) hz5
      have s6 := s5.trans sa
      generalize upd H5 a (.tup [.int p.1, .int p.2, .int (ws[i]'(by omega))]) = H6 at sa ha hZ6 hz6 s6
      have lz : zs.length ≤ 120 := by
        have := Paired.length hz
        rw [List.length_take] at this
        omega
      have tk := tk_lst (ys := zs ++ [.ref a]) hZ6
      refine ⟨zs, hZ6, small1000 (by omega), zs ++ [.ref a], upd_same, ?_, Same.mut s6 nZ⟩
      rw [gaps_take ep ew]
      exact Paired.snoc (Paired.mono (fun _ _ x => GapV.tk tk x) hz6) ⟨a, rfl, tk _ _ ha⟩
    · rintro H4 ⟨zs, hZ, hz, s4⟩
      have lgz : (gapsF ts fs ws).length = ts.length := by
        unfold gapsF
        rw [List.length_map, List.length_zip, bes_len]
        omega
      rw [List.take_of_length_le (by omega)] at hz
      have k4 := k3.trans (Kt.same T3 s4)
      have s24 := s3.trans s4
      refine ⟨.ref d, rfl, .ref r, rfl, r, _, rfl, .inr (SqT.of (s24 _ _ hr2)), .ref Z, rfl, v, rfl, d, oddF ts fs, fs.length, Z, zs, gapsF ts fs ws, v, by rw [lv]; rfl, s24 _ _ hd, h8, ld, oddF_rising ts fs _, oddF_rg, hZ, hz, gaps_rg F ws, pa.stay (StayP.kt k4 hT), ky.kt pa k4 hT, k4.tab, fun H5 k5 => ?_⟩
      rw [shownF_stay pa (StayP.kt k4 hT)]
      have qq := q _ (k4.trans k5)
      unfold flatB at qq
      rw [if_pos h8] at qq
      cases es' : shownF H (oddF ts fs) fs.length (gapsF ts fs ws) v with
      | none =>
        rw [es'] at qq
        exact ⟨_, rfl, rfl, _, rfl, qq⟩
      | some s =>
        rw [es'] at qq
        exact ⟨_, rfl, rfl, _, rfl, .int number, rfl, .int s, rfl, _, _, rfl, rfl, qq⟩
end
section
variable {P : Program} {w : World} {K : PySem.W.Frag} {mg : Str → Option Value} {base : Heap}
theorem ok_l_whole {f : Addr} {fd : FuncData} (F : Fun K "_law_whole" "_law_whole" s_l_whole f fd) (M : Free mg) : FnOk P w K mg base CX0 1 f fd ["_law_thing"] spWhole := by
  refine F.ok sc_l_whole (fun vs H Q E h => ?_) (fun cdv A outer s H vs Q E hr h => ?_)
  · obtain ⟨v, rfl, _⟩ := h
    rfl
  · obtain ⟨v, rfl, hk, q⟩ := h
    refine ⟨_, (pss_one (ps_ret (pe_and (pe_callB call_isi (by rfl) M.isinstance (by decide +kernel) (pa_cons (pv 0) (pa_cons (pe_bltn (v := .ty "int") (by rfl) M.int (by decide +kernel) rfl) pa_nil))) (pe_one (pe_not (pe_callB call_isi (by rfl) M.isinstance (by decide +kernel) (pa_cons (pv 0) (pa_cons (pe_bltn (v := .ty "bool") (by rfl) M.bool (by decide +kernel) rfl) pa_nil)))))))), ?_⟩
    obtain ⟨t1, h1, e1⟩ := kn_int (K := K) hk
    obtain ⟨t2, h2, e2⟩ := kn_bool (K := K) hk
    refine ⟨v, rfl, v, _, t1, _, _, rfl, .ty "int", h1, e1, _, rfl, ?_⟩
    rw [← and_whole] at q
    cases hi : isI v with
    | false =>
      rw [hi] at q
      exact q
    | true =>
      rw [hi] at q
      exact ⟨v, rfl, v, _, t2, _, _, rfl, .ty "bool", h2, e2, _, rfl, q⟩
end
/-! ### the law's own look at flat papers -/
theorem SqT.kt {K : PySem.W.Frag} {Ps : List Addr} {H H' : Hp} {a : Addr} {xs : List V} (h : TupA H a xs) (k : Kt Ps H H') (t : Tabs Ps H) : SqT K H' a xs := (h.kt k t).sq
def spOddL : Sp := fun vs H Q _ => ∃ (wv : V) (o : Addr) (n : Nat) (ts : List Tie) (rs : List (List Int)) (es : List (Int × Int)), vs = [wv, .ref o] ∧ FlW H wv o n ts rs es ∧
  ∀ r ob H', Same H H' → ob.dict = none → H r = none → H' r = some (.frz ob (.tup ((oddF ts (fcs es rs)).map V.int))) → FcOk ts (fcs es rs) → Q (.ref r) H'
def spWhere : Sp := fun vs H Q _ => ∃ (wv : V) (o : Addr) (n : Nat) (ts : List Tie) (rs : List (List Int)) (es : List (Int × Int)), vs = [wv, .ref o] ∧ FlW H wv o n ts rs es ∧
  ∀ D H', Same H H' → H' D = some (.dT (kvN (fndF (fcs es rs)))) → FcOk ts (fcs es rs) → Q (.ref D) H'
def spChoicesL (K : PySem.W.Frag) : Sp := fun vs H Q _ => ∃ (o : Addr) (fs : List Int), vs = [.ref o] ∧ (∀ H', Same H H' → SqT K H' o (fs.map V.int)) ∧ fs.length ≤ 8 ∧
  ∀ L ys H', Same H H' → H L = none → H' L = some (.lst ys) → Paired (IntsV H') ys (evs fs) → Q (.ref L) H'
section
variable {P : Program} {w : World} {K : PySem.W.Frag} {mg : Str → Option Value} {base : Heap}
set_option maxHeartbeats 2000000 in
theorem ok_l_odd {f : Addr} {fd : FuncData} (F : Fun K "_law_odd" "_law_odd" s_l_odd f fd) (M : Free mg) (m_enumerate : mg "enumerate" = none) (D_l_due : Df P w K mg base 2 "_law_due" ["_law_web_here", "_law_orders"] spDueF) : FnOk P w K mg base CX0 3 f fd ["_law_web_here", "_law_orders"] spOddL := by
  obtain ⟨f_l_due, fd_l_due, G_l_due, g_l_due, k_l_due, b_l_due⟩ := D_l_due
  refine F.ok sc_l_odd (fun vs H Q E h => ?_) (fun cdv A outer s H vs Q E hr h => ?_)
  · obtain ⟨wv, o, n, ts, rs, es, rfl, _⟩ := h
    rfl
  · obtain ⟨wv, o, n, ts, rs, es, rfl, W, qq⟩ := h
    obtain ⟨us, ho, hp⟩ := W.us
    have hW := W.W
    have od := W.od
    have tw := W.tw
    have lr : rs.length ≤ 50 := by have := W.ok.hi; have := W.lr; omega
    have le := W.le
    have q : ∀ r S H' (ob : Obj), Same H H' → S.Perm ((stepsB es rs rs.length).map (·.1)) → S.Pairwise (fun x y => SrtO.lexB y x = false) → ob.dict = none → H r = none → H' r = some (.frz ob (.tup ((oddN ts (facesG (stepsB es rs rs.length) S).1 (facesG (stepsB es rs rs.length) S).1.length).map V.int))) → Q (.ref r) H' := fun r S H' ob s p1 p2 odn nr h => qq r ob H' s odn nr (by rw [← fcs_of ⟨p1, p2⟩]; exact h) (FcOk.of od tw le ⟨p1, p2⟩)
    refine ⟨_, (pss_cons (ps_set (i := 2) sc_l_odd.nd rfl (.inl rfl) (pe_lst pa_nil))
      (pss_cons (ps_for PassesOwn.never rfl (pi_enumT (by rfl) m_enumerate (pa_cons (pe_call G_l_due (hr.mono (by decide)) (by rfl) g_l_due k_l_due b_l_due .nil pass0 (pa_cons (pv 0) (pa_cons (pv 1) pa_nil))) pa_nil)) (pg_tup rfl (pgs_cons (pg_name (i := 3) sc_l_odd.nd rfl (.inl rfl)) (pgs_cons (pg_name (i := 4) sc_l_odd.nd rfl (.inl rfl)) pgs_nil)))
        (pss_cons (ps_set (i := 5) sc_l_odd.nd rfl (.inl rfl) pe_int)
        (pss_cons (ps_for PassesOwn.never rfl (pi_tup (pv 4)) (pg_tup rfl (pgs_cons (pg_name (i := 6) sc_l_odd.nd rfl (.inl rfl)) (pgs_cons (pg_name (i := 7) sc_l_odd.nd rfl (.inl rfl)) pgs_nil)))
          (pss_one (ps_set (i := 5) sc_l_odd.nd rfl (.inl rfl) (pe_op op_add (pv 5) (pe_callTy call_int1 (by rfl) M.int (by decide +kernel) (pa_cons (pe_cmpR op_eq (pe_ix ix_tup (pe_ix ix_tup (pe_ix ix_tup (pv 0) pe_int (fun _ _ => rfl)) (pv 6) (fun _ _ => rfl)) pe_int (fun _ _ => rfl)) pe_str (nomark _)) pa_nil))))))
        (pss_one (ps_if (pt_cmpR op_eq (pe_op op_mod (pv 5) pe_int) pe_int (nomark _))
          (pss_one (ps_expr (pe_bm PySem.F.plainAttrs_list PySem.F.slot_list_append PySem.F.type_list_append mt_append (pv 2) (pa_cons (pv 3) pa_nil))))
          pss_nil)))))
      (pss_one (ps_ret (pe_callTy call_tuple_ofZ (by rfl) M.tuple (by decide +kernel) (pa_cons (pv 2) pa_nil)))))), ?_⟩
    obtain ⟨wa, wb, ws0, rfl, hwa, hwb, hpw⟩ := id hW
    refine ⟨Nat.zero_le _, fun L nL => ?_⟩
    have sL := same_new (o := .lst []) nL
    have hL1 : (upd H L (.lst [])) L = some (.lst ((oddN ts ([] : List (List (Int × Int))) 0).map V.int)) := upd_same
    generalize upd H L (.lst []) = H1 at sL hL1
    refine ⟨.ref wa, rfl, .ref o, rfl, .ref wa, n, ts, o, us, rs, es, rfl, hW.tk (Same.tk sL), sL _ _ ho, Paired.mono (fun _ _ x => x.tk (Same.tk sL)) hp, od, tw, lr, le, fun r vs1 S H2 s2 pS oS hr2 hv2 => ?_⟩
    have bd := faces_bound od tw le pS
    have q := fun r ob H' s odn nr h => q r S H' ob s pS oS odn nr h
    generalize (facesG (stepsB es rs rs.length) S).1 = fs at hv2 bd q
    clear pS oS
    have lv : vs1.length = fs.length := Paired.length hv2
    refine ⟨r, vs1, rfl, SqT.of hr2, ?_⟩
    have hL2 : H2 L = some (.lst ((oddN ts fs 0).map V.int)) := s2 _ _ hL1
    have s02 := sL.trans s2
    refine for_it (walk_enumT (xs := vs1)) (fun i σ' H' => ∃ y3 y4 y5 y6 y7 : Option V, σ' = [some (.ref wa), some (.ref o), some (.ref L), y3, y4, y5, y6, y7] ∧ H' L = some (.lst ((oddN ts fs i).map V.int)) ∧ H' r = some (.tup vs1) ∧ Paired (FcV H') vs1 fs ∧ Same H H') ⟨_, _, _, _, _, rfl, hL2, hr2, hv2, s02⟩ (fun i σ' H' _ h => by
      obtain ⟨_, _, _, _, _, _, _, h, _⟩ := h
      exact SqT.of h) ?_ ?_
    · clear hL2 hr2 hv2 s02
      rintro i x σ' H3 H4 hi ⟨y3, y4, y5, y6, y7, rfl, hL, hr3, hv3, s3⟩ ⟨T, x1, y, rfl, nT, rfl, e1, e2⟩
      obtain rfl : V.int (i : Nat) = x1 := Option.some.inj e1
      obtain ⟨ps, ep, a, ws, rfl, ha, hws⟩ := Paired.at hv3 e2
      have bp := bd.2 ps (List.mem_of_getElem? ep)
      have sT := same_new (o := .tup [.int (i : Nat), .ref a]) nT
      have hT := upd_same (H := H3) (a := T) (o := .tup [.int (i : Nat), .ref a])
      have hL4 := sT _ _ hL
      have hr4 := sT _ _ hr3
      have hv4 := fc_tk (Same.tk sT) hv3
      have ha4 := sT _ _ ha
      have hws4 := pr_tk (Same.tk sT) hws
      have s4 := s3.trans sT
      generalize upd H3 T (.tup [.int (i : Nat), .ref a]) = H4 at hT hL4 hr4 hv4 ha4 hws4 s4
      refine ⟨T, _, rfl, SqT.of hT, rfl, _, _, rfl, _, _, rfl, rfl, ?_⟩
      refine ⟨.ref a, rfl, a, rfl, ⟨_, SqT.of ha4⟩, ?_⟩
      refine for_tup (xs := ws) (fun j σ' H' => ∃ y6 y7 : Option V, σ' = [some (.ref wa), some (.ref o), some (.ref L), some (.int (i : Nat)), some (.ref a), some (.int (cntP ts (ps.take j) : Nat)), y6, y7] ∧ H' = H4) ⟨_, _, rfl, rfl⟩ (fun j σ' H' _ h => by
        obtain ⟨_, _, _, rfl⟩ := h
        exact SqT.of ha4) ?_ ?_
      · rintro j x σ' H' ex ⟨y6, y7, rfl, rfl⟩
        obtain ⟨q0, eq0, c, rfl, hc⟩ := Paired.at hws4 ex
        have b0 := bp.2 q0 (List.mem_of_getElem? eq0)
        obtain ⟨t, et⟩ : ∃ t, ts[q0.1.toNat]? = some t := ⟨_, List.getElem?_eq_getElem (by omega)⟩
        obtain ⟨u, eu, tc, rfl, htc⟩ := Paired.at' hpw et
        refine ⟨c, _, rfl, SqT.of hc, rfl, _, _, rfl, _, _, rfl, rfl, ?_⟩
        refine ⟨_, rfl, .ref wa, rfl, wa, _, 1, .ref wb, rfl, rfl, SqT.of (s4 _ _ hwa), rfl, .int q0.1, rfl, wb, ws0, q0.1, .ref tc, rfl, rfl, SqT.of (s4 _ _ hwb), atI_of b0.1 eu, tc, _, 2, _, rfl, rfl, SqT.of (s4 _ _ htc), rfl, rfl, .inr ⟨_, rfl, ?_⟩⟩
        rw [foe_eq54 et]
        refine ⟨_, _, rfl, rfl, some (.int q0.1), some (.int q0.2), ?_, rfl⟩
        rw [cntP_take eq0]
        cases foeK ts q0 <;> rfl
      · rintro σ' H' ⟨y6, y7, rfl, rfl⟩
        have lw : ws.length = ps.length := Paired.length hws4
        rw [lw, List.take_length]
        refine ⟨.int _, rfl, _, _, rfl, rfl, show (0 : Int) < 2 by decide, rfl, _, rfl, ?_⟩
        have eo : decide (V.int ((cntP ts ps : Nat) % 2 : Int) = V.int 1) = oddP ts ps := by
          rw [oddP_cnt, decide_eq_decide]
          exact ⟨fun h => V.int.inj h, fun h => by rw [h]⟩
        rw [eo]
        have es0 := oddN_succ ts fs i
        rw [List.getD_eq_getElem?_getD, ep] at es0
        have es0 : oddN ts fs (i + 1) = oddN ts fs i ++ if oddP ts ps = true then [(i : Int)] else [] := es0
        have ln : (oddN ts fs i).length ≤ i := by
          unfold oddN
          rw [List.length_map]
          have := List.length_filter_le (fun i => oddP ts (fs.getD i [])) (List.range i)
          rw [List.length_range] at this
          exact this
        cases ho : oddP ts ps with
        | true =>
          rw [ho, if_pos rfl] at es0
          refine ⟨.ref L, rfl, .inl ⟨rfl, _, SqL.of hL4⟩, .int (i : Nat), rfl, L, _, _, rfl, rfl, hL4, by rw [List.length_map]; exact small1000 (by omega), ?_⟩
          have tk := tk_lst (ys := (oddN ts fs i).map V.int ++ [.int (i : Nat)]) hL4
          exact ⟨_, _, _, _, _, rfl, by rw [upd_same, es0, List.map_append]; rfl, tk _ _ hr4, fc_tk tk hv4, Same.mut s4 nL⟩
        | false =>
          rw [ho, if_neg (by decide), List.append_nil] at es0
          exact ⟨_, _, _, _, _, rfl, by rw [es0]; exact hL4, hr4, hv4, s4⟩
    · rintro σ' H3 ⟨y3, y4, y5, y6, y7, rfl, hL, hr3, hv3, s3⟩
      rw [lv] at hL
      refine ⟨.ref L, rfl, L, _, rfl, SqL.of hL, fun r2 ob odn nr => ?_⟩
      exact q r2 ob _ (s3.trans (same_new nr)) odn (s3.free nr) upd_same
set_option maxHeartbeats 4000000 in
theorem ok_l_weight_at {f : Addr} {fd : FuncData} (F : Fun K "_law_weight_at" "_law_weight_at" s_l_weight_at f fd)  : FnOk P w K mg base CX0 1 f fd ["_law_weights_here", "_law_number"] spWeightF := by
  refine F.ok sc_l_weight_at (fun vs H Q E h => ?_) (fun cdv A outer s H vs Q E hr h => ?_)
  · obtain ⟨v, i, ws, w0, rfl, _⟩ := h
    rfl
  · obtain ⟨v, i, ws, w0, rfl, hw, ew, q⟩ := h
    refine ⟨_, (pss_one (ps_ret (pe_ifExp (pt_cmpR op_isN (pv 0) pe_non (nomark _)) pe_int (pe_ix ix_tup (pv 0) (pv 1) (fun _ _ => rfl))))), ?_⟩
    rcases hw with ⟨rfl, h1⟩ | ⟨a, rfl, ha⟩
    · obtain rfl := h1 w0 (List.mem_of_getElem? ew)
      exact ⟨.non, rfl, rfl, _, rfl, q⟩
    · refine ⟨.ref a, rfl, rfl, _, rfl, .ref a, rfl, .int i, rfl, a, _, _, _, rfl, rfl, SqT.of ha, ?_, q⟩
      exact atI_nat (by rw [List.getElem?_map, ew]; rfl)
set_option maxHeartbeats 4000000 in
theorem ok_l_where {f : Addr} {fd : FuncData} (F : Fun K "_law_where" "_law_where" s_l_where f fd) (m_enumerate : mg "enumerate" = none) (D_l_due : Df P w K mg base 2 "_law_due" ["_law_web_here", "_law_orders"] spDueF) : FnOk P w K mg base CX0 3 f fd ["_law_web_here", "_law_orders"] spWhere := by
  obtain ⟨f_l_due, fd_l_due, G_l_due, g_l_due, k_l_due, b_l_due⟩ := D_l_due
  refine F.ok sc_l_where (fun vs H Q E h => ?_) (fun cdv A outer s H vs Q E hr h => ?_)
  · obtain ⟨wv, o, n, ts, rs, es, rfl, _⟩ := h
    rfl
  · obtain ⟨wv, o, n, ts, rs, es, rfl, W, q⟩ := h
    have hu := room1 hr
    refine ⟨_, (pss_cons (ps_set (i := 2) sc_l_where.nd rfl (.inl rfl) pe_dnewT)
      (pss_cons (ps_for PassesOwn.never rfl (pi_enumT (by rfl) m_enumerate (pa_cons (pe_call G_l_due (hr.mono (by decide)) (by rfl) g_l_due k_l_due b_l_due .nil pass0 (pa_cons (pv 0) (pa_cons (pv 1) pa_nil))) pa_nil)) (pg_tup rfl (pgs_cons (pg_name (i := 3) sc_l_where.nd rfl (.inl rfl)) (pgs_cons (pg_name (i := 4) sc_l_where.nd rfl (.inl rfl)) pgs_nil)))
        (pss_one (ps_for PassesOwn.never rfl (pi_tup (pv 4)) (pg_name (i := 5) sc_l_where.nd rfl (.inl rfl))
          (pss_one (ps_dput hu (pv 2) (pv 5) (pv 3) rfl)))))
      (pss_one (ps_ret (pv 2))))), ?_⟩
    obtain ⟨us, ho, hp⟩ := W.us
    have few := stepsB_few W.od
    have hi := W.ok.hi
    have lr := W.lr
    have le := W.le
    refine fun D nD => ?_
    have sD := same_new (o := .dT []) nD
    have hD1 : (upd H D (.dT [])) D = some (.dT (kvN (fndF (([] : List (List Dt)))))) := upd_same
    have W1 := W.tk (Same.tk sD)
    obtain ⟨us1, ho1, hp1⟩ := W1.us
    generalize upd H D (.dT []) = H1 at sD hD1 W1 ho1 hp1
    refine ⟨wv, rfl, .ref o, rfl, wv, n, ts, o, us1, rs, es, rfl, W1.W, ho1, hp1, W.od, W.tw, by omega, le, fun r vs1 S H2 s2 pS oS hr2 hv2 => ?_⟩
    have iS : IsS es rs S := ⟨pS, oS⟩
    rw [fcs_of iS] at hv2
    have F := FcOk.of W.od W.tw le iS
    have q := fun H' s h => q D H' s h F
    generalize fcs es rs = fs at hv2 F q
    have lu : vs1.length = fs.length := Paired.length hv2
    have lF := F.len
    refine ⟨r, vs1, rfl, SqT.of hr2, ?_⟩
    have s02 := sD.trans s2
    refine for_it (walk_enumT (K := K) (xs := vs1)) (fun i σ' H' => ∃ y3 y4 y5 : Option V, σ' = [some wv, some (.ref o), some (.ref D), y3, y4, y5] ∧ H' D = some (.dT (kvN (fndF (fs.take i)))) ∧ Tk H2 H' ∧ Same H H') ⟨_, _, _, rfl, s2 _ _ hD1, fun _ _ h => h, s02⟩ (fun i σ' H' _ h => by
      obtain ⟨_, _, _, _, _, k, _⟩ := h
      exact SqT.of (k _ _ hr2)) ?_ ?_
    · rintro i x σ' H3 H4 hi ⟨y3, y4, y5, rfl, hD, k3, s3⟩ ⟨T, x1, y, rfl, nT, rfl, e1, e2⟩
      obtain rfl : V.int (i : Nat) = x1 := Option.some.inj e1
      obtain ⟨f, ef, b, ws, rfl, hb, hws⟩ := Paired.at hv2 e2
      have sT := same_new (o := .tup [.int (i : Nat), .ref b]) nT
      have hT := upd_same (H := H3) (a := T) (o := .tup [.int (i : Nat), .ref b])
      have hD4 := sT _ _ hD
      have s4 := s3.trans sT
      have k4 : Tk H2 (upd H3 T (.tup [.int (i : Nat), .ref b])) := k3.trans (Same.tk sT)
      generalize upd H3 T (.tup [.int (i : Nat), .ref b]) = H4 at hT hD4 s4 k4
      have lw : ws.length = f.length := Paired.length hws
      refine ⟨T, _, rfl, SqT.of hT, rfl, _, _, rfl, _, _, rfl, rfl, .ref b, rfl, b, rfl, ⟨ws, SqT.of (k4 _ _ hb)⟩, ?_⟩
      refine for_tup (xs := ws) (fun j σ' H' => ∃ y5 : Option V, σ' = [some wv, some (.ref o), some (.ref D), some (.int (i : Nat)), some (.ref b), y5] ∧ H' D = some (.dT (kvN (fndTo fs i j))) ∧ Tk H2 H' ∧ Same H H') ⟨_, rfl, ?_, k4, s4⟩ (fun j σ' H' _ h => by
        obtain ⟨_, _, _, k, _⟩ := h
        exact SqT.of (k _ _ hb)) ?_ ?_
      · rw [hD4]
        unfold fndTo
        rw [List.take_zero, List.map_nil, List.append_nil]
      · rintro j x σ' H5 ex ⟨y5, rfl, hD5, k5, s5⟩
        obtain ⟨s, es', c, rfl, hc⟩ := Paired.at hws ex
        have nw := fndTo_new F.nd ef es'
        have sub : (fndTo fs i j).length ≤ 1000 := by
          have := F.tot
          have e := fnd_len fs
          have l1 : (fndTo fs i j).length ≤ (fndF (fs.take (i + 1))).length := by
            rw [fnd_snoc ef]
            unfold fndTo
            rw [List.length_append, List.length_append, List.length_map, List.length_map, List.getD_eq_getElem?_getD, ef]
            have : (List.take j ((some f).getD [])).length ≤ f.length := by
              show (List.take j f).length ≤ _
              rw [List.length_take]
              omega
            omega
          have l2 : (fndF (fs.take (i + 1))).length ≤ (fndF fs).length := by
            rw [fnd_len, fnd_len]
            have : fs.flatten.length = (fs.take (i + 1)).flatten.length + (fs.drop (i + 1)).flatten.length := by
              rw [← List.length_append, ← List.flatten_append, List.take_append_drop]
            omega
          omega
        refine ⟨.int (i : Nat), rfl, .ref D, rfl, .ref c, rfl, D, _, rfl, DPut.t (k := [Sum.inl s.1, Sum.inl s.2]) hD5 (k5 _ _ hc) (by rw [kvN_len]; exact small1000 (by omega)), ?_⟩
        refine ⟨_, rfl, ?_, k5.trans (tk_dT hD5), Same.mut s5 nD⟩
        rw [upd_same, kvN_put nw]
        unfold fndTo
        rw [List.getD_eq_getElem?_getD, ef]
        show some (HO.dT (kvN (_ ++ (f.take j).map _ ++ _))) = some (HO.dT (kvN (_ ++ (f.take (j + 1)).map _)))
        rw [List.take_add_one, es', List.map_append, List.append_assoc]
        rfl
      · rintro σ' H5 ⟨y5, rfl, hD5, k5, s5⟩
        refine ⟨_, _, _, rfl, ?_, k5, s5⟩
        rw [hD5, fnd_snoc ef, lw]
        unfold fndTo
        rw [List.getD_eq_getElem?_getD, ef]
        show some (HO.dT (kvN (_ ++ (f.take f.length).map _))) = _
        rw [List.take_length]
    · rintro σ' H3 ⟨y3, y4, y5, rfl, hD, k3, s3⟩
      rw [lu, List.take_length] at hD
      exact ⟨.ref D, rfl, q H3 s3 hD⟩
set_option maxHeartbeats 4000000 in
theorem ok_l_choices {f : Addr} {fd : FuncData} (F : Fun K "_law_choices" "_law_choices" s_l_choices f fd) (M : Free mg) (m_enumerate : mg "enumerate" = none) (m_sorted : mg "sorted" = none) : FnOk P w K mg base CX0 1 f fd ["_law_odd_here"] (spChoicesL K) := by
  refine F.ok sc_l_choices (fun vs H Q E h => ?_) (fun cdv A outer s H vs Q E hr h => ?_)
  · obtain ⟨o, fs, rfl, _⟩ := h
    rfl
  · obtain ⟨o, fs, rfl, ho, l8, q⟩ := h
    refine ⟨_, (pss_cons (ps_set (i := 1) sc_l_choices.nd rfl (.inl rfl) (pe_lst pa_nil))
      (pss_cons (ps_for PassesOwn.never rfl (pi_range1 (by rfl) M.range (pa_cons (pe_op op_shl pe_int (pe_callB call_len_seq (by rfl) M.len PySem.boot_len (pa_cons (pv 0) pa_nil))) pa_nil)) (pg_name (i := 2) sc_l_choices.nd rfl (.inr rfl))
        (pss_cons (ps_set (i := 3) sc_l_choices.nd rfl (.inl rfl) (pe_callTy call_tuple_of (by rfl) M.tuple (by decide +kernel) (pa_cons (pe_lc (own := [("_law_k", 4), ("_law_face", 5)]) (g := (gTup K 2 (gCons (gName 4) (gCons (gName 5) gNil)))) (te := tVar 5) rfl sc_l_choices.nd (pi_enumT (by rfl) m_enumerate (pa_cons (pv 0) pa_nil)) (blkOk_by (N := N_l_choices) (sc := defScope s_l_choices) (own := [("_law_k", 4), ("_law_face", 5)]) (by decide +kernel)) (fun _ _ _ _ _ => (pg_tup rfl (pgs_cons (pg_name (i := 4) sc_l_choices.nd rfl (.inl rfl)) (pgs_cons (pg_name (i := 5) sc_l_choices.nd rfl (.inl rfl)) pgs_nil)))) (fun _ _ _ _ _ => (pts_one (pt_cmpR op_eq (pe_op op_and (pe_op op_shr (pv 2) (pv 4)) pe_int) pe_int (nomark _)))) (fun _ _ _ _ _ => (pv 5))) pa_nil)))
        (pss_one (ps_if (PW.pt (pw_and (pt_cmpR (op_neD hr.units) (pv 3) (pe_tup pa_nil) (nomark _)) (pw_and1 (pt_cmpR op_eq (pe_op op_mod (pe_callB call_len_seq (by rfl) M.len PySem.boot_len (pa_cons (pv 3) pa_nil)) pe_int) pe_int (nomark _)))))
          (pss_one (ps_expr (pe_bm PySem.F.plainAttrs_list PySem.F.slot_list_append PySem.F.type_list_append mt_append (pv 1) (pa_cons (pv 3) pa_nil))))
          pss_nil))))
      (pss_one (ps_ret (pe_callB (cr_sortedD (room65 hr)) (by rfl) m_sorted (by decide +kernel) (pa_cons (pv 1) pa_nil)))))), ?_⟩
    refine ⟨Nat.zero_le _, fun L nL => ?_⟩
    have sL := same_new (o := .lst []) nL
    have hL0 := upd_same (H := H) (a := L) (o := .lst [])
    generalize upd H L (.lst []) = H0 at sL hL0
    have two : ∀ k : Nat, k ≤ 8 → (2 : Nat) ^ k ≤ 256 := fun k hk => Nat.pow_le_pow_right (n := 2) (i := k) (j := 8) (by decide) hk
    have l2 := two _ l8
    refine ⟨.ref o, rfl, o, _, rfl, .inr (ho _ sL), 1, _, rfl, rfl, ⟨by omega, by rw [List.length_map]; omega, by decide⟩, ((2 ^ fs.length : Nat) : Int), ?_, Int.le_trans (by decide) (Int.natCast_nonneg _), Int.lt_of_le_of_lt (Int.ofNat_le.mpr l2) (by decide), ?_⟩
    · rw [List.length_map]
      simp
    refine for_range (lo := 0) (n := 2 ^ fs.length) (fun i σ' H' => ∃ (y2 y3 y4 y5 : Option V) (ys : List V), σ' = [some (.ref o), some (.ref L), y2, y3, y4, y5] ∧ H' L = some (.lst ys) ∧ Paired (IntsV H') ys (((chs fs).take i).filter evenC) ∧ Same H H') ⟨_, _, _, _, [], rfl, hL0, .nil, sL⟩ ?_ ?_
    · rintro i σ' H2 hi ⟨y2, y3, y4, y5, ys, rfl, hL, hys, s2⟩
      have sq := ho _ s2
      refine ⟨.ref o, rfl, o, _, rfl, sq, fun Z nZ => ?_⟩
      refine lc_it (walk_enumT (K := K) (xs := fs.map V.int)) (fun j H' => H' Z = some (.lst ((bitC (fs.take j) i).map V.int)) ∧ Same H2 H') ⟨upd_same, same_new nZ⟩ (fun j H' _ h => ho _ (s2.trans h.2)) ?_ ?_
      · rintro j x H3 H4 hj ⟨hZ, s3⟩ ⟨T, x1, y, rfl, nT, rfl, e1, e2⟩
        obtain rfl : V.int (j : Nat) = x1 := Option.some.inj e1
        have e2 : (fs.map V.int)[j]? = some y := e2
        rw [List.getElem?_map] at e2
        obtain ⟨z, ez, rfl⟩ := Option.map_eq_some_iff.mp e2
        have lj := (List.getElem?_eq_some_iff.mp ez).1
        have sT := same_new (o := .tup [.int (j : Nat), .int z]) nT
        have hT := upd_same (H := H3) (a := T) (o := .tup [.int (j : Nat), .int z])
        have hZ4 := sT _ _ hZ
        have s4 := s3.trans sT
        generalize upd H3 T (.tup [.int (j : Nat), .int z]) = H4 at sT hT hZ4 s4
        refine ⟨T, _, rfl, SqT.of hT, rfl, _, _, rfl, _, _, rfl, rfl, rfl, .int (0 + (i : Nat)), rfl, .int (j : Nat), rfl, _, _, rfl, rfl, by omega, _, _, rfl, rfl, rfl, _, rfl, ?_⟩
        have eb : decide (V.int (Builtin.bitAnd ((0 + (i : Int)) / 2 ^ ((j : Int)).toNat) 1) = V.int 1) = decide (i >>> j &&& 1 = 1) := by
          rw [PyProof.Rows.bitAnd_m1, bit_one, decide_eq_decide]
          have h1 : (0 + (i : Int)) / 2 ^ ((j : Int)).toNat % 2 = ((i / 2 ^ j % 2 : Nat) : Int) := by
            rw [Int.zero_add, Int.toNat_natCast]
            simp
          rw [h1]
          constructor
          · intro h
            have := V.int.inj h
            omega
          · intro h
            rw [h]
            rfl
        rw [eb]
        have es : bitC (fs.take (j + 1)) i = bitC (fs.take j) i ++ if i >>> j &&& 1 = 1 then [z] else [] := by
          rw [List.take_add_one, ez]
          have := bitC_snoc (fs.take j) z i
          rw [List.length_take, Nat.min_eq_left (by omega)] at this
          exact this
        have lb : (bitC (fs.take j) i).length ≤ 8 := by
          unfold bitC
          rw [List.length_map]
          refine Nat.le_trans (List.length_filter_le _ _) ?_
          rw [List.length_zipIdx, List.length_take]
          omega
        by_cases hb : i >>> j &&& 1 = 1
        · rw [decide_eq_true hb]
          rw [if_pos hb] at es
          refine ⟨.int z, rfl, _, hZ4, by rw [List.length_map]; exact small1000 (by omega), ?_, Same.mut s4 nZ⟩
          rw [upd_same, es, List.map_append]
          rfl
        · rw [decide_eq_false hb]
          rw [if_neg hb, List.append_nil] at es
          exact ⟨by rw [es]; exact hZ4, s4⟩
      · rintro H3 ⟨hZ, s3⟩
        rw [List.length_map, List.take_length] at hZ
        have ec : (chs fs)[i]? = some (bitC fs i) := by
          rw [← chs_bits, List.getElem?_map, List.getElem?_range (by omega)]
          rfl
        generalize bitC fs i = c at hZ ec
        refine ⟨Z, _, rfl, .inl ⟨SqL.of hZ, fun p np => ?_⟩⟩
        have sp := same_new (o := .tup (c.map V.int)) np
        have hp := upd_same (H := H3) (a := p) (o := .tup (c.map V.int))
        have s4 := (s2.trans s3).trans sp
        have hL4 := (s3.trans sp) _ _ hL
        have hys4 : Paired (IntsV (upd H3 p (.tup (c.map V.int)))) ys _ := Paired.mono (fun _ _ x => x.tk (Same.tk (s3.trans sp))) hys
        generalize upd H3 p (.tup (c.map V.int)) = H4 at sp hp s4 hL4 hys4
        have ev : ((chs fs).take (i + 1)).filter evenC = ((chs fs).take i).filter evenC ++ if evenC c = true then [c] else [] := by
          rw [List.take_add_one, ec, List.filter_append]
          congr 1
          show List.filter evenC [c] = _
          rw [List.filter_cons, List.filter_nil]
        have lz : ys.length ≤ 256 := by
          have h1 := Paired.length hys
          have h2 := List.length_filter_le evenC ((chs fs).take i)
          rw [List.length_take] at h2
          omega
        refine ⟨.ref p, rfl, by show 0 ≤ sizeLine; decide, fun e ne => ?_⟩
        have se := same_new (o := .tup []) ne
        have he := upd_same (H := H4) (a := e) (o := .tup [])
        have s5 := s4.trans se
        have hL5 := se _ _ hL4
        have hys5 : Paired (IntsV (upd H4 e (.tup []))) ys _ := Paired.mono (fun _ _ x => x.tk (Same.tk se)) hys4
        have hp5 := se _ _ hp
        generalize upd H4 e (.tup []) = H5 at se he s5 hL5 hys5 hp5
        refine ⟨intsD c, intsD [], IntsV.dp ⟨p, rfl, hp5⟩, IntsV.dp ⟨e, rfl, he⟩, shaped_intsD _, shaped_intsD _, _, rfl, ?_⟩
        rw [eqv_noneI]
        by_cases hc : c = []
        · rw [decide_eq_true hc]
          have e1 : evenC c = false := by unfold evenC; rw [decide_eq_false (fun z => z hc)]; rfl
          rw [e1, if_neg (by simp), List.append_nil] at ev
          exact ⟨_, _, _, _, ys, rfl, hL5, by rw [ev]; exact hys5, s5⟩
        · rw [decide_eq_false hc]
          refine ⟨.ref p, rfl, p, _, rfl, .inr (SqT.of hp5), _, 2, rfl, rfl, show (0 : Int) < 2 by decide, rfl, _, rfl, ?_⟩
          rw [List.length_map]
          have e1 : decide (V.int ((c.length : Nat) % 2 : Int) = V.int 0) = evenC c := by
            unfold evenC
            rw [decide_eq_true (show c ≠ [] from hc), Bool.true_and, decide_eq_decide]
            constructor
            · intro h
              have := V.int.inj h
              omega
            · intro h
              rw [show ((c.length : Nat) : Int) % 2 = 0 by omega]
          rw [e1]
          have tk := tk_lst (ys := ys ++ [.ref p]) hL5
          cases e2 : evenC c with
          | true =>
            rw [e2, if_pos rfl] at ev
            refine ⟨.ref L, rfl, .inl ⟨rfl, _, SqL.of hL5⟩, .ref p, rfl, L, _, _, rfl, rfl, hL5, small1000 (by omega), ?_⟩
            refine ⟨_, _, _, _, ys ++ [.ref p], rfl, upd_same, ?_, Same.mut s5 nL⟩
            rw [ev]
            exact Paired.snoc (Paired.mono (fun _ _ x => x.tk tk) hys5) ⟨p, rfl, tk _ _ hp5⟩
          | false =>
            rw [e2, if_neg (by simp), List.append_nil] at ev
            exact ⟨_, _, _, _, ys, rfl, hL5, by rw [ev]; exact hys5, s5⟩
    · rintro σ' H2 ⟨y2, y3, y4, y5, ys, rfl, hL, hys, s2⟩
      rw [List.take_of_length_le (by rw [chs_len]; exact Nat.le_refl _)] at hys
      refine ⟨.ref L, rfl, L, ys, _, rfl, SqL.of hL, hys, fun c hc => ?_, fun N vs nN hv => ?_⟩
      · have := (List.mem_filter.mp hc).2
        unfold evenC at this
        rw [Bool.and_eq_true, decide_eq_true_iff] at this
        exact this.1
      · have sN := same_new (o := .lst vs) nN
        exact q N vs _ (s2.trans sN) (s2.free nN) upd_same (Paired.mono (fun _ _ x => x.tk (Same.tk sN)) hv)
end
/-! ### layers, by the law -/
def layersB (H : Hp) (odd : List Int) (m : Nat) (gaps : List Gap) (v : V) : Bool := match parts H v with
  | some ls => decide (ls.length = odd.length) && (odd.zip ls).all fun p => layB H gaps m p.1 p.2
  | none => false
def spLayersAre (K : PySem.W.Frag) : Sp := fun vs H Q _ => ∃ (wv : V) (o : Addr) (wts : V) (od : Addr) (v : V) (n : Nat) (ts : List Tie) (rs : List (List Int)) (es : List (Int × Int)) (ws : List Int), vs = [wv, .ref o, wts, .ref od, v] ∧ FlW H wv o n ts rs es ∧ WtV H wts ws ∧ ws.length = ts.length ∧ (∀ H', Same H H' → SqT K H' od ((oddF ts (fcs es rs)).map V.int)) ∧ PapA H v ∧
  ∀ H', Same H H' → FcOk ts (fcs es rs) → Q (.bl (layersB H (oddF ts (fcs es rs)) (fcs es rs).length (gapsF ts (fcs es rs) ws) v)) H'
section
variable {P : Program} {w : World} {K : PySem.W.Frag} {mg : Str → Option Value} {base : Heap}
set_option maxHeartbeats 4000000 in
theorem ok_l_layers_are {f : Addr} {fd : FuncData} (F : Fun K "_law_layers_are" "_law_layers_are" s_l_layers_are f fd) (M : Free mg) (m_enumerate : mg "enumerate" = none) (m_zip : mg "zip" = none) (D_l_where : Df P w K mg base 3 "_law_where" ["_law_web_here", "_law_orders"] spWhere) (D_l_due : Df P w K mg base 2 "_law_due" ["_law_web_here", "_law_orders"] spDueF) (D_l_whole : Df P w K mg base 1 "_law_whole" ["_law_thing"] spWhole) (D_l_weight_at : Df P w K mg base 1 "_law_weight_at" ["_law_weights_here", "_law_number"] spWeightF) : FnOk P w K mg base CX0 4 f fd ["_law_web_here", "_law_orders", "_law_weights_here", "_law_odd_here", "_law_thing"] (spLayersAre K) := by
  obtain ⟨f_l_where, fd_l_where, G_l_where, g_l_where, k_l_where, b_l_where⟩ := D_l_where
  obtain ⟨f_l_due, fd_l_due, G_l_due, g_l_due, k_l_due, b_l_due⟩ := D_l_due
  obtain ⟨f_l_whole, fd_l_whole, G_l_whole, g_l_whole, k_l_whole, b_l_whole⟩ := D_l_whole
  obtain ⟨f_l_weight_at, fd_l_weight_at, G_l_weight_at, g_l_weight_at, k_l_weight_at, b_l_weight_at⟩ := D_l_weight_at
  refine F.ok sc_l_layers_are (fun vs H Q E h => ?_) (fun cdv A outer s H vs Q E hr h => ?_)
  · obtain ⟨wv, o, wts, oa, v, n, ts, rs, es, ws, rfl, _⟩ := h
    rfl
  · obtain ⟨wv, o, wts, oa, v, n, ts, rs, es, ws, rfl, W, hw, lw, ho, pa, q⟩ := h
    have hu := room1 hr
    refine ⟨_, (pss_cons (ps_set (i := 5) sc_l_layers_are.nd rfl (.inl rfl) (pe_call G_l_where (hr.mono (by decide)) (by rfl) g_l_where k_l_where b_l_where .nil pass0 (pa_cons (pv 0) (pa_cons (pv 1) pa_nil))))
      (pss_cons (ps_set (i := 6) sc_l_layers_are.nd rfl (.inl rfl) (pe_callB call_len_seq (by rfl) M.len PySem.boot_len (pa_cons (pe_call G_l_due (hr.mono (by decide)) (by rfl) g_l_due k_l_due b_l_due .nil pass0 (pa_cons (pv 0) (pa_cons (pv 1) pa_nil))) pa_nil)))
      (pss_cons (ps_if (PW.pt (pw_or (pt_not (pt_val (pe_callB call_isi (by rfl) M.isinstance (by decide +kernel) (pa_cons (pv 4) (pa_cons (pe_bltn (v := .ty "tuple") (by rfl) M.tuple (by decide +kernel) rfl) pa_nil))))) (pw_or1 (pt_cmpR op_ne (pe_callB call_len_seq (by rfl) M.len PySem.boot_len (pa_cons (pv 4) pa_nil)) (pe_callB call_len_seq (by rfl) M.len PySem.boot_len (pa_cons (pv 3) pa_nil)) (nomark _)))))
        (pss_one (ps_ret pe_bl))
        pss_nil)
      (pss_cons (ps_for PassesOwn.never rfl (RZ.pi_zipA (by rfl) m_zip (pa_cons (pv 3) (pa_cons (pv 4) pa_nil))) (pg_tup rfl (pgs_cons (pg_name (i := 7) sc_l_layers_are.nd rfl (.inl rfl)) (pgs_cons (pg_name (i := 8) sc_l_layers_are.nd rfl (.inl rfl)) pgs_nil)))
        (pss_cons (ps_if (PW.pt (pw_or (pt_not (pt_val (pe_callB call_isi (by rfl) M.isinstance (by decide +kernel) (pa_cons (pv 8) (pa_cons (pe_bltn (v := .ty "tuple") (by rfl) M.tuple (by decide +kernel) rfl) pa_nil))))) (pw_or1 (pt_cmpR op_ne (pe_callB call_len_seq (by rfl) M.len PySem.boot_len (pa_cons (pv 8) pa_nil)) (pv 6) (nomark _)))))
          (pss_one (ps_ret pe_bl))
          pss_nil)
        (pss_cons (ps_if (PW.pt (pw_or (pt_cmpR (op_neE hr.units0) (pe_lc (own := [("_law_one", 9)]) (g := (gName 9)) (te := tVar 9) rfl sc_l_layers_are.nd (pi_tup (pv 8)) (blkOk_by (N := N_l_layers_are) (sc := defScope s_l_layers_are) (own := [("_law_one", 9)]) (by decide +kernel)) (fun _ _ _ _ _ => (pg_name (i := 9) sc_l_layers_are.nd rfl (.inl rfl))) (fun _ _ _ _ _ => (pts_one (PW.pt (pw_or (pt_not (pt_val (pe_call G_l_whole (hr.mono (by decide)) (by rfl) g_l_whole k_l_whole b_l_whole .nil pass0 (pa_cons (pv 9) pa_nil)))) (pw_or1 (pt_cmpR op_lt (pv 9) pe_int (nomark _))))))) (fun _ _ _ _ _ => (pv 9))) (pe_lst pa_nil) (nomark _)) (pw_or1 (pt_cmpR op_ne (pe_ix ix_tup (pv 8) (pv 7) (fun _ _ => rfl)) pe_int (nomark _)))))
          (pss_one (ps_ret pe_bl))
          pss_nil)
        (pss_one (ps_for PassesOwn.never rfl (pi_enumT (by rfl) m_enumerate (pa_cons (pe_ix ix_tup (pv 0) pe_int (fun _ _ => rfl)) pa_nil)) (pg_tup rfl (pgs_cons (pg_name (i := 10) sc_l_layers_are.nd rfl (.inl rfl)) (pgs_cons (pg_name (i := 11) sc_l_layers_are.nd rfl (.inl rfl)) pgs_nil)))
          (pss_cons (ps_set (i := 12) sc_l_layers_are.nd rfl (.inl rfl) (pe_ix ix_tup (pv 8) (pe_dget hu (pv 5) (pe_tup (pa_cons (pv 10) (pa_cons (pe_ix ix_tup (pv 11) pe_int (fun _ _ => rfl)) pa_nil))) (fun _ _ => rfl)) (fun _ _ => rfl)))
          (pss_cons (ps_set (i := 13) sc_l_layers_are.nd rfl (.inl rfl) (pe_ix ix_tup (pv 8) (pe_dget hu (pv 5) (pe_tup (pa_cons (pv 10) (pa_cons (pe_ix ix_tup (pv 11) pe_int (fun _ _ => rfl)) pa_nil))) (fun _ _ => rfl)) (fun _ _ => rfl)))
          (pss_one (ps_if (PW.pt (pw_or (pt_cmpR op_gt (pv 12) (pe_op op_add (pv 13) (pe_call G_l_weight_at (hr.mono (by decide)) (by rfl) g_l_weight_at k_l_weight_at b_l_weight_at .nil pass0 (pa_cons (pv 2) (pa_cons (pv 10) pa_nil)))) (nomark _)) (pw_or1 (pt_cmpR op_gt (pv 13) (pe_op op_add (pv 12) (pe_call G_l_weight_at (hr.mono (by decide)) (by rfl) g_l_weight_at k_l_weight_at b_l_weight_at .nil pass0 (pa_cons (pv 2) (pa_cons (pv 10) pa_nil)))) (nomark _)))))
            (pss_one (ps_ret pe_bl))
            pss_nil)))))))))
      (pss_one (ps_ret pe_bl)))))), ?_⟩
    refine ⟨wv, rfl, .ref o, rfl, wv, o, n, ts, rs, es, rfl, W, fun D H1 s1 hD F => ?_⟩
    have W1 := W.tk (Same.tk s1)
    have q := fun H' s => q H' s F
    have hi := W.ok.hi
    have lr := W.lr
    obtain ⟨us1, ho1, hp1⟩ := W1.us
    refine ⟨wv, rfl, .ref o, rfl, wv, n, ts, o, us1, rs, es, rfl, W1.W, ho1, hp1, W.od, W.tw, by omega, W.le, fun r vs1 S H2 s2 pS oS hr2 hv2 => ?_⟩
    have iS : IsS es rs S := ⟨pS, oS⟩
    rw [fcs_of iS] at hv2
    have lv : vs1.length = (fcs es rs).length := Paired.length hv2
    have s02 := s1.trans s2
    have W2 := W1.tk (Same.tk s2)
    have hD2 := s2 _ _ hD
    generalize hfs : fcs es rs = fs at F q hv2 hD2 ho lv
    have bo : ∀ x ∈ oddF ts fs, 0 ≤ x ∧ x < (fs.length : Int) := fun x hx => oddF_rg x hx
    refine ⟨r, _, rfl, .inr (SqT.of hr2), ?_⟩
    rw [lv]
    generalize oddF ts fs = odd at q ho bo
    have bg := gaps_rg F ws
    have kn2 : Kn H2 v := (StayP.same s02 v pa.kn).1
    have ep : parts H2 v = parts H v := (StayP.same s02 v pa.kn).2
    obtain ⟨t1, i1, j1⟩ := kn_tup (K := K) (H := H2) (v := v) kn2
    refine ⟨v, rfl, v, _, t1, _, _, rfl, .ty "tuple", i1, j1, _, rfl, ?_⟩
    cases hi2 : isT H2 v with
    | false =>
      have := q H2 s02
      unfold layersB at this
      rw [← ep, parts_none hi2] at this
      exact this
    | true =>
    obtain ⟨a, ls, rfl, ha⟩ := isT_at hi2
    have hpl : parts H (.ref a) = some ls := by rw [← ep]; exact parts_of' ha
    have eq : layersB H odd fs.length (gapsF ts fs ws) (.ref a) = (decide (ls.length = odd.length) && (odd.zip ls).all fun p => layB H (gapsF ts fs ws) fs.length p.1 p.2) := by
      unfold layersB
      rw [hpl]
    rw [eq] at q
    have bad : ∀ {H' : Hp} {i : Nat} {f0 : Int} {y : V}, Same H H' → odd[i]? = some f0 → ls[i]? = some y → layB H (gapsF ts fs ws) fs.length f0 y = false → Q (.bl false) H' := fun {H' i f0 y} s ef ey hb => by
      have := q H' s
      have no : (odd.zip ls).all (fun p => layB H (gapsF ts fs ws) fs.length p.1 p.2) = false := all_not (zip_at ef ey) hb
      rw [no, Bool.and_false] at this
      exact this
    refine ⟨.ref a, rfl, a, _, rfl, .inr ha.sq, .ref oa, rfl, oa, _, rfl, .inr (ho _ s02), rfl, _, rfl, ?_⟩
    rw [List.length_map]
    by_cases hl : ls.length = odd.length
    case neg =>
      rw [show decide (V.int (ls.length : Nat) = V.int (odd.length : Nat)) = false from decide_eq_false fun z => hl (by have := V.int.inj z; omega)]
      rw [decide_eq_false hl] at q
      exact q _ s02
    rw [show decide (V.int (ls.length : Nat) = V.int (odd.length : Nat)) = true from decide_eq_true (by rw [hl])]
    rw [decide_eq_true hl, Bool.true_and] at q
    refine ⟨.ref oa, rfl, .ref a, rfl, oa, a, _, _, rfl, .inr ⟨ho _ s02, ha.sq, ?_⟩⟩
    have pls := (pa.at' hpl).1
    have lls := (pa.at' hpl).2
    refine for_it (walk_zipT (K := K) (a := oa) (b := a) (xs := odd.map V.int) (ys := ls) (n := odd.length) (by rw [List.length_map]; omega)) (fun i σ' H' => ∃ y7 y8 y9 y10 y11 y12 y13 : Option V, σ' = [some wv, some (.ref o), some wts, some (.ref oa), some (.ref a), some (.ref D), some (.int fs.length), y7, y8, y9, y10, y11, y12, y13] ∧ Same H2 H' ∧ ∀ (j : Nat) f0 y, j < i → odd[j]? = some f0 → ls[j]? = some y → layB H (gapsF ts fs ws) fs.length f0 y = true) ⟨_, _, _, _, _, _, _, rfl, fun _ _ h => h, fun j _ _ h => absurd h (by omega)⟩ (fun i σ' H' _ h => by
      obtain ⟨_, _, _, _, _, _, _, _, s, _⟩ := h
      exact ⟨ho _ (s02.trans s), (ha.same s).sq⟩) ?_ ?_
    · rintro i x σ' H3 H4 hi ⟨y7, y8, y9, y10, y11, y12, y13, rfl, s3, al⟩ ⟨T, x1, y, rfl, nT, rfl, e1, e2⟩
      have e1 : (odd.map V.int)[i]? = some x1 := e1
      rw [List.getElem?_map] at e1
      obtain ⟨f0, ef, rfl⟩ := Option.map_eq_some_iff.mp e1
      have e2 : ls[i]? = some y := e2
      have sT := same_new (o := .tup [.int f0, y]) nT
      have hT := upd_same (H := H3) (a := T) (o := .tup [.int f0, y])
      have s4 := s3.trans sT
      generalize upd H3 T (.tup [.int f0, y]) = H4 at sT hT s4
      have s04 := s02.trans s4
      have py := pls y (List.mem_of_getElem? e2)
      have kn4 : Kn H4 y := (StayP.same s04 y py.kn).1
      have ep4 : parts H4 y = parts H y := (StayP.same s04 y py.kn).2
      have bf := bo f0 (List.mem_of_getElem? ef)
      refine ⟨T, _, rfl, SqT.of hT, rfl, _, _, rfl, _, _, rfl, rfl, ?_⟩
      obtain ⟨t2, i2, j2⟩ := kn_tup (K := K) (H := H4) (v := y) kn4
      refine ⟨y, rfl, y, _, t2, _, _, rfl, .ty "tuple", i2, j2, _, rfl, ?_⟩
      cases hi4 : isT H4 y with
      | false =>
        refine bad s04 ef e2 ?_
        unfold layB
        rw [← ep4, parts_none hi4]
      | true =>
      obtain ⟨b, xs, rfl, hb⟩ := isT_at hi4
      have hpx : parts H (.ref b) = some xs := by rw [← ep4]; exact parts_of' hb
      have eb : layB H (gapsF ts fs ws) fs.length f0 (.ref b) = (decide (xs.length = fs.length) && (xs.all (wfrom 0) && (decide (valZ xs f0 = 0) && (gapsF ts fs ws).all fun g => decide (absZ (valZ xs g.1 - valZ xs g.2.1) ≤ g.2.2)))) := by
        unfold layB
        rw [hpx]
      refine ⟨.ref b, rfl, b, _, rfl, .inr hb.sq, .int fs.length, rfl, rfl, _, rfl, ?_⟩
      by_cases hx : xs.length = fs.length
      case neg =>
        rw [show decide (V.int (xs.length : Nat) = V.int (fs.length : Nat)) = false from decide_eq_false fun z => hx (by have := V.int.inj z; omega)]
        exact bad s04 ef e2 (by rw [eb, decide_eq_false hx]; rfl)
      rw [show decide (V.int (xs.length : Nat) = V.int (fs.length : Nat)) = true from decide_eq_true (by rw [hx])]
      rw [decide_eq_true hx, Bool.true_and] at eb
      have pxs := (py.at' hpx).1
      have lxs := (py.at' hpx).2
      refine ⟨.ref b, rfl, b, rfl, ⟨_, hb.sq⟩, fun Z nZ => ?_⟩
      refine lc_tup (xs := xs) (fun j H' => H' Z = some (.lst ((xs.take j).filter fun x => !wfrom 0 x)) ∧ Same H4 H') ⟨upd_same, same_new nZ⟩ (fun j H' _ h => (hb.same h.2).sq) ?_ ?_
      · rintro j x H5 ex ⟨hZ, s5⟩
        have px := pxs x (List.mem_of_getElem? ex)
        have kx : Kn H5 x := (StayP.same (s04.trans s5) x px.kn).1
        have jl := (List.getElem?_eq_some_iff.mp ex).1
        have et : (xs.take (j + 1)).filter (fun x => !wfrom 0 x) = (xs.take j).filter (fun x => !wfrom 0 x) ++ if wfrom 0 x = true then [] else [x] := by
          rw [List.take_add_one, ex, List.filter_append]
          congr 1
          show List.filter _ [x] = _
          rw [List.filter_cons, List.filter_nil]
          cases wfrom 0 x <;> rfl
        have ll : ((xs.take j).filter fun x => !wfrom 0 x).length ≤ 1000 := by
          refine Nat.le_trans (List.length_filter_le _ _) ?_
          rw [List.length_take]
          omega
        refine ⟨rfl, x, rfl, x, rfl, kx, _, rfl, ?_⟩
        have notz : wfrom 0 x = false → ∀ (H6 : Hp), H6 = H5 → ∃ acc : List V, H6 Z = some (.lst acc) ∧ acc.length < sizeLine ∧ (upd H6 Z (.lst (acc ++ [x]))) Z = some (.lst ((xs.take (j + 1)).filter fun x => !wfrom 0 x)) ∧ Same H4 (upd H6 Z (.lst (acc ++ [x]))) := fun hw H6 e => by
          subst e
          rw [hw, if_neg (by simp)] at et
          exact ⟨_, hZ, Nat.lt_of_le_of_lt ll (small1000 (Nat.le_refl _)), by rw [upd_same, et], Same.mut s5 nZ⟩
        cases x with
        | int z =>
          refine ⟨.int z, rfl, _, _, rfl, rfl, _, rfl, ?_⟩
          by_cases hz : z < 0
          · rw [decide_eq_true hz]
            exact ⟨.int z, rfl, notz (decide_eq_false (by omega)) _ rfl⟩
          · rw [decide_eq_false hz]
            rw [show wfrom 0 (.int z) = true from decide_eq_true (by omega), if_pos rfl, List.append_nil] at et
            exact ⟨by rw [et]; exact hZ, s5⟩
        | _ => exact ⟨_, rfl, notz rfl _ rfl⟩
      · rintro H5 ⟨hZ, s5⟩
        rw [List.take_length] at hZ
        refine ⟨Nat.zero_le _, fun e ne => ⟨Z, e, _, rfl, rfl, SqL.of (same_new ne _ _ hZ), SqL.of upd_same, _, rfl, ?_⟩⟩
        have s6 := s5.trans (same_new (o := .lst []) ne)
        generalize upd H5 e (.lst []) = H6 at s6
        have s06 := s04.trans s6
        cases hall : xs.all (wfrom 0) with
        | false =>
          have ne0 : (!(xs.filter fun x => !wfrom 0 x).isEmpty) = true := by
            cases he : xs.filter fun x => !wfrom 0 x with
            | cons => rfl
            | nil =>
              exfalso
              rw [List.filter_eq_nil_iff] at he
              have : xs.all (wfrom 0) = true := List.all_eq_true.mpr fun x hx => by
                have := he x hx
                simpa using this
              rw [hall] at this
              cases this
          rw [ne0]
          exact bad s06 ef e2 (by rw [eb, hall]; rfl)
        | true =>
        rw [hall, Bool.true_and] at eb
        have e0 : (!(xs.filter fun x => !wfrom 0 x).isEmpty) = false := by
          have : (xs.filter fun x => !wfrom 0 x) = [] := List.filter_eq_nil_iff.mpr fun x hx => by
            have := List.all_eq_true.mp hall x hx
            simp [this]
          rw [this]
          rfl
        rw [e0]
        have hb6 := hb.same s6
        refine ⟨.ref b, rfl, .int f0, rfl, b, xs, f0, _, rfl, rfl, hb6.sq, valZ_at hall bf.1 (by omega), rfl, _, rfl, ?_⟩
        rw [show decide (V.int (valZ xs f0) = V.int 0) = decide (valZ xs f0 = 0) from decide_eq_decide.mpr ⟨fun h => V.int.inj h, fun h => by rw [h]⟩]
        cases hz : decide (valZ xs f0 = 0) with
        | false => exact bad s06 ef e2 (by rw [eb, hz]; rfl)
        | true =>
        rw [hz, Bool.true_and] at eb
        have W6 := W2.tk (Same.tk (s4.trans s6))
        obtain ⟨wa, wb, us2, rfl, hwa, hwb, hpw⟩ := id W6.W
        have lus : us2.length = ts.length := Paired.length hpw
        have hD6 := (s4.trans s6) _ _ hD2
        have hw6 : WtV H6 wts ws := hw.tk (Same.tk s06)
        refine ⟨.ref wa, rfl, wa, _, 1, .ref wb, rfl, rfl, SqT.of hwa, rfl, wb, us2, rfl, SqT.of hwb, ?_⟩
        refine for_it (walk_enumT (K := K) (xs := us2)) (fun j σ' H' => ∃ y9 y10 y11 y12 y13 : Option V, σ' = [some (.ref wa), some (.ref o), some wts, some (.ref oa), some (.ref a), some (.ref D), some (.int fs.length), some (.int f0), some (.ref b), y9, y10, y11, y12, y13] ∧ Same H6 H' ∧ ∀ g ∈ (gapsF ts fs ws).take j, absZ (valZ xs g.1 - valZ xs g.2.1) ≤ g.2.2) ⟨_, _, _, _, _, rfl, fun _ _ h => h, fun g hg => by simp at hg⟩ (fun j σ' H' _ h => by
          obtain ⟨_, _, _, _, _, _, s, _⟩ := h
          exact SqT.of (s _ _ hwb)) ?_ ?_
        · rintro j x σ' H7 H8 hj ⟨y9, y10, y11, y12, y13, rfl, s7, al7⟩ ⟨T2, x1, y, rfl, nT2, rfl, e1, e2'⟩
          obtain rfl : V.int (j : Nat) = x1 := Option.some.inj e1
          obtain ⟨t, et, c, rfl, hc⟩ := Paired.at hpw e2'
          have lj := (List.getElem?_eq_some_iff.mp et).1
          have sT2 := same_new (o := .tup [.int (j : Nat), .ref c]) nT2
          have hT2 := upd_same (H := H7) (a := T2) (o := .tup [.int (j : Nat), .ref c])
          have s8 := s7.trans sT2
          generalize upd H7 T2 (.tup [.int (j : Nat), .ref c]) = H8 at sT2 hT2 s8
          have hh := F.has j t et
          have g1 := fnd_get F.nd hh.1
          have g2 := fnd_get F.nd hh.2
          have l1 := faceAt_lt hh.1
          have l2 := faceAt_lt hh.2
          have eg : (besF ts fs)[j]? = some ((faceAt fs ((j : Int), t.one) : Int), (faceAt fs ((j : Int), t.other) : Int)) := by
            unfold besF
            rw [List.getElem?_map, List.getElem?_zipIdx, et]
            simp
          have ew : ws[j]? = some (ws[j]'(by omega)) := List.getElem?_eq_getElem _
          have etk := gaps_take eg ew
          have hc8 := s8 _ _ hc
          have hb8 := hb6.same s8
          have hD8 := s8 _ _ hD6
          refine ⟨T2, _, rfl, SqT.of hT2, rfl, _, _, rfl, _, _, rfl, rfl, ?_⟩
          generalize hA : (faceAt fs ((j : Int), t.one)) = A1 at g1 l1 etk eg
          generalize hB : (faceAt fs ((j : Int), t.other)) = A2 at g2 l2 etk eg
          refine ⟨.ref b, rfl, .ref D, rfl, .int (j : Nat), rfl, .ref c, rfl, c, _, 0, .int t.one, rfl, rfl, SqT.of hc8, rfl, by show 2 ≤ sizeLine; decide, fun k1 n1 => ?_⟩
          have sk1 := same_new (o := .tup [.int (j : Nat), .int t.one]) n1
          have hk1 := upd_same (H := H8) (a := k1) (o := .tup [.int (j : Nat), .int t.one])
          generalize upd H8 k1 (.tup [.int (j : Nat), .int t.one]) = H9 at sk1 hk1
          refine ⟨D, .int A1, rfl, ?_, ?_⟩
          · rw [← g1]
            exact DGet.t (sk1 _ _ hD8) (k := [Sum.inl (j : Int), Sum.inl t.one]) hk1
          refine ⟨b, xs, (A1 : Int), _, rfl, rfl, (hb8.same sk1).sq, valZ_at hall (by omega) (by omega), ?_⟩
          refine ⟨.ref b, rfl, .ref D, rfl, .int (j : Nat), rfl, .ref c, rfl, c, _, 1, .int t.other, rfl, rfl, SqT.of (sk1 _ _ hc8), rfl, by show 2 ≤ sizeLine; decide, fun k2 n2 => ?_⟩
          have sk2 := same_new (o := .tup [.int (j : Nat), .int t.other]) n2
          have hk2 := upd_same (H := H9) (a := k2) (o := .tup [.int (j : Nat), .int t.other])
          generalize upd H9 k2 (.tup [.int (j : Nat), .int t.other]) = H10 at sk2 hk2
          have s810 := sk1.trans sk2
          refine ⟨D, .int A2, rfl, ?_, ?_⟩
          · rw [← g2]
            exact DGet.t (s810 _ _ hD8) (k := [Sum.inl (j : Int), Sum.inl t.other]) hk2
          refine ⟨b, xs, (A2 : Int), _, rfl, rfl, (hb8.same s810).sq, valZ_at hall (by omega) (by omega), ?_⟩
          have s610 := s8.trans s810
          have hw10 : WtV H10 wts ws := hw6.tk (Same.tk s610)
          have nx : absZ (valZ xs (A1 : Int) - valZ xs (A2 : Int)) ≤ (ws[j]'(by omega)) → ∀ g ∈ (gapsF ts fs ws).take (j + 1), absZ (valZ xs g.1 - valZ xs g.2.1) ≤ g.2.2 := fun h g hg => by
            rw [etk] at hg
            rcases List.mem_append.mp hg with z | z
            · exact al7 g z
            · rw [List.mem_singleton.mp z]
              exact h
          have no : ¬ absZ (valZ xs (A1 : Int) - valZ xs (A2 : Int)) ≤ (ws[j]'(by omega)) → Q (.bl false) H10 := fun h => by
            refine bad (s06.trans s610) ef e2 ?_
            rw [eb]
            refine Bool.eq_false_iff.mpr fun z => h ?_
            have m : (((A1 : Nat) : Int), ((A2 : Nat) : Int), (ws[j]'(by omega))) ∈ gapsF ts fs ws := by
              have : (((A1 : Nat) : Int), ((A2 : Nat) : Int), (ws[j]'(by omega))) ∈ (gapsF ts fs ws).take (j + 1) := by
                rw [etk]
                simp
              exact List.mem_of_mem_take this
            exact of_decide_eq_true ((List.all_eq_true.mp z) _ m)
          generalize valZ xs (A1 : Int) = u1 at nx no ⊢
          generalize valZ xs (A2 : Int) = u2 at nx no ⊢
          generalize hww : (ws[j]'(by omega)) = wj at nx no ew
          have abs1 : absZ (u1 - u2) ≤ wj ↔ ¬ u2 + wj < u1 ∧ ¬ u1 + wj < u2 := by
            unfold absZ
            split <;> omega
          refine ⟨.int u1, rfl, .int u2, rfl, wts, rfl, .int (j : Nat), rfl, wts, j, ws, wj, rfl, hw10, ew, _, _, rfl, rfl, _, _, rfl, rfl, _, rfl, ?_⟩
          by_cases c1 : u2 + wj < u1
          · rw [decide_eq_true c1]
            exact no fun h => (abs1.mp h).1 c1
          rw [decide_eq_false c1]
          refine ⟨.int u2, rfl, .int u1, rfl, wts, rfl, .int (j : Nat), rfl, wts, j, ws, wj, rfl, hw10, ew, _, _, rfl, rfl, _, _, rfl, rfl, _, rfl, ?_⟩
          by_cases c2 : u1 + wj < u2
          · rw [decide_eq_true c2]
            exact no fun h => (abs1.mp h).2 c2
          rw [decide_eq_false c2]
          exact ⟨_, _, _, _, _, rfl, s610, nx (abs1.mpr ⟨c1, c2⟩)⟩
        · rintro σ' H7 ⟨y9, y10, y11, y12, y13, rfl, s7, al7⟩
          have lg : (gapsF ts fs ws).length = ts.length := by
            unfold gapsF
            rw [List.length_map, List.length_zip, bes_len]
            omega
          rw [List.take_of_length_le (by omega)] at al7
          refine ⟨_, _, _, _, _, _, _, rfl, s4.trans (s6.trans s7), fun m f1 y1 hm ef1 ey1 => ?_⟩
          by_cases z : m = i
          · subst z
            rw [ef] at ef1
            rw [e2] at ey1
            cases ef1
            cases ey1
            rw [eb, List.all_eq_true]
            exact fun g hg => decide_eq_true (al7 g hg)
          · exact al m f1 y1 (by omega) ef1 ey1
    · rintro σ' H3 ⟨y7, y8, y9, y10, y11, y12, y13, rfl, s3, al⟩
      have fin : (odd.zip ls).all (fun p => layB H (gapsF ts fs ws) fs.length p.1 p.2) = true := by
        rw [List.all_eq_true]
        intro p hp
        obtain ⟨j, ej⟩ := List.getElem?_of_mem hp
        obtain ⟨e1, e2⟩ := List.getElem?_zip_eq_some.mp ej
        exact al j p.1 p.2 (List.getElem?_eq_some_iff.mp e1).1 e1 e2
      rw [fin] at q
      exact q _ (s02.trans s3)
end
/-! ### {k: v} with one pair, k a tuple; dict(t) of a tuple of pairs whose keys are tuples -/
section
variable {X : Cx}
def tDisp1T (tk tv : TE) : TE := fun σ H Q => ∀ p, H p = none → tk σ (upd H p (.dT [])) fun x H1 => tv σ H1 fun y H2 => ∃ (k : List Key) (b : Addr), x = .ref b ∧ H2 b = some (.tup (k.map kV)) ∧ H2 p = some (.dT []) ∧ Q (.ref p) (upd H2 p (.dT [(k, y)]))
theorem pe_disp1T {k v : Expr} {tk tv : TE} {pos : Pos} (hu : X.A.units < cLine) (hk : PE X k tk) (hv : PE X v tv) : PE X (.Dict [some k] [v] pos) (tDisp1T tk tv) := by
  refine ⟨fun pins s σ H Q I q => ?_⟩
  have hn := I.hok.fresh (Nat.le_refl s.heap.objs.size)
  have I1 := I.laid (a := s.heap.objs.size) (o := .dT []) (h' := s.heap.push { cls := .type "dict", data := .dict #[] }) (t' := s.toks) (fun _ _ q => Heap.get?_push_of_some _ q) (Nat.le_refl _) (dt_empty s.heap I.big)
  have ev := (pps_cons (ks := []) (vs := []) (trs := []) (pos := pos) hk hv pps_nil).run pins _ σ _ (fun ps H2 => match ps with
    | [(x, y)] => ∃ (k : List Key) (b : Addr), x = .ref b ∧ H2 b = some (.tup (k.map kV)) ∧ H2 s.heap.objs.size = some (.dT []) ∧ Q (.ref s.heap.objs.size) (upd H2 s.heap.objs.size (.dT [(k, y)]))
    | _ => False) I1 (q _ hn)
  rw [arm_eval_Dict, zip_pairTrees [some k] [v] X.env pos rfl rfl, dictDisplay_pairs _ (by simp [pairTrees]) (by simp [pairTrees])]
  refine wpAny_bind (wpAny_standAt (wpAny_bind (wpAny_subDictH (knd := tupleKind (mixKind X.prog X.w)) (Q := fun d s' => wpAny (model X.prog X.w) X.A (pure (Value.ref d)) _ _ s') hu (by simp [pairTrees]) ?_)))
  refine wpAny_mono ev (fun ws s2 got => ?_) fun _ _ e => e
  obtain ⟨ps, H2, I2, rel, got⟩ := got
  match ps, ws, rel, got with
  | [(x, y)], [(u1, u2)], .cons r .nil, got => ?_
  | [], _, _, got => exact got.elim
  | _ :: _ :: _, _, _, got => exact got.elim
  obtain ⟨kk, b, rfl, hb, hd, q2⟩ := got
  obtain ⟨r1, r2⟩ := r
  cases (show u1 = Value.ref b from r1)
  obtain ⟨z, lo, xs, rl, dd⟩ := dt_of I2.hok hd
  cases rl
  refine ⟨[(kk, b, u2)], ⟨rfl, rfl, key_of I2.hok hb, trivial⟩, dd, fun h' tk dd' hs => wpAny_pure ?_⟩
  obtain ⟨o, es, ep, hq, h2, h3, h4, g, h5⟩ := dd'
  refine ⟨.ref s.heap.objs.size, upd H2 s.heap.objs.size (.dT [(kk, y)]), d_write (t' := tk) (ob := .dT [(kk, y)]) I2 (by rw [hd]; exact True.intro) hs ⟨o, hq⟩ ⟨by show 1 ≤ sizeLine; decide, lo, [(kk, b, u2)], .cons ⟨rfl, ?_, r2⟩ .nil, o, es, ep, hq, h2, h3, h4, h5⟩, rfl, q2⟩
  rw [upd_ne (ne_of hb hd (fun z => nomatch z))]
  exact hb
def mergeT (kvs more : List (List Key × V)) : List (List Key × V) := more.foldl (fun acc kv => putK acc kv.1 kv.2) kvs
theorem mergeT_len : ∀ (more kvs : List (List Key × V)), (mergeT kvs more).length ≤ kvs.length + more.length
  | [], kvs => Nat.le_refl _
  | m :: more, kvs => by
    have h := mergeT_len more (putK kvs m.1 m.2)
    have l := length_putK kvs m.1 m.2
    show (mergeT (putK kvs m.1 m.2) more).length ≤ _
    rw [List.length_cons]
    omega
theorem KT.mergeT {H : Hp} : ∀ {more : List (List Key × V)} {ms : List (List Key × Addr × Value)} {kvs : List (List Key × V)} {xs : List (List Key × Addr × Value)}, KT H more ms → KT H kvs xs → KT H (mergeT kvs more) (storedAllH xs ms)
  | _, _, _, _, .nil, h => h
  | (k, v) :: more, (k', b, u) :: ms, kvs, xs, .cons r t, h => by
    obtain ⟨e, hb, ry⟩ := r
    cases (show k = k' from e)
    show KT H (FF.mergeT (putK kvs k v) more) (storedAllH (storedH xs k b u) ms)
    exact KT.mergeT t (h.put k hb ry)
def PrT (K : PySem.W.Frag) (H : Hp) (p : Addr) (kv : List Key × V) : Prop := ∃ b, SqT K H p [V.ref b, kv.2] ∧ H b = some (.tup (kv.1.map kV))
theorem prT_vals {pins : List (Addr × Obj)} {σ : L2.St} {H : Hp} {s : Shared} (I : Inv X pins σ H s) : ∀ {ps : List Addr} {kvs : List (List Key × V)}, Paired (PrT X.K H) ps kvs → ∃ ms : List (List Key × Addr × Value), KT H kvs ms ∧ ms.length = ps.length ∧ ∀ (j : Nat) m, ms[j]? = some m → ∃ p, ps[j]? = some p ∧ s.heap.IsTuple p #[.ref m.2.1, m.2.2]
  | _, _, .nil => ⟨[], .nil, rfl, fun j m e => by cases e⟩
  | _, _, .cons r t => by
    obtain ⟨b, hs, hb⟩ := r
    obtain ⟨ms, h1, h2, h3⟩ := prT_vals I t
    obtain ⟨its, rv, it, _⟩ := I.tuple hs
    obtain ⟨u1, u2, rfl, r1, r2⟩ := vals2 rv
    cases (show u1 = Value.ref b from r1)
    refine ⟨(_, b, u2) :: ms, .cons ⟨rfl, hb, r2⟩ h1, by rw [List.length_cons, h2]; rfl, fun j m e => ?_⟩
    cases j with
    | zero =>
      cases e
      exact ⟨_, rfl, it⟩
    | succ j => exact h3 j m e
def rDictT (K : PySem.W.Frag) : List V → Hp → VK → Prop := fun xs H Q => ∃ (a : Addr) (ps : List Addr) (kvs : List (List Key × V)), xs = [.ref a] ∧ NoD H a (ps.map V.ref) ∧ Paired (PrT K H) ps kvs ∧ ∀ p, H p = none → Q (.ref p) (upd H p (.dT (mergeT [] kvs)))
theorem call_dictT (hc : X.calm = true) (hu : X.A.units + 2 < cLine) : CallR X (.type "dict") (rDictT X.K) := by
  intro pins s σ H xs us Q I r q
  obtain ⟨a, ps, kvs, rfl, ⟨ob, od, hq⟩, hp, q⟩ := q
  obtain ⟨u, rfl, rx⟩ := vals1 r
  cases rx
  obtain ⟨ho, hz, its, rv, o2, e2, c2, n2, d2⟩ := (show ObjOk X.prog X.w H s.heap a (.frz ob (.tup (ps.map V.ref))) from I.hok a _ hq)
  rw [ho] at e2
  cases e2
  have ei := refs_at rv
  subst ei
  rw [List.length_map] at hz
  obtain ⟨ms, rel, hl, hpr⟩ := prT_vals I hp
  have P := PairArg.tuple (prog := X.prog) (w := X.w) a (ps.map Value.ref).toArray (fun j => ps.getD j 0) (ms.map fun m => (Value.ref m.2.1, m.2.2))
  refine call_dict_pairsH (knd := tupleKind (mixKind X.prog X.w)) (ps := ms) P (I.ok.hd hc) hu ⟨⟨ob, n2, ho, c2, od, d2⟩, by simp [hl], fun j k v e => ?_⟩ ⟨by simp, fun i key v e => ?_⟩ (fun h' hk x hx => ?_) (by simp; omega) fun h' tk hd' k => ?_
  · rw [List.getElem?_map] at e
    obtain ⟨m, em, e⟩ := Option.map_eq_some_iff.mp e
    cases e
    obtain ⟨p, ep, it⟩ := hpr j m em
    have eg : ps.getD j 0 = p := by rw [List.getD_eq_getElem?_getD, ep]; rfl
    refine ⟨?_, ?_⟩
    · show (List.map Value.ref ps).toArray[j]? = some (Value.ref (ps.getD j 0))
      rw [eg]
      simp [ep]
    · show PairAt s.heap (ps.getD j 0) _ _
      rw [eg]
      exact .inl it
  · have e : (ms.map fun m => (Value.ref m.2.1, m.2.2))[i]? = some (key, v) := e
    rw [List.getElem?_map] at e
    obtain ⟨m, em, e⟩ := Option.map_eq_some_iff.mp e
    cases e
    exact ⟨m.1, m.2.1, em, rfl⟩
  · obtain ⟨j, ej⟩ := List.getElem?_of_mem hx
    obtain ⟨kv, _, e1, e2, _⟩ := Paired.at' rel ej
    obtain ⟨o, it, n, h1, h2, h3, h4⟩ := key_of I.hok (ks := x.1) (by rw [← e1]; exact e2)
    exact ⟨o, it, n, hk _ _ (Nat.ne_of_lt (Heap.lt_size h1)) (by simp) h1, h2, h3, h4⟩
  · have hm : (s.heap.objs.size == sysModules) = false := beq_eq_false_iff_ne.mpr (Nat.ne_of_gt I.big)
    have lk : kvs.length = ps.length := (Paired.length hp).symm
    have hlen : (mergeT [] kvs).length ≤ sizeLine := by
      refine Nat.le_trans (mergeT_len kvs []) ?_
      rw [List.length_nil, Nat.zero_add, lk]
      exact hz
    obtain ⟨o3, es, ep, g1, g2, g3, g4, g5, g6⟩ := hd'
    have nf := I.hok.fresh (Nat.le_refl _)
    refine ⟨.ref s.heap.objs.size, upd H s.heap.objs.size (.dT (mergeT [] kvs)), I.laid (t' := tk) (fun b o e => k b o (by simp) e) (Nat.le_refl _) (show ObjOk X.prog X.w _ _ _ (.dT (mergeT [] kvs)) from ⟨hlen, hm, storedAllH [] ms, (KT.mergeT rel .nil).keeps fun b ys e => same_new nf _ _ e, o3, es, ep, g1, g2, g3, g4, g6⟩), rfl, q _ nf⟩
end
/-! ### zip of a list and a tuple of one length -/
def ItW (K : PySem.W.Frag) (a b : Addr) : It where
  go := fun i H => ∃ (xs ys : List V), (SqL K H a xs ∧ SqT K H b ys) ∧ i < xs.length ∧ ys.length = xs.length
  yld := fun i H v H' => ∃ T x y, v = .ref T ∧ H T = none ∧ H' = upd H T (.tup [x, y]) ∧ (∀ xs, SqL K H a xs → xs[i]? = some x) ∧ (∀ ys, SqT K H b ys → ys[i]? = some y)
  stop := fun i H => ∃ (xs ys : List V), (SqL K H a xs ∧ SqT K H b ys) ∧ xs.length = i ∧ ys.length = i
theorem turn_zipW {P : Program} {w : World} {K : PySem.W.Frag} {elts : List Expr} {kk : Nat} {tpos : Pos} {a b z TI TO i1 i2 : Addr} (S : ZipSep2 z TI TO i1 i2 [i1, a] [i2, b]) (n1 : a ≠ i1) (n2 : b ≠ i2) :
    Turn P w K (.Tuple elts kk tpos) (ItW K a b) [z, TI, TO, i1, i2] z (fun i h => IsZip h z TI TO .none ∧ IsTupOf2 h TI (.ref i1) (.ref i2) ∧ (∃ a1 a2, IsTupOf2 h TO a1 a2) ∧ h.IsListIter i1 a i ∧ h.IsTupleIter i2 b i) where
  mem := List.mem_cons_self
  obj := by
    rintro i h ⟨hz, hTI, ⟨a1, a2, hTO⟩, ⟨o1, e1, _, d1⟩, ⟨o2, e2, _, d2⟩⟩ q hq
    simp only [List.mem_cons, List.not_mem_nil, or_false] at hq
    rcases hq with rfl | rfl | rfl | rfl | rfl
    · exact ⟨_, hz, fun v y => nomatch y⟩
    · exact ⟨_, hTI, fun v y => nomatch y⟩
    · exact ⟨_, hTO, fun v y => nomatch y⟩
    · exact ⟨o1, e1, fun v y => by rw [d1] at y; cases y⟩
    · exact ⟨o2, e2, fun v y => by rw [d2] at y; cases y⟩
  keep := by
    rintro i h h' ⟨hz, hTI, ⟨a1, a2, hTO⟩, t1, t2⟩ kp
    exact ⟨kp z (by simp) _ hz, kp TI (by simp) _ hTI, ⟨a1, a2, kp TO (by simp) _ hTO⟩, t1.at fun o q => kp i1 (by simp) o q, t2.at fun o q => kp i2 (by simp) o q⟩
  item := by
    intro X hP hw hK hc i pins s σ H E I hf st hg
    subst hP hw hK
    obtain ⟨hz, hTI, hTO, t1, t2⟩ := st
    obtain ⟨xs, ys, ⟨qx, qy⟩, hi, ly⟩ := hg
    obtain ⟨us, ru, tu, _⟩ := I.list qx
    obtain ⟨vs, rv, tv, _⟩ := I.tuple qy
    have lu := ru.length
    have lv := rv.length
    obtain ⟨u, hu, eu⟩ := ru.get (List.getElem?_eq_getElem hi)
    obtain ⟨v, hv, ev⟩ := rv.get (List.getElem?_eq_getElem (show i < ys.length by omega))
    have W := WalksT.zipD2 (A := X.A) S (Draws.list (prog := X.prog) (w := X.w) (A := X.A.in1) (I.ok.hd hc) i1 a n1 us.toArray) (Draws.tuple (prog := X.prog) (w := X.w) (A := X.A.in1) (I.ok.hd hc) i2 b n2 vs.toArray)
    refine W.item i s _ _ (by simp only [List.size_toArray]; omega) ⟨hz, hTI, hTO, ⟨t1, tu.isList⟩, ⟨t2, tv⟩⟩ fun T vals h' tk hp newT isT mid kp => ?_
    obtain ⟨y1, y2, p1, p2, rfl⟩ := hp
    have apart := W.apart i T h' mid
    obtain rfl : u = y1 := Option.some.inj (((by simpa using hu) : us.toArray[i]? = some u).symm.trans p1)
    obtain rfl : v = y2 := Option.some.inj (((by simpa using hv) : vs.toArray[i]? = some v).symm.trans p2)
    refine ⟨_, rfl, W.go elts kk tpos i T { s with heap := h', toks := tk } _ _ mid fun h2 st2 kp2 => ?_⟩
    obtain ⟨g1, g2, g3, ⟨g4, _⟩, ⟨g5, _⟩⟩ := st2
    have objT : ObjOk X.prog X.w (upd H T (.tup [xs[i], ys[i]])) h2 T (.tup [xs[i], ys[i]]) := by
      obtain ⟨ot, et, ct, nt, dt⟩ := isT
      exact ⟨by show 2 ≤ sizeLine; decide, [u, v], .cons eu (.cons ev .nil), ⟨ot, kp2 _ _ apart et, ct, nt, dt⟩⟩
    have J : Inv X pins σ (upd H T (.tup [xs[i], ys[i]])) { s with heap := h2, toks := tk } := I.turnedNew (ch := [z, TI, TO, i1, i2]) (fun q ob hq e => by
      simp only [List.mem_cons, List.not_mem_nil, or_false, not_or] at hq
      have nw : q ∉ [z, TO, i1, i2] := by simp [hq]
      exact kp2 q ob nw (kp q ob nw e)) hf newT objT
    refine ⟨.ref T, _, J, rfl, ⟨T, _, _, rfl, I.hok.fresh newT, rfl, fun l hl => by rw [I.list_inj hl qx]; exact List.getElem?_eq_getElem hi, fun l hl => by rw [I.tuple_inj hl qy]; exact List.getElem?_eq_getElem _⟩, ⟨g1, g2, g3, g4, g5⟩, fun q hq => ?_⟩
    have lq : q < s.heap.objs.size := by
      obtain ⟨_, _, ⟨a1, a2, hTO⟩⟩ := (⟨hz, hTI, hTO⟩ : _ ∧ _ ∧ _)
      obtain ⟨o1, e1, _⟩ := t1
      obtain ⟨o2, e2, _⟩ := t2
      simp only [List.mem_cons, List.not_mem_nil, or_false] at hq
      rcases hq with rfl | rfl | rfl | rfl | rfl
      · exact Heap.lt_size hz
      · exact Heap.lt_size hTI
      · exact Heap.lt_size hTO
      · exact Heap.lt_size e1
      · exact Heap.lt_size e2
    rw [upd_ne (Nat.ne_of_lt (Nat.lt_of_lt_of_le lq newT))]
    exact (hf q hq).1
  done := by
    intro X hP hw hK hc i pins s σ H E I hf st hg
    subst hP hw hK
    obtain ⟨hz, hTI, hTO, t1, t2⟩ := st
    obtain ⟨xs, ys, ⟨qx, qy⟩, lx, ly⟩ := hg
    obtain ⟨us, ru, tu, _⟩ := I.list qx
    obtain ⟨vs, rv, tv, _⟩ := I.tuple qy
    have lu := ru.length
    have lv := rv.length
    have W := WalksT.zipD2 (A := X.A) S (Draws.list (prog := X.prog) (w := X.w) (A := X.A.in1) (I.ok.hd hc) i1 a n1 us.toArray) (Draws.tuple (prog := X.prog) (w := X.w) (A := X.A.in1) (I.ok.hd hc) i2 b n2 vs.toArray)
    have en : min us.toArray.size vs.toArray.size = i := by simp only [List.size_toArray]; omega
    refine W.done s _ _ ?_ fun h' tk kp => ⟨rfl, ?_⟩
    · rw [en]
      exact ⟨hz, hTI, hTO, ⟨t1, tu.isList⟩, ⟨t2, tv⟩⟩
    · refine I.turnedL (ch := [z, TI, TO, i1, i2]) (fun q ob hq e => ?_) hf
      simp only [List.mem_cons, List.not_mem_nil, or_false, not_or] at hq
      exact kp q ob (by simp [hq]) e
  self := by
    rintro A i s Q E ⟨hz, _⟩ h
    exact wpAny_pyIter_zip hz h
def iZipW (K : PySem.W.Frag) (ta : TA) : TI := fun σ H R => ta σ H fun vs H1 => ∃ a b xs ys, vs = [.ref a, .ref b] ∧ SqL K H1 a xs ∧ SqT K H1 b ys ∧ R (ItW K a b) H1
theorem pi_zipW {X : Cx} {e e2 : Expr} {ta : TA} {p pos tpos : Pos} {elts : List Expr} {kk : Nat} (hg : Gl X "zip") (hm : X.mg "zip" = none) (ha : PA X [e, e2] ta) (hs : starEach [e, e2] X.env = (false, eval e X.env) :: starEach [e2] X.env := by rfl)
    (hpl : (backTo pos (starEach [e2] X.env)).any (·.1) = false := by rfl) : PI X (.Tuple elts kk tpos) (.Call (.Name "zip" p) [e, e2] [] pos) (iZipW X.K ta) := by
  refine ⟨fun pins s σ H R I want => Call_ (ld_blt I hg hm PyProof.Rows.boot_zip (PyProof.Rows.callWith_type1 (thn (ha.run pos pins s σ H _ I want) fun us s1 got => ?_) hs hpl))⟩
  obtain ⟨vs, H1, J, rel, a, b, xs, ys, ex, qa, qb, q⟩ := got
  subst ex
  cases rel with
  | cons r1 rel =>
    cases rel with
    | cons r2 rel =>
        cases rel
        cases r1
        cases r2
        obtain ⟨u1, _, t1, _⟩ := J.list qa
        obtain ⟨u2, _, t2, _⟩ := J.tuple qb
        have la : a < s1.heap.objs.size := t1.lt
        have lb : b < s1.heap.objs.size := let ⟨_, y, _⟩ := t2; Heap.lt_size y
        refine zip_begins2 (begins_list a u1.toArray) (begins_tuple b u2.toArray) t1.isList t2 fun h' hz hTI hTO g1 g2 _ kp => wpAny_pyIter_zip hz ?_
        have J2 : Inv X pins σ H1 { s1 with heap := h' } := J.kept (t' := s1.toks) kp
        have S := zip_sep2 (N := s1.heap.objs.size) (fp1 := [a]) (fp2 := [b]) (fun y hy => by rw [List.mem_singleton.mp hy]; exact la) (fun y hy => by rw [List.mem_singleton.mp hy]; exact lb)
        refine ⟨s1.heap.objs.size + 4, [s1.heap.objs.size + 4, s1.heap.objs.size + 2, s1.heap.objs.size + 3, s1.heap.objs.size, s1.heap.objs.size + 1], _, _, H1, rfl, J2, turn_zipW S (Nat.ne_of_lt la) (Nat.ne_of_lt (Nat.lt_succ_of_lt lb)), ⟨hz, hTI, ⟨_, _, hTO⟩, ⟨_, g1, rfl, rfl⟩, ⟨_, g2, rfl, rfl⟩⟩, fun y hy => ?_, q⟩
        have ly : s1.heap.objs.size ≤ y := by
          simp only [List.mem_cons, List.not_mem_nil, or_false] at hy
          rcases hy with rfl | rfl | rfl | rfl | rfl
          · exact Nat.le_add_right _ _
          · exact Nat.le_add_right _ _
          · exact Nat.le_add_right _ _
          · exact Nat.le_refl _
          · exact Nat.le_add_right _ _
        exact J.fpOk ly (J.hok.fresh ly)
theorem walk_zipW {K : PySem.W.Frag} {a b : Addr} {xs ys : List V} (hl : ys.length = xs.length) : Walk (ItW K a b) xs.length (fun H => SqL K H a xs ∧ SqT K H b ys) (YPair (fun i => xs[i]?) (fun i => ys[i]?)) := by
  refine ⟨fun i _ hi q => ⟨xs, ys, q, hi, hl⟩, fun _ q => ⟨xs, ys, q, rfl, hl⟩, fun i H v H' _ q y => ?_⟩
  obtain ⟨T, x, z, h1, h2, h3, h4, h5⟩ := y
  exact ⟨T, x, z, h1, h2, h3, h4 xs q.1, h5 ys q.2⟩
/-! ### tables, by the law -/
def spTableIs (K : PySem.W.Frag) : Sp := fun vs H Q _ => ∃ (oa : Addr) (odd : List Int) (l : V) (t : V) (m : Nat) (gaps : List Gap) (ls : List V), vs = [.ref oa, l, t] ∧ NoD H oa (odd.map V.int) ∧ odd.length ≤ 8 ∧ odd.Pairwise (· < ·) ∧ (∀ x ∈ odd, 0 ≤ x ∧ x < (m : Int)) ∧ parts H l = some ls ∧ ls.length = odd.length ∧ (odd.zip ls).all (fun p => layB H gaps m p.1 p.2) = true ∧ PapA H l ∧ PapA H t ∧
  ∀ H', Same H H' → Q (.bl (match tabB H (evs odd) t with | some zs => (evs odd).all (rowH (layI H odd ls) (numF odd zs)) | none => false)) H'
theorem tabS_snoc {H : Hp} : ∀ {cs : List (List Int)} {rows : List V} {zs : List Int} {c : List Int} {r : V} {z : Int}, tabS H cs rows = some zs → trowZ H c r = some z → tabS H (cs ++ [c]) (rows ++ [r]) = some (zs ++ [z])
  | [], [], _, c, r, z, h, hz => by
    cases h
    show tabS H [c] [r] = some [z]
    unfold tabS
    rw [hz]
    rfl
  | [], _ :: _, _, _, _, _, h, _ => by cases h
  | _ :: _, [], _, _, _, _, h, _ => by cases h
  | c0 :: cs, r0 :: rows, zs, c, r, z, h, hz => by
    unfold tabS at h
    cases h1 : trowZ H c0 r0 with
    | none => rw [h1] at h; cases h
    | some z0 =>
      cases h2 : tabS H cs rows with
      | none => rw [h1, h2] at h; cases h
      | some ys =>
        rw [h1, h2] at h
        cases h
        show tabS H (c0 :: (cs ++ [c])) (r0 :: (rows ++ [r])) = some (z0 :: ys ++ [z])
        unfold tabS
        rw [h1, tabS_snoc h2 hz]
        rfl
theorem lk_swap {es : List (List Int × Int)} (h : ([] : List Int) ∉ es.map (·.1)) (c : List Int) : lkC (([], 0) :: es) c = lkC (es ++ [([], 0)]) c := by
  unfold lkC
  by_cases hc : c = []
  · subst hc
    have : (es.find? fun e => decide (e.1 = [])) = none := List.find?_eq_none.mpr fun e he z => h (List.mem_map.mpr ⟨e, he, of_decide_eq_true z⟩)
    rw [List.find?_append, this]
    rfl
  · rw [List.find?_cons_of_neg (by exact fun z => hc (of_decide_eq_true z).symm), List.find?_append]
    cases f : es.find? fun e => decide (e.1 = c) with
    | some y => rfl
    | none =>
      show _ = ((Option.or none (List.find? _ [(([] : List Int), (0 : Int))])).map _).getD 0
      rw [List.find?_cons_of_neg (by exact fun z => hc (of_decide_eq_true z).symm)]
      rfl
theorem lyAt_at {odd : List Int} (nd : odd.Nodup) {ls : List V} {j : Nat} {f : Int} {y : V} (ef : odd[j]? = some f) (ey : ls[j]? = some y) : lyAt odd ls f = y := by
  unfold lyAt
  have hm : (f, y) ∈ odd.zip ls := List.mem_of_getElem? (zip_at ef ey)
  cases fd : (odd.zip ls).find? fun e => decide (e.1 = f) with
  | none => exact absurd (decide_eq_true rfl) (List.find?_eq_none.mp fd _ hm)
  | some p =>
    have hp := List.find?_some fd
    have hp1 : p.1 = f := of_decide_eq_true hp
    obtain ⟨i, ei⟩ := List.getElem?_of_mem (List.mem_of_find?_eq_some fd)
    obtain ⟨e1, e2⟩ := List.getElem?_zip_eq_some.mp ei
    rw [hp1] at e1
    have := (List.getElem?_inj (List.getElem?_eq_some_iff.mp e1).1 nd).mp (e1.trans ef.symm)
    subst this
    rw [ey] at e2
    exact (Option.some.inj e2).symm
theorem trowZ_int {H : Hp} {c : List Int} {r k : V} {z : Int} {ks : List V} (h1 : parts H r = some [k, .int z]) (h2 : parts H k = some ks) : trowZ H c r = if ks = c.map V.int ∧ 0 ≤ z then some z else none := by
  unfold trowZ
  rw [h1]
  show (if parts H k = some (c.map V.int) ∧ 0 ≤ z then some z else none) = _
  rw [h2]
  by_cases h : ks = c.map V.int ∧ 0 ≤ z
  · rw [if_pos h, if_pos ⟨by rw [h.1], h.2⟩]
  · rw [if_neg h, if_neg fun w => h ⟨Option.some.inj w.1, w.2⟩]
theorem trowZ_no {H : Hp} {c : List Int} {r k z0 : V} (h1 : parts H r = some [k, z0]) (h : isW z0 = false) : trowZ H c r = none := by
  unfold trowZ
  rw [h1]
  cases z0 with
  | int z => cases h
  | _ => rfl
theorem isW_int {v : V} (h : isW v = true) : ∃ z, v = .int z := by
  cases v with
  | int z => exact ⟨z, rfl⟩
  | _ => cases h
theorem ints_isW : ∀ {xs : List V}, (xs.filter fun x => !isW x) = [] → ∃ ns : List Int, xs = ns.map V.int
  | [], _ => ⟨[], rfl⟩
  | x :: xs, h => by
    cases x with
    | int z =>
      obtain ⟨ns, e⟩ := ints_isW (xs := xs) (by simpa [isW] using h)
      exact ⟨z :: ns, by rw [e]; rfl⟩
    | _ => rw [List.filter_cons] at h; simp [isW] at h
section
variable {P : Program} {w : World} {K : PySem.W.Frag} {mg : Str → Option Value} {base : Heap}
set_option maxHeartbeats 4000000 in
theorem ok_l_table_is {f : Addr} {fd : FuncData} (F : Fun K "_law_table_is" "_law_table_is" s_l_table_is f fd) (M : Free mg) (m_zip : mg "zip" = none) (D_l_choices : Df P w K mg base 1 "_law_choices" ["_law_odd_here"] (spChoicesL K)) (D_l_whole : Df P w K mg base 1 "_law_whole" ["_law_thing"] spWhole) : FnOk P w K mg base CX0 2 f fd ["_law_odd_here", "_law_layers", "_law_thing"] (spTableIs K) := by
  obtain ⟨f_l_choices, fd_l_choices, G_l_choices, g_l_choices, k_l_choices, b_l_choices⟩ := D_l_choices
  obtain ⟨f_l_whole, fd_l_whole, G_l_whole, g_l_whole, k_l_whole, b_l_whole⟩ := D_l_whole
  refine F.ok sc_l_table_is (fun vs H Q E h => ?_) (fun cdv A outer s H vs Q E hr h => ?_)
  · obtain ⟨oa, odd, l, tv, m, gaps, ls, rfl, _⟩ := h
    rfl
  · obtain ⟨oa, odd, l, tv, m, gaps, ls, rfl, ho, l8, pw, bo, hl, hll, hal, pl, pt, q⟩ := h
    have hu := room1 hr
    refine ⟨_, (pss_cons (ps_set (i := 3) sc_l_table_is.nd rfl (.inl rfl) (pe_call G_l_choices (hr.mono (by decide)) (by rfl) g_l_choices k_l_choices b_l_choices .nil pass0 (pa_cons (pv 0) pa_nil)))
      (pss_cons (ps_if (PW.pt (pw_or (pt_not (pt_val (pe_callB call_isi (by rfl) M.isinstance (by decide +kernel) (pa_cons (pv 2) (pa_cons (pe_bltn (v := .ty "tuple") (by rfl) M.tuple (by decide +kernel) rfl) pa_nil))))) (pw_or1 (pt_cmpR op_ne (pe_callB call_len_seq (by rfl) M.len PySem.boot_len (pa_cons (pv 2) pa_nil)) (pe_callB call_len_seq (by rfl) M.len PySem.boot_len (pa_cons (pv 3) pa_nil)) (nomark _)))))
        (pss_one (ps_ret pe_bl))
        pss_nil)
      (pss_cons (ps_set (i := 4) sc_l_table_is.nd rfl (.inl rfl) (pe_disp1T (Nat.lt_of_succ_lt hu) (pe_tup pa_nil) pe_int))
      (pss_cons (ps_for PassesOwn.never rfl (pi_zipW (by rfl) m_zip (pa_cons (pv 3) (pa_cons (pv 2) pa_nil))) (pg_tup rfl (pgs_cons (pg_name (i := 5) sc_l_table_is.nd rfl (.inl rfl)) (pgs_cons (pg_name (i := 6) sc_l_table_is.nd rfl (.inl rfl)) pgs_nil)))
        (pss_cons (ps_if (PW.pt (pw_or (pt_not (pt_val (pe_callB call_isi (by rfl) M.isinstance (by decide +kernel) (pa_cons (pv 6) (pa_cons (pe_bltn (v := .ty "tuple") (by rfl) M.tuple (by decide +kernel) rfl) pa_nil))))) (pw_or (pt_cmpR op_ne (pe_callB call_len_seq (by rfl) M.len PySem.boot_len (pa_cons (pv 6) pa_nil)) pe_int (nomark _)) (pw_or1 (pt_not (pt_val (pe_callB call_isi (by rfl) M.isinstance (by decide +kernel) (pa_cons (pe_ix ix_tup (pv 6) pe_int (fun _ _ => rfl)) (pa_cons (pe_bltn (v := .ty "tuple") (by rfl) M.tuple (by decide +kernel) rfl) pa_nil)))))))))
          (pss_one (ps_ret pe_bl))
          pss_nil)
        (pss_cons (ps_if (PW.pt (pw_or (pt_cmpR (op_neE hr.units0) (pe_lc (own := [("_law_one", 7)]) (g := (gName 7)) (te := tVar 7) rfl sc_l_table_is.nd (pi_tup (pe_ix ix_tup (pv 6) pe_int (fun _ _ => rfl))) (blkOk_by (N := N_l_table_is) (sc := defScope s_l_table_is) (own := [("_law_one", 7)]) (by decide +kernel)) (fun _ _ _ _ _ => (pg_name (i := 7) sc_l_table_is.nd rfl (.inl rfl))) (fun _ _ _ _ _ => (pts_one (pt_not (pt_val (pe_call G_l_whole (hr.mono (by decide)) (by rfl) g_l_whole k_l_whole b_l_whole .nil pass0 (pa_cons (pv 7) pa_nil)))))) (fun _ _ _ _ _ => (pv 7))) (pe_lst pa_nil) (nomark _)) (pw_or1 (pt_cmpR (op_neD hr.units) (pe_ix ix_tup (pv 6) pe_int (fun _ _ => rfl)) (pv 5) (nomark _)))))
          (pss_one (ps_ret pe_bl))
          pss_nil)
        (pss_cons (ps_if (PW.pt (pw_or (pt_not (pt_val (pe_call G_l_whole (hr.mono (by decide)) (by rfl) g_l_whole k_l_whole b_l_whole .nil pass0 (pa_cons (pe_ix ix_tup (pv 6) pe_int (fun _ _ => rfl)) pa_nil)))) (pw_or1 (pt_cmpR op_lt (pe_ix ix_tup (pv 6) pe_int (fun _ _ => rfl)) pe_int (nomark _)))))
          (pss_one (ps_ret pe_bl))
          pss_nil)
        (pss_one (ps_dput hu (pv 4) (pv 5) (pe_ix ix_tup (pv 6) pe_int (fun _ _ => rfl)) rfl))))))
      (pss_cons (ps_for PassesOwn.never rfl (pi_list (pv 3)) (pg_name (i := 5) sc_l_table_is.nd rfl (.inl rfl))
        (pss_cons (ps_set (i := 8) sc_l_table_is.nd rfl (.inl rfl) (pe_ix ix_tup (pv 1) (pe_bmT PySem.F.slot_tuple_index PySem.F.type_tuple_index mt_tidx (pv 0) (pa_cons (pe_ix ix_tup (pv 5) pe_int (fun _ _ => rfl)) pa_nil)) (fun _ _ => rfl)))
        (pss_one (ps_for PassesOwn.never rfl (pi_tup (pe_slice sl_tupU (pv 5) (po_some pe_int) po_none)) (pg_name (i := 9) sc_l_table_is.nd rfl (.inr rfl))
          (pss_one (ps_if (pt_cmpR op_gt (pe_dget hu (pv 4) (pv 5) (fun _ _ => rfl)) (pe_op op_add (pe_ix ix_tup (pv 8) (pv 9) (fun _ _ => rfl)) (pe_dget hu (pv 4) (pe_callTy call_tuple_of (by rfl) M.tuple (by decide +kernel) (pa_cons (pe_lc (own := [("_law_one", 7)]) (g := (gName 7)) (te := tVar 7) rfl sc_l_table_is.nd (pi_tup (pe_slice sl_tupU (pv 5) (po_some pe_int) po_none)) (blkOk_by (N := N_l_table_is) (sc := defScope s_l_table_is) (own := [("_law_one", 7)]) (by decide +kernel)) (fun _ _ _ _ _ => (pg_name (i := 7) sc_l_table_is.nd rfl (.inl rfl))) (fun _ _ _ _ _ => (pts_one (pt_cmpR op_ne (pv 7) (pv 9) (nomark _)))) (fun _ _ _ _ _ => (pv 7))) pa_nil)) (fun _ _ => rfl))) (nomark _))
            (pss_one (ps_ret pe_bl))
            pss_nil))))))
      (pss_one (ps_ret pe_bl))))))), ?_⟩
    refine ⟨.ref oa, rfl, oa, odd, rfl, fun H' s => (ho.same s).sq, l8, fun L ys H1 s1 nL hL hys => ?_⟩
    have sqo : ∀ H', Same H H' → SqT K H' oa (odd.map V.int) := fun H' s => (ho.same s).sq
    have nd : odd.Nodup := pw.imp fun h => by omega
    have le := evs_len odd l8
    have lys : ys.length = (evs odd).length := Paired.length hys
    have kt1 : Kn H1 tv := (StayP.same s1 tv pt.kn).1
    have ep : parts H1 tv = parts H tv := (StayP.same s1 tv pt.kn).2
    obtain ⟨t1, i1, j1⟩ := kn_tup (K := K) (H := H1) (v := tv) kt1
    refine ⟨tv, rfl, tv, _, t1, _, _, rfl, .ty "tuple", i1, j1, _, rfl, ?_⟩
    cases hi1 : isT H1 tv with
    | false =>
      have := q H1 s1
      unfold tabB at this
      rw [← ep, parts_none hi1] at this
      exact this
    | true =>
    obtain ⟨ta, rows, rfl, hta⟩ := isT_at hi1
    have hta0 : TupA H ta rows := by
      have h := parts_of' hta
      rw [ep] at h
      obtain ⟨b, eb, hb⟩ := parts_at h
      cases eb
      exact hb
    have hpt : parts H (.ref ta) = some rows := by rw [← ep]; exact parts_of' hta
    have etb : tabB H (evs odd) (.ref ta) = tabS H (evs odd) rows := by
      unfold tabB
      rw [hpt]
    rw [etb] at q
    refine ⟨.ref ta, rfl, ta, _, rfl, .inr hta.sq, .ref L, rfl, L, _, rfl, .inl (SqL.of hL), rfl, _, rfl, ?_⟩
    by_cases hlr : rows.length = (evs odd).length
    case neg =>
      rw [show decide (V.int (rows.length : Nat) = V.int (ys.length : Nat)) = false from decide_eq_false fun z => hlr (by have := V.int.inj z; omega)]
      have := q H1 s1
      have e0 : tabS H (evs odd) rows = none := by
        cases h : tabS H (evs odd) rows with
        | none => rfl
        | some zs => exact absurd (tabS_len h).1 hlr
      rw [e0] at this
      exact this
    rw [show decide (V.int (rows.length : Nat) = V.int (ys.length : Nat)) = true from decide_eq_true (by rw [hlr, lys])]
    have prs := (pt.at' hpt).1
    have bad : ∀ {H' : Hp} {i : Nat} {c : List Int} {r : V}, Same H H' → (evs odd)[i]? = some c → rows[i]? = some r → trowZ H c r = none → Q (.bl false) H' := fun {H' i c r} s ec er h => by
      have := q H' s
      rw [tabS_none ec er h] at this
      exact this
    refine fun D nD => ⟨by show 0 ≤ sizeLine; decide, fun e0 n0 => ?_⟩
    have nDe : D ≠ e0 := fun z => by
      rw [← z, upd_same] at n0
      cases n0
    have hD1 : (upd (upd H1 D (.dT [])) e0 (.tup [])) D = some (.dT []) := by rw [upd_ne nDe, upd_same]
    have he1 := upd_same (H := upd H1 D (.dT [])) (a := e0) (o := .tup [])
    have s2 := (same_new (o := .dT []) nD).trans (same_new (o := .tup []) n0)
    generalize upd (upd H1 D (.dT [])) e0 (.tup []) = H2 at hD1 he1 s2
    refine ⟨[], e0, rfl, he1, hD1, ?_⟩
    have s3 : Same H1 (upd H2 D (.dT [([], .int 0)])) := Same.mut s2 nD
    have hD3 : (upd H2 D (.dT [([], .int 0)])) D = some (.dT (kvC [([], 0)])) := upd_same
    generalize upd H2 D (.dT [([], .int 0)]) = H3 at s3 hD3
    have nDH : H D = none := s1.free nD
    have hys3 : Paired (IntsV H3) ys (evs odd) := Paired.mono (fun _ _ x => x.tk (Same.tk s3)) hys
    have s03 := s1.trans s3
    have ndE := evs_nodup nd
    refine ⟨.ref L, rfl, .ref ta, rfl, L, ta, _, _, rfl, SqL.of (s3 _ _ hL), (hta.same s3).sq, ?_⟩
    refine for_it (walk_zipW (K := K) (a := L) (b := ta) (xs := ys) (ys := rows) (by omega)) (fun i σ' H' => ∃ (y5 y6 y7 y8 y9 : Option V) (zs : List Int), σ' = [some (.ref oa), some l, some (.ref ta), some (.ref L), some (.ref D), y5, y6, y7, y8, y9] ∧ H' D = some (.dT (kvC (([], 0) :: ((evs odd).take i).zip zs))) ∧ tabS H ((evs odd).take i) (rows.take i) = some zs ∧ Same H H' ∧ Tk H3 H' ∧ H' L = some (.lst ys)) ⟨_, _, _, _, _, [], rfl, hD3, rfl, s03, fun _ _ h => h, s3 _ _ hL⟩ (fun i σ' H' _ h => by
      obtain ⟨_, _, _, _, _, _, _, _, _, s, _, hL'⟩ := h
      exact ⟨SqL.of hL', (hta0.same s).sq⟩) ?_ ?_
    · rintro i x σ' H4 H5 hi ⟨y5, y6, y7, y8, y9, zs, rfl, hD4, htb, s4, k4, hL4⟩ ⟨T, x1, y, rfl, nT, rfl, e1, e2⟩
      have e1 : ys[i]? = some x1 := e1
      have e2 : rows[i]? = some y := e2
      obtain ⟨c, ec, ca, rfl, hca⟩ := Paired.at hys3 e1
      have hca4 := k4 _ _ hca
      have sT := same_new (o := .tup [.ref ca, y]) nT
      have hT := upd_same (H := H4) (a := T) (o := .tup [.ref ca, y])
      have hD5 := sT _ _ hD4
      have hL5 := sT _ _ hL4
      have s5 := s4.trans sT
      have k5 : Tk H3 (upd H4 T (.tup [.ref ca, y])) := k4.trans (Same.tk sT)
      have hca5 := sT _ _ hca4
      generalize upd H4 T (.tup [.ref ca, y]) = H5 at sT hT hD5 hL5 s5 k5 hca5
      refine ⟨T, _, rfl, SqT.of hT, rfl, _, _, rfl, _, _, rfl, rfl, ?_⟩
      have py := prs y (List.mem_of_getElem? e2)
      have kn5 : Kn H5 y := (StayP.same s5 y py.kn).1
      have ep5 : parts H5 y = parts H y := (StayP.same s5 y py.kn).2
      obtain ⟨t2, i2, j2⟩ := kn_tup (K := K) (H := H5) (v := y) kn5
      refine ⟨y, rfl, y, _, t2, _, _, rfl, .ty "tuple", i2, j2, _, rfl, ?_⟩
      cases hi5 : isT H5 y with
      | false =>
        refine bad s5 ec e2 ?_
        unfold trowZ
        rw [← ep5, parts_none hi5]
      | true =>
      obtain ⟨b, xs, rfl, hb⟩ := isT_at hi5
      have hpx : parts H (.ref b) = some xs := by rw [← ep5]; exact parts_of' hb
      refine ⟨.ref b, rfl, b, _, rfl, .inr hb.sq, rfl, _, rfl, ?_⟩
      by_cases hx : xs.length = 2
      case neg =>
        rw [show decide (V.int (xs.length : Nat) = V.int 2) = false from decide_eq_false fun z => hx (by have := V.int.inj z; omega)]
        refine bad s5 ec e2 ?_
        cases h : trowZ H c (.ref b) with
        | none => rfl
        | some z =>
          obtain ⟨k, h1, _⟩ := trow_some h
          rw [hpx] at h1
          cases h1
          exact absurd rfl hx
      rw [show decide (V.int (xs.length : Nat) = V.int 2) = true from decide_eq_true (by rw [hx]; rfl)]
      obtain ⟨k, z0, rfl⟩ : ∃ k z0, xs = [k, z0] := by
        match xs, hx with
        | [k, z0], _ => exact ⟨k, z0, rfl⟩
      have pk := (py.at' hpx).1 k (by simp)
      have pz := (py.at' hpx).1 z0 (by simp)
      have knk : Kn H5 k := (StayP.same s5 k pk.kn).1
      have epk : parts H5 k = parts H k := (StayP.same s5 k pk.kn).2
      obtain ⟨t3, i3, j3⟩ := kn_tup (K := K) (H := H5) (v := k) knk
      refine ⟨.ref b, rfl, b, _, 0, k, rfl, rfl, hb.sq, rfl, k, _, t3, _, _, rfl, .ty "tuple", i3, j3, _, rfl, ?_⟩
      cases hik : isT H5 k with
      | false =>
        refine bad s5 ec e2 ?_
        cases hw : isW z0 with
        | false => exact trowZ_no hpx hw
        | true =>
          obtain ⟨z, rfl⟩ := isW_int hw
          unfold trowZ
          rw [hpx]
          show (if parts H k = some (c.map V.int) ∧ 0 ≤ z then some z else none) = none
          rw [← epk, parts_none hik, if_neg (fun w => by cases w.1)]
      | true =>
      obtain ⟨kb, ks, rfl, hkb⟩ := isT_at hik
      have hpk : parts H (.ref kb) = some ks := by rw [← epk]; exact parts_of' hkb
      have pks := (pk.at' hpk).1
      have lks := (pk.at' hpk).2
      refine ⟨.ref b, rfl, b, _, 0, .ref kb, rfl, rfl, hb.sq, rfl, kb, rfl, ⟨_, hkb.sq⟩, fun Z nZ => ?_⟩
      refine lc_tup (xs := ks) (fun j H' => H' Z = some (.lst ((ks.take j).filter fun x => !isW x)) ∧ Same H5 H') ⟨upd_same, same_new nZ⟩ (fun j H' _ h => (hkb.same h.2).sq) ?_ ?_
      · rintro j x H6 ex ⟨hZ, s6⟩
        have px := pks x (List.mem_of_getElem? ex)
        have kx : Kn H6 x := (StayP.same (s5.trans s6) x px.kn).1
        have jl := (List.getElem?_eq_some_iff.mp ex).1
        have et : (ks.take (j + 1)).filter (fun x => !isW x) = (ks.take j).filter (fun x => !isW x) ++ if isW x = true then [] else [x] := by
          rw [List.take_add_one, ex, List.filter_append]
          congr 1
          show List.filter _ [x] = _
          rw [List.filter_cons, List.filter_nil]
          cases isW x <;> rfl
        have ll : ((ks.take j).filter fun x => !isW x).length ≤ 1000 := by
          refine Nat.le_trans (List.length_filter_le _ _) ?_
          rw [List.length_take]
          omega
        refine ⟨rfl, x, rfl, x, rfl, kx, _, rfl, ?_⟩
        cases hw : isW x with
        | true =>
          rw [hw, if_pos rfl, List.append_nil] at et
          exact ⟨by rw [et]; exact hZ, s6⟩
        | false =>
          rw [hw, if_neg (by simp)] at et
          exact ⟨x, rfl, _, hZ, Nat.lt_of_le_of_lt ll (small1000 (Nat.le_refl _)), by rw [upd_same, et], Same.mut s6 nZ⟩
      rintro H6 ⟨hZ, s6⟩
      rw [List.take_length] at hZ
      refine ⟨Nat.zero_le _, fun e ne => ⟨Z, e, _, rfl, rfl, SqL.of (same_new ne _ _ hZ), SqL.of upd_same, _, rfl, ?_⟩⟩
      have s7 := s6.trans (same_new (o := .lst []) ne)
      generalize upd H6 e (.lst []) = H7 at s7
      have s07 := s5.trans s7
      cases hf : ks.filter fun x => !isW x with
      | cons w0 ws0 =>
        refine bad s07 ec e2 ?_
        cases hw : isW z0 with
        | false => exact trowZ_no hpx hw
        | true =>
          obtain ⟨z, rfl⟩ := isW_int hw
          rw [trowZ_int hpx hpk]
          refine if_neg fun h => ?_
          have : w0 ∈ ks.filter fun x => !isW x := by rw [hf]; simp
          have := List.mem_filter.mp this
          rw [h.1] at this
          obtain ⟨y0, _, rfl⟩ := List.mem_map.mp this.1
          simp [isW] at this
      | nil =>
      obtain ⟨ns, rfl⟩ := ints_isW hf
      have hb7 := hb.same s7
      have hkb7 := hkb.same s7
      have hca7 := s7 _ _ hca5
      refine ⟨.ref b, rfl, b, _, 0, .ref kb, rfl, rfl, hb7.sq, rfl, .ref ca, rfl, intsD ns, intsD c, IntsA.dp ⟨kb, rfl, hkb7⟩, IntsV.dp ⟨ca, rfl, hca7⟩, shaped_intsD _, shaped_intsD _, _, rfl, ?_⟩
      rw [eqv_intsF]
      by_cases hnc : ns = c
      case neg =>
        rw [decide_eq_false hnc]
        refine bad s07 ec e2 ?_
        cases hw : isW z0 with
        | false => exact trowZ_no hpx hw
        | true =>
          obtain ⟨z, rfl⟩ := isW_int hw
          rw [trowZ_int hpx hpk]
          exact if_neg fun h => hnc (mapint_inj h.1)
      subst hnc
      rw [decide_eq_true rfl]
      have kz : Kn H7 z0 := (StayP.same s07 z0 pz.kn).1
      refine ⟨.ref b, rfl, b, _, 1, z0, rfl, rfl, hb7.sq, rfl, z0, rfl, kz, _, rfl, ?_⟩
      cases hw : isW z0 with
      | false => exact bad s07 ec e2 (trowZ_no hpx hw)
      | true =>
        obtain ⟨z, rfl⟩ := isW_int hw
        refine ⟨.ref b, rfl, b, _, 1, .int z, rfl, rfl, hb7.sq, rfl, _, _, rfl, rfl, _, rfl, ?_⟩
        by_cases hz : z < 0
        · rw [decide_eq_true hz]
          refine bad s07 ec e2 ?_
          rw [trowZ_int hpx hpk]
          exact if_neg fun h => absurd h.2 (by omega)
        rw [decide_eq_false hz]
        have etz : trowZ H ns (.ref b) = some z := by rw [trowZ_int hpx hpk]; exact if_pos ⟨rfl, by omega⟩
        have hD7 := s7 _ _ hD5
        have li := (List.getElem?_eq_some_iff.mp ec).1
        have lzs := (tabS_len htb).2
        rw [List.length_take] at lzs
        have nw : ns ∉ (([], 0) :: ((evs odd).take i).zip zs).map (·.1) := by
          rw [List.map_cons, zip_fst (by rw [List.length_take]; omega), List.mem_cons, not_or]
          refine ⟨(mem_evs.mp (List.mem_of_getElem? ec)).2.1, fun hx => ?_⟩
          obtain ⟨j, ej⟩ := List.getElem?_of_mem hx
          have lj := (List.getElem?_eq_some_iff.mp ej).1
          rw [List.length_take] at lj
          rw [List.getElem?_take_of_lt (by omega)] at ej
          have := (List.getElem?_inj (List.getElem?_eq_some_iff.mp ej).1 ndE).mp (ej.trans ec.symm)
          omega
        refine ⟨.ref b, rfl, b, _, 1, .int z, rfl, rfl, hb7.sq, rfl, .ref D, rfl, .ref ca, rfl, D, _, rfl, DPut.t (k := ns.map Sum.inl) hD7 (by rw [inl_kV]; exact hca7) (by rw [kvC_len, List.length_cons, List.length_zip, List.length_take]; exact small1000 (by omega)), ?_⟩
        refine ⟨_, _, _, _, _, zs ++ [z], rfl, ?_, ?_, Same.mut s07 nDH, (k5.trans (Same.tk s7)).trans (tk_dT hD7), ?_⟩
        · rw [upd_same, kvC_put nw, List.take_add_one, ec, List.zip_append (by rw [List.length_take]; omega)]
          rfl
        · rw [List.take_add_one, ec, List.take_add_one, e2]
          exact tabS_snoc htb etz
        · rw [upd_ne (ne_of_none hL nD)]
          exact s7 _ _ hL5
    · rintro σ' H4 ⟨y5, y6, y7, y8, y9, zs, rfl, hD4, htb, s4, k4, hL4⟩
      rw [lys, List.take_length] at htb hD4
      rw [← hlr, List.take_length] at htb
      rw [htb] at q
      have q : ∀ H', Same H H' → Q (.bl ((evs odd).all (rowH (layI H odd ls) (numF odd zs)))) H' := q
      have lzs := (tabS_len htb).2
      have fz : ((evs odd).zip zs).map (·.1) = evs odd := zip_fst lzs
      have hE : ([] : List Int) ∉ ((evs odd).zip zs).map (·.1) := by
        rw [fz]
        exact fun h => (mem_evs.mp h).2.1 rfl
      have lk : ∀ c, c = [] ∨ c ∈ evs odd → valV (kvC (([], 0) :: (evs odd).zip zs)) (c.map Sum.inl) = some (.int (numF odd zs c)) := fun c hc => by
        have hm : c ∈ ((([] : List Int), (0 : Int)) :: (evs odd).zip zs).map (fun e => e.1) := by
          rcases hc with z | z
          · rw [z]; simp
          · rw [List.map_cons, fz]
            exact List.mem_cons_of_mem _ z
        have := lk_get hm
        rw [lk_swap hE] at this
        exact this
      have hys4 : Paired (IntsV H4) ys (evs odd) := Paired.mono (fun _ _ x => x.tk k4) hys3
      have no : ∀ {H' : Hp} {i : Nat} {c : List Int} {g : Int}, Same H H' → (evs odd)[i]? = some c → g ∈ c.tail → ¬ numF odd zs c ≤ layI H odd ls (c.headD 0) g + numF odd zs (less2 c g) → Q (.bl false) H' := fun {H' i c g} s ec hg h => by
        have := q H' s
        have e0 : (evs odd).all (rowH (layI H odd ls) (numF odd zs)) = false := by
          refine all_not ec ?_
          refine Bool.eq_false_iff.mpr fun w => h ?_
          exact of_decide_eq_true (List.all_eq_true.mp w g hg)
        rw [e0] at this
        exact this
      refine ⟨.ref L, rfl, L, rfl, ⟨_, SqL.of hL4⟩, ?_⟩
      refine for_list (xs := ys) (fun i σ' H' => ∃ y5 y6 y7 y8 y9 : Option V, σ' = [some (.ref oa), some l, some (.ref ta), some (.ref L), some (.ref D), y5, y6, y7, y8, y9] ∧ Same H4 H' ∧ ∀ c ∈ (evs odd).take i, rowH (layI H odd ls) (numF odd zs) c = true) ⟨_, _, _, _, _, rfl, fun _ _ h => h, fun c hc => by simp at hc⟩ (fun i σ' H' _ h => by
        obtain ⟨_, _, _, _, _, _, s, _⟩ := h
        exact SqL.of (s _ _ hL4)) ?_ ?_
      · rintro i x σ' H5 ex ⟨y5, y6, y7, y8, y9, rfl, s5, al⟩
        obtain ⟨c, ec, ca, rfl, hca⟩ := Paired.at hys4 ex
        have cm := List.mem_of_getElem? ec
        obtain ⟨f0, c', rfl, hf0, hc', c2, cl⟩ := odd_head cm
        have hca5 := s5 _ _ hca
        have s05 := s4.trans s5
        obtain ⟨j, ej⟩ := List.getElem?_of_mem hf0
        have lj := (List.getElem?_eq_some_iff.mp ej).1
        have first : ∀ m, m < j → odd[m]? ≠ some f0 := fun m hm e => by
          have := (List.getElem?_inj (List.getElem?_eq_some_iff.mp e).1 nd).mp (e.trans ej.symm)
          omega
        have eyl : ls[j]? = some (ls[j]'(by omega)) := List.getElem?_eq_getElem _
        generalize hyl : ls[j]'(by omega) = ly at eyl
        have hlay : layB H gaps m f0 ly = true := List.all_eq_true.mp hal (f0, ly) (List.mem_of_getElem? (zip_at ej eyl))
        obtain ⟨la, rfl, hla⟩ := parts_at hl
        have hla5 := hla.same s05
        have ely : ∀ g, layI H odd ls f0 g = valZ ((parts H ly).getD []) g := fun g => by
          unfold layI
          rw [lyAt_at nd ej eyl]
        unfold layB at hlay
        cases epl : parts H ly with
        | none => rw [epl] at hlay; cases hlay
        | some xs =>
        rw [epl] at hlay ely
        rw [Bool.and_eq_true, Bool.and_eq_true, decide_eq_true_iff] at hlay
        obtain ⟨lb, rfl, hlb⟩ := parts_at epl
        refine ⟨.ref la, rfl, .ref oa, rfl, ⟨oa, _, rfl, ho.same s05⟩, .ref ca, rfl, ca, _, 0, .int f0, rfl, rfl, SqT.of hca5, atI_of (by decide) rfl, oa, odd, f0, j, rfl, rfl, sqo _ s05, ej, first, la, ls, (j : Nat), .ref lb, rfl, rfl, hla5.sq, atI_nat eyl, ?_⟩
        refine ⟨.ref ca, rfl, 1, rfl, ca, _, rfl, hca5, fun r1 H6 s6 h1 => ?_⟩
        rw [cut_tail] at h1
        have h1 : H6 r1 = some (.tup (c'.map V.int)) := h1
        refine ⟨r1, rfl, ⟨_, SqT.of h1⟩, ?_⟩
        refine for_tup (xs := c'.map V.int) (fun u σ' H' => ∃ y6 y7 y9 : Option V, σ' = [some (.ref oa), some (.ref la), some (.ref ta), some (.ref L), some (.ref D), some (.ref ca), y6, y7, some (.ref lb), y9] ∧ Same H6 H' ∧ ∀ g ∈ c'.take u, numF odd zs (f0 :: c') ≤ layI H odd ls f0 g + numF odd zs (less2 (f0 :: c') g)) ⟨_, _, _, rfl, fun _ _ h => h, fun g hg => by simp at hg⟩ (fun u σ' H' _ h => by
          obtain ⟨_, _, _, _, s, _⟩ := h
          exact SqT.of (s _ _ h1)) ?_ ?_
        · rintro u x σ' H7 ex7 ⟨y6, y7, y9, rfl, s7, al7⟩
          rw [List.getElem?_map] at ex7
          obtain ⟨g, eg, rfl⟩ := Option.map_eq_some_iff.mp ex7
          have gm := List.mem_of_getElem? eg
          have s47 := s5.trans (s6.trans s7)
          have s07 := s4.trans s47
          have bg := bo g (hc' g gm)
          have hD7 := s47 _ _ hD4
          have hca7 := s47 _ _ hca
          refine ⟨.ref D, rfl, .ref ca, rfl, D, .int (numF odd zs (f0 :: c')), rfl, ?_, ?_⟩
          · rw [← lk _ (.inr cm)]
            exact DGet.t hD7 (by rw [inl_kV]; exact hca7)
          refine ⟨.ref lb, rfl, .int g, rfl, lb, xs, g, .int (layI H odd ls f0 g), rfl, rfl, (hlb.same s07).sq, by rw [ely]; exact valZ_at hlay.2.1 bg.1 (by omega), .ref D, rfl, .ref ca, rfl, 1, rfl, ca, _, rfl, hca7, fun r2 H8 s8 h2 => ?_⟩
          rw [cut_tail] at h2
          have h2 : H8 r2 = some (.tup (c'.map V.int)) := h2
          refine ⟨r2, rfl, ⟨_, SqT.of h2⟩, fun Z nZ => ?_⟩
          refine lc_tup (xs := c'.map V.int) (fun v H' => H' Z = some (.lst (((c'.take v).filter fun x => decide (x ≠ g)).map V.int)) ∧ Same H8 H') ⟨upd_same, same_new nZ⟩ (fun v H' _ h => SqT.of (h.2 _ _ h2)) ?_ ?_
          · rintro v x H9 ex9 ⟨hZ, s9⟩
            rw [List.getElem?_map] at ex9
            obtain ⟨z, ez, rfl⟩ := Option.map_eq_some_iff.mp ex9
            have vl := (List.getElem?_eq_some_iff.mp ez).1
            have lc' : c'.length ≤ 8 := by
              rw [List.length_cons] at cl
              omega
            have ln : (((c'.take v).filter fun x => decide (x ≠ g)).map V.int).length ≤ 8 := by
              rw [List.length_map]
              refine Nat.le_trans (List.length_filter_le _ _) ?_
              rw [List.length_take]
              omega
            refine ⟨rfl, .int z, rfl, .int g, rfl, rfl, _, rfl, ?_⟩
            rw [List.take_add_one, ez, List.filter_append]
            by_cases hz : z = g
            · rw [decide_eq_true (show V.int z = V.int g by rw [hz])]
              refine ⟨?_, s9⟩
              rw [hZ]
              simp [hz]
            · rw [decide_eq_false (fun h : V.int z = V.int g => hz (V.int.inj h))]
              refine ⟨.int z, rfl, _, hZ, small1000 (by omega), ?_, Same.mut s9 nZ⟩
              rw [upd_same]
              simp [hz]
          · rintro H9 ⟨hZ, s9⟩
            rw [List.length_map, List.take_length] at hZ
            refine ⟨Z, _, rfl, .inl ⟨SqL.of hZ, fun p np => ?_⟩⟩
            have sp := same_new (o := .tup ((c'.filter fun x => decide (x ≠ g)).map V.int)) np
            have hp := upd_same (H := H9) (a := p) (o := .tup ((c'.filter fun x => decide (x ≠ g)).map V.int))
            have s710 := (s8.trans s9).trans sp
            generalize upd H9 p (.tup ((c'.filter fun x => decide (x ≠ g)).map V.int)) = H10 at sp hp s710
            refine ⟨D, .int (numF odd zs (less2 (f0 :: c') g)), rfl, ?_, ?_⟩
            · have l2 := less2_evs (c := f0 :: c') nd cm (g := g) gm
              rw [← lk _ l2]
              exact DGet.t (s710 _ _ hD7) (by rw [inl_kV]; exact hp)
            refine ⟨_, _, rfl, rfl, _, _, rfl, rfl, _, rfl, ?_⟩
            by_cases hle : numF odd zs (f0 :: c') ≤ layI H odd ls f0 g + numF odd zs (less2 (f0 :: c') g)
            · rw [decide_eq_false (show ¬ layI H odd ls f0 g + numF odd zs (less2 (f0 :: c') g) < numF odd zs (f0 :: c') by omega)]
              refine ⟨_, _, _, rfl, s7.trans s710, fun g' hg' => ?_⟩
              rw [List.take_add_one, eg] at hg'
              rcases List.mem_append.mp hg' with z | z
              · exact al7 g' z
              · rw [List.mem_singleton.mp z]
                exact hle
            · rw [decide_eq_true (show layI H odd ls f0 g + numF odd zs (less2 (f0 :: c') g) < numF odd zs (f0 :: c') by omega)]
              exact no (s07.trans s710) ec gm hle
        · rintro σ' H7 ⟨y6, y7, y9, rfl, s7, al7⟩
          rw [List.length_map, List.take_length] at al7
          refine ⟨_, _, _, _, _, rfl, s5.trans (s6.trans s7), fun c hc => ?_⟩
          rw [List.take_add_one, ec] at hc
          rcases List.mem_append.mp hc with z | z
          · exact al c z
          · rw [List.mem_singleton.mp z]
            exact List.all_eq_true.mpr fun g hg => decide_eq_true (al7 g hg)
      · rintro σ' H5 ⟨y5, y6, y7, y8, y9, rfl, s5, al⟩
        rw [lys, List.take_length] at al
        have e1 : (evs odd).all (rowH (layI H odd ls) (numF odd zs)) = true := List.all_eq_true.mpr al
        have := q H5 (s4.trans s5)
        rw [e1] at this
        exact this
end
/-! ### a flat paper, by the law -/
def spIsPaper : Sp := fun vs H Q _ => ∃ (wv : V) (o : Addr) (wts : V) (number : Int) (v : V) (n : Nat) (ts : List Tie) (rs : List (List Int)) (es : List (Int × Int)) (ws : List Int), vs = [wv, .ref o, wts, .int number, v] ∧ FlW H wv o n ts rs es ∧ WtV H wts ws ∧ ws.length = ts.length ∧ PapA H v ∧ KeyOk H (oddF ts (fcs es rs)) v ∧
  ∀ H', Same H H' → FcOk ts (fcs es rs) → Q (.bl (flatB H ts (fcs es rs) ws number v)) H'
theorem mergeT_kvC : ∀ (b a : List (List Int × Int)), ((a ++ b).map (·.1)).Nodup → mergeT (kvC a) (kvC b) = kvC (a ++ b)
  | [], a, _ => by rw [List.append_nil]; rfl
  | x :: b, a, nd => by
    have nw : x.1 ∉ a.map (·.1) := by
      rw [List.map_append, List.nodup_append] at nd
      exact fun h => nd.2.2 _ h _ (by simp) rfl
    have e : a ++ x :: b = a ++ [x] ++ b := by simp
    show mergeT (putK (kvC a) (x.1.map Sum.inl) (.int x.2)) (kvC b) = _
    rw [kvC_put nw, e]
    exact mergeT_kvC b (a ++ [x]) (by rw [← e]; exact nd)
theorem flatB_two {H : Hp} {ts : List Tie} {fs : List (List Dt)} {ws : List Int} {number : Int} {v l t : V} (e : parts H v = some [l, t]) (h8 : (oddF ts fs).length ≤ 8) : flatB H ts fs ws number v = (layersB H (oddF ts fs) fs.length (gapsF ts fs ws) l && match tabB H (evs (oddF ts fs)) t with
    | some zs => (evs (oddF ts fs)).all (rowH (layI H (oddF ts fs) ((parts H l).getD [])) (numF (oddF ts fs) zs)) && decide (number ≤ numF (oddF ts fs) zs (oddF ts fs))
    | none => false) := by
  unfold flatB
  rw [if_pos h8]
  generalize oddF ts fs = odd
  have es : shownF H odd fs.length (gapsF ts fs ws) v = match parts H l with
    | some ls => if ls.length = odd.length then match tabB H (evs odd) t with
        | some zs => if (odd.zip ls).all (fun p => layB H (gapsF ts fs ws) fs.length p.1 p.2) && (evs odd).all (rowH (layI H odd ls) (numF odd zs)) then some (numF odd zs odd) else none
        | none => none
      else none
    | none => none := by
    unfold shownF
    rw [e]
    try rfl
  rw [es]
  unfold layersB
  cases el : parts H l with
  | none => rfl
  | some ls =>
    show (match (if ls.length = odd.length then _ else none) with | some s => decide (number ≤ s) | none => false) = _
    by_cases hl : ls.length = odd.length
    case neg =>
      rw [if_neg hl]
      show false = ((decide (ls.length = odd.length) && _) && _)
      rw [decide_eq_false hl]
      rfl
    rw [if_pos hl]
    show _ = ((decide (ls.length = odd.length) && _) && _)
    rw [decide_eq_true hl, Bool.true_and]
    cases tabB H (evs odd) t with
    | none => exact (Bool.and_false _).symm
    | some zs =>
      show (match (if ((odd.zip ls).all (fun p => layB H (gapsF ts fs ws) fs.length p.1 p.2) && (evs odd).all (rowH (layI H odd ls) (numF odd zs))) = true then some (numF odd zs odd) else none) with | some s => decide (number ≤ s) | none => false) = ((odd.zip ls).all (fun p => layB H (gapsF ts fs ws) fs.length p.1 p.2) && ((evs odd).all (rowH (layI H odd ls) (numF odd zs)) && decide (number ≤ numF odd zs odd)))
      cases (odd.zip ls).all (fun p => layB H (gapsF ts fs ws) fs.length p.1 p.2) <;> cases (evs odd).all (rowH (layI H odd ls) (numF odd zs)) <;> rfl
section
variable {P : Program} {w : World} {K : PySem.W.Frag} {mg : Str → Option Value} {base : Heap}
set_option maxHeartbeats 4000000 in
theorem ok_l_is_paper {f : Addr} {fd : FuncData} (F : Fun K "_law_is_paper" "_law_is_paper" s_l_is_paper f fd) (M : Free mg) (m_dict : mg "dict" = none) (D_l_odd : Df P w K mg base 3 "_law_odd" ["_law_web_here", "_law_orders"] spOddL) (D_l_table_is : Df P w K mg base 2 "_law_table_is" ["_law_odd_here", "_law_layers", "_law_thing"] (spTableIs K)) (D_l_layers_are : Df P w K mg base 4 "_law_layers_are" ["_law_web_here", "_law_orders", "_law_weights_here", "_law_odd_here", "_law_thing"] (spLayersAre K)) : FnOk P w K mg base CX0 5 f fd ["_law_web_here", "_law_orders", "_law_weights_here", "_law_number", "_law_thing"] spIsPaper := by
  obtain ⟨f_l_odd, fd_l_odd, G_l_odd, g_l_odd, k_l_odd, b_l_odd⟩ := D_l_odd
  obtain ⟨f_l_table_is, fd_l_table_is, G_l_table_is, g_l_table_is, k_l_table_is, b_l_table_is⟩ := D_l_table_is
  obtain ⟨f_l_layers_are, fd_l_layers_are, G_l_layers_are, g_l_layers_are, k_l_layers_are, b_l_layers_are⟩ := D_l_layers_are
  refine F.ok sc_l_is_paper (fun vs H Q E h => ?_) (fun cdv A outer s H vs Q E hr h => ?_)
  · obtain ⟨wv, o, wts, number, v, n, ts, rs, es, ws, rfl, _⟩ := h
    rfl
  · obtain ⟨wv, o, wts, number, v, n, ts, rs, es, ws, rfl, W, hw, lw, pa, ky, q⟩ := h
    have hu := room1 hr
    refine ⟨_, (pss_cons (ps_set (i := 5) sc_l_is_paper.nd rfl (.inl rfl) (pe_call G_l_odd (hr.mono (by decide)) (by rfl) g_l_odd k_l_odd b_l_odd .nil pass0 (pa_cons (pv 0) (pa_cons (pv 1) pa_nil))))
      (pss_cons (ps_if (PW.pt (pw_or (pt_cmpR op_gt (pe_callB call_len_seq (by rfl) M.len PySem.boot_len (pa_cons (pv 5) pa_nil)) pe_int (nomark _)) (pw_or (pt_not (pt_val (pe_callB call_isi (by rfl) M.isinstance (by decide +kernel) (pa_cons (pv 4) (pa_cons (pe_bltn (v := .ty "tuple") (by rfl) M.tuple (by decide +kernel) rfl) pa_nil))))) (pw_or1 (pt_cmpR op_ne (pe_callB call_len_seq (by rfl) M.len PySem.boot_len (pa_cons (pv 4) pa_nil)) pe_int (nomark _))))))
        (pss_one (ps_ret pe_bl))
        pss_nil)
      (pss_cons (ps_if (PW.pt (pw_or (pt_not (pt_val (pe_call G_l_layers_are (hr.mono (by decide)) (by rfl) g_l_layers_are k_l_layers_are b_l_layers_are .nil pass0 (pa_cons (pv 0) (pa_cons (pv 1) (pa_cons (pv 2) (pa_cons (pv 5) (pa_cons (pe_ix ix_tup (pv 4) pe_int (fun _ _ => rfl)) pa_nil)))))))) (pw_or1 (pt_not (pt_val (pe_call G_l_table_is (hr.mono (by decide)) (by rfl) g_l_table_is k_l_table_is b_l_table_is .nil pass0 (pa_cons (pv 5) (pa_cons (pe_ix ix_tup (pv 4) pe_int (fun _ _ => rfl)) (pa_cons (pe_ix ix_tup (pv 4) pe_int (fun _ _ => rfl)) pa_nil)))))))))
        (pss_one (ps_ret pe_bl))
        pss_nil)
      (pss_cons (ps_set (i := 6) sc_l_is_paper.nd rfl (.inl rfl) (pe_callTy (call_dictT rfl (Nat.lt_of_le_of_lt (Nat.add_le_add_left (by decide : 2 ≤ 65) _) (room65 hr))) (by rfl) m_dict (by decide +kernel) (pa_cons (pe_ix ix_tup (pv 4) pe_int (fun _ _ => rfl)) pa_nil)))
      (pss_one (ps_ret (pe_cmpR op_le (pv 3) (pe_dgetZ hu (pv 6) (pv 5) pe_int ⟨rfl, rfl, rfl, rfl⟩) (nomark _)))))))), ?_⟩
    refine ⟨wv, rfl, .ref o, rfl, wv, o, n, ts, rs, es, rfl, W, fun od ob H1 s1 odn nod hod F => ?_⟩
    have q := fun H' s => q H' s F
    have kod : NoD H1 od ((oddF ts (fcs es rs)).map V.int) := ⟨ob, odn, hod⟩
    have W1 := W.tk (Same.tk s1)
    generalize hfs : fcs es rs = fs at F q ky kod
    refine ⟨.ref od, rfl, od, _, rfl, .inr kod.sq, _, _, rfl, rfl, _, rfl, ?_⟩
    rw [List.length_map]
    by_cases h8 : (oddF ts fs).length ≤ 8
    case neg =>
      rw [decide_eq_true (show (8 : Int) < ((oddF ts fs).length : Nat) by omega)]
      have := q H1 s1
      unfold flatB at this
      rw [if_neg h8] at this
      exact this
    rw [decide_eq_false (show ¬ (8 : Int) < ((oddF ts fs).length : Nat) by omega)]
    have kn1 : Kn H1 v := (StayP.same s1 v pa.kn).1
    have ep : parts H1 v = parts H v := (StayP.same s1 v pa.kn).2
    obtain ⟨t1, i1, j1⟩ := kn_tup (K := K) (H := H1) (v := v) kn1
    refine ⟨v, rfl, v, _, t1, _, _, rfl, .ty "tuple", i1, j1, _, rfl, ?_⟩
    have non : ∀ xs, parts H v = some xs → xs.length ≠ 2 → flatB H ts fs ws number v = false := fun xs e h => by
      unfold flatB
      rw [if_pos h8]
      unfold shownF
      rw [e]
      match xs, h with
      | [], _ => rfl
      | [_], _ => rfl
      | _ :: _ :: _ :: _, _ => rfl
      | [x, y], h => exact absurd rfl h
    cases hi1 : isT H1 v with
    | false =>
      have := q H1 s1
      unfold flatB at this
      rw [if_pos h8] at this
      unfold shownF at this
      rw [← ep, parts_none hi1] at this
      exact this
    | true =>
    obtain ⟨a, xs, rfl, ha⟩ := isT_at hi1
    have hpx : parts H (.ref a) = some xs := by rw [← ep]; exact parts_of' ha
    refine ⟨.ref a, rfl, a, _, rfl, .inr ha.sq, rfl, _, rfl, ?_⟩
    by_cases hx : xs.length = 2
    case neg =>
      rw [show decide (V.int (xs.length : Nat) = V.int 2) = false from decide_eq_false fun z => hx (by have := V.int.inj z; omega)]
      have := q H1 s1
      rw [non xs hpx hx] at this
      exact this
    rw [show decide (V.int (xs.length : Nat) = V.int 2) = true from decide_eq_true (by rw [hx]; rfl)]
    obtain ⟨l, tb, rfl⟩ : ∃ l tb, xs = [l, tb] := by
      match xs, hx with
      | [l, tb], _ => exact ⟨l, tb, rfl⟩
    have pl := (pa.at' hpx).1 l (by simp)
    have pt := (pa.at' hpx).1 tb (by simp)
    rw [flatB_two hpx h8] at q
    have hw1 := hw.tk (Same.tk s1)
    have pl1 := pl.stay (StayP.same s1)
    have pt1 := pt.stay (StayP.same s1)
    refine ⟨wv, rfl, .ref o, rfl, wts, rfl, .ref od, rfl, .ref a, rfl, a, _, 0, l, rfl, rfl, ha.sq, rfl, wv, o, wts, od, l, n, ts, rs, es, ws, rfl, W1, hw1, lw, fun H' s => by rw [hfs]; exact (kod.same s).sq, pl1, fun H2 s2 _ => ⟨_, rfl, ?_⟩⟩
    rw [hfs]
    have e1 : layersB H1 (oddF ts fs) fs.length (gapsF ts fs ws) l = layersB H (oddF ts fs) fs.length (gapsF ts fs ws) l := by
      unfold layersB
      rw [(StayP.same s1 l pl.kn).2]
      cases el : parts H l with
      | none => rfl
      | some ls =>
        have pls := (pl.at' el).1
        show (_ && _) = (_ && _)
        congr 1
        have each : ∀ x ∈ (oddF ts fs).zip ls, layB H1 (gapsF ts fs ws) fs.length x.1 x.2 = layB H (gapsF ts fs ws) fs.length x.1 x.2 := fun x hx => layB_kn (StayP.same s1 x.2 (pls x.2 (List.of_mem_zip (a := x.1) (b := x.2) hx).2).kn).2 _ _ _
        rw [Bool.eq_iff_iff, List.all_eq_true, List.all_eq_true]
        exact ⟨fun h x hx => by rw [← each x hx]; exact h x hx, fun h x hx => by rw [each x hx]; exact h x hx⟩
    rw [e1]
    have s12 := s1.trans s2
    cases hL : layersB H (oddF ts fs) fs.length (gapsF ts fs ws) l with
    | false =>
      have := q H2 s12
      rw [hL] at this
      exact this
    | true =>
    rw [hL, ] at q
    obtain ⟨ls, hls, hll, hal⟩ : ∃ ls, parts H l = some ls ∧ ls.length = (oddF ts fs).length ∧ ((oddF ts fs).zip ls).all (fun p => layB H (gapsF ts fs ws) fs.length p.1 p.2) = true := by
      unfold layersB at hL
      cases el : parts H l with
      | none => rw [el] at hL; cases hL
      | some ls =>
        rw [el] at hL
        rw [Bool.and_eq_true, decide_eq_true_iff] at hL
        exact ⟨ls, rfl, hL.1, hL.2⟩
    rw [hls] at q
    have pls := (pl.at' hls).1
    have hls2 : parts H2 l = some ls := (StayP.same s12 l pl.kn).2.trans hls
    have e2 : ((oddF ts fs).zip ls).all (fun p => layB H2 (gapsF ts fs ws) fs.length p.1 p.2) = true := by
      rw [List.all_eq_true] at hal ⊢
      intro x hx
      rw [layB_kn (StayP.same s12 x.2 (pls x.2 (List.of_mem_zip (a := x.1) (b := x.2) hx).2).kn).2]
      exact hal x hx
    have ha2 := ha.same s2
    have kod2 := kod.same s2
    refine ⟨.ref od, rfl, .ref a, rfl, a, _, 0, l, rfl, rfl, ha2.sq, rfl, .ref a, rfl, a, _, 1, tb, rfl, rfl, ha2.sq, rfl, od, oddF ts fs, l, tb, fs.length, gapsF ts fs ws, ls, rfl, kod2, h8, oddF_rising ts fs _, oddF_rg, hls2, hll, e2, pl.stay (StayP.same s12), pt.stay (StayP.same s12), fun H3 s3 => ⟨_, rfl, ?_⟩⟩
    have s03 := s12.trans s3
    have et : tabB H2 (evs (oddF ts fs)) tb = tabB H (evs (oddF ts fs)) tb := tabB_stay pt (StayP.same s12) _
    have er : ∀ zs, (evs (oddF ts fs)).all (rowH (layI H2 (oddF ts fs) ls) (numF (oddF ts fs) zs)) = (evs (oddF ts fs)).all (rowH (layI H (oddF ts fs) ls) (numF (oddF ts fs) zs)) := fun zs => by
      rw [show layI H2 (oddF ts fs) ls = layI H (oddF ts fs) ls from funext fun f => funext fun g => layI_stay (fun x hx => (StayP.same s12 x (pls x hx).kn).2) f g]
    rw [et]
    cases htb : tabB H (evs (oddF ts fs)) tb with
    | none =>
      have := q H3 s03
      rw [htb] at this
      exact this
    | some zs =>
    rw [htb] at q
    have q : ∀ H', Same H H' → Q (.bl ((evs (oddF ts fs)).all (rowH (layI H (oddF ts fs) ls) (numF (oddF ts fs) zs)) && decide (number ≤ numF (oddF ts fs) zs (oddF ts fs)))) H' := q
    show (fun c H1 => _) (match some zs with | some zs => (evs (oddF ts fs)).all (rowH (layI H2 (oddF ts fs) ls) (numF (oddF ts fs) zs)) | none => false) H3
    have er' : (match some zs with | some zs => (evs (oddF ts fs)).all (rowH (layI H2 (oddF ts fs) ls) (numF (oddF ts fs) zs)) | none => false) = (evs (oddF ts fs)).all (rowH (layI H (oddF ts fs) ls) (numF (oddF ts fs) zs)) := er zs
    rw [er']
    cases hR : (evs (oddF ts fs)).all (rowH (layI H (oddF ts fs) ls) (numF (oddF ts fs) zs)) with
    | false =>
      have := q H3 s03
      rw [hR] at this
      exact this
    | true =>
    rw [hR] at q
    have ha3 := ha2.same s3
    have kod3 := kod2.same s3
    obtain ⟨rows, hrows⟩ : ∃ rows, parts H tb = some rows := by
      unfold tabB at htb
      cases e : parts H tb with
      | none => rw [e] at htb; cases htb
      | some rows => exact ⟨rows, rfl⟩
    have hts : tabS H (evs (oddF ts fs)) rows = some zs := by
      unfold tabB at htb
      rw [hrows] at htb
      exact htb
    obtain ⟨⟨ta, rfl, hta⟩, keys⟩ := ky _ _ _ _ hpx hrows hts
    have prs := (pt.at' hrows).1
    have nd : (oddF ts fs).Nodup := (oddF_rising ts fs _).imp fun h => by omega
    have ndE := evs_nodup nd
    have lz := (tabS_len hts).2
    have fz : ((evs (oddF ts fs)).zip zs).map (·.1) = evs (oddF ts fs) := zip_fst lz
    have hrp := tabS_paired hts
    obtain ⟨ps, hps, hpp⟩ : ∃ ps : List Addr, rows = ps.map V.ref ∧ Paired (PrT K H3) ps (kvC ((evs (oddF ts fs)).zip zs)) := by
      clear hta q hR er' er
      revert hrp keys prs
      generalize (evs (oddF ts fs)).zip zs = es'
      clear hrows hts
      intro keys prs hrp
      induction hrp with
      | nil => exact ⟨[], rfl, .nil⟩
      | @cons r x rows xs hrx _ ih =>
        obtain ⟨ps, rfl, hpp⟩ := ih (fun r hr => keys r (List.mem_cons_of_mem _ hr)) fun r hr => prs r (List.mem_cons_of_mem _ hr)
        obtain ⟨k, h1, h2, h3⟩ := hrx
        obtain ⟨ra, rfl, hra⟩ := parts_at h1
        obtain ⟨b, ys, rfl, hb⟩ := keys _ List.mem_cons_self _ _ h1
        have h4 := parts_of' (H := H) (.inl hb)
        rw [h2] at h4
        obtain rfl := Option.some.inj h4
        exact ⟨ra :: ps, rfl, .cons ⟨b, (hra.same s03).sq, by rw [inl_kV]; exact s03 _ _ hb⟩ hpp⟩
    subst hps
    refine ⟨.ref a, rfl, a, _, 1, .ref ta, rfl, rfl, ha3.sq, rfl, ta, ps, _, rfl, hta.same s03, hpp, fun D nD => ?_⟩
    have hD := upd_same (H := H3) (a := D) (o := .dT (mergeT [] (kvC ((evs (oddF ts fs)).zip zs))))
    have sD := same_new (o := .dT (mergeT [] (kvC ((evs (oddF ts fs)).zip zs)))) nD
    rw [show mergeT [] (kvC ((evs (oddF ts fs)).zip zs)) = kvC ((evs (oddF ts fs)).zip zs) from mergeT_kvC _ [] (by rw [List.nil_append, fz]; exact ndE)] at hD sD ⊢
    generalize upd H3 D (.dT (kvC ((evs (oddF ts fs)).zip zs))) = H4 at hD sD
    obtain ⟨ob4, _, hod4⟩ := kod3.same sD
    refine ⟨.int number, rfl, .ref D, rfl, D, rfl, .inr ⟨_, .inl hD⟩, .ref od, rfl, _, (oddF ts fs).map Sum.inl, od, ob4, rfl, hD, by rw [inl_kV]; exact hod4, ?_⟩
    have ev : (valV (kvC ((evs (oddF ts fs)).zip zs)) ((oddF ts fs).map Sum.inl)).getD (.int 0) = .int (numF (oddF ts fs) zs (oddF ts fs)) := by
      by_cases hz : oddF ts fs = []
      · have hE : ([] : List Int) ∉ ((evs (oddF ts fs)).zip zs).map (·.1) := by
          rw [fz]
          exact fun h => (mem_evs.mp h).2.1 rfl
        have n0 : (((evs (oddF ts fs)).zip zs).find? fun e => decide (e.1 = [])) = none := List.find?_eq_none.mpr fun e he z => hE (List.mem_map.mpr ⟨e, he, of_decide_eq_true z⟩)
        unfold numF lkC
        rw [kvC_get]
        generalize (evs (oddF ts fs)).zip zs = es' at n0
        rw [hz, List.find?_append, n0]
        rfl
      · have hm : oddF ts fs ∈ ((evs (oddF ts fs)).zip zs).map (·.1) := by
          rw [fz]
          exact evs_self hz F.ev
        rw [lk_get hm]
        unfold numF lkC
        obtain ⟨e, he, e1'⟩ := List.mem_map.mp hm
        rw [List.find?_append]
        cases f : ((evs (oddF ts fs)).zip zs).find? fun x => decide (x.1 = oddF ts fs) with
        | none => exact absurd (decide_eq_true e1') (List.find?_eq_none.mp f e he)
        | some y => rfl
    rw [ev]
    exact ⟨_, _, rfl, rfl, q H4 (s03.trans sD)⟩
end
/-! ### k54: other kinds, turned at a place -/
theorem inTwoF (x a b : Int) : inV (.int x) [.int a, .int b] = (decide (x = a) || decide (x = b)) := by
  have e : inV (.int x) [.int a, .int b] = ((a == x) || ((b == x) || false)) := rfl
  rw [e, Bool.or_false, Bool.eq_iff_iff, Bool.or_eq_true, Bool.or_eq_true, beq_iff_eq, beq_iff_eq, decide_eq_true_iff, decide_eq_true_iff]
  exact ⟨fun h => h.imp Eq.symm Eq.symm, fun h => h.imp Eq.symm Eq.symm⟩
def SameEnds (ts us : List Tie) : Prop := us.length = ts.length ∧ ∀ (k : Nat) (t u : Tie), ts[k]? = some t → us[k]? = some u → u.one = t.one ∧ u.other = t.other
theorem SameEnds.snoc {ts us : List Tie} {k : Nat} {t u : Tie} (h : SameEnds (ts.take k) us) (e : ts[k]? = some t) (j : u.one = t.one ∧ u.other = t.other) : SameEnds (ts.take (k + 1)) (us ++ [u]) := by
  have kl := (List.getElem?_eq_some_iff.mp e).1
  have l := h.1
  rw [List.length_take, Nat.min_eq_left (by omega)] at l
  refine ⟨by rw [List.length_append, List.length_take, l]; show k + 1 = _; omega, fun i t' u' h1 h2 => ?_⟩
  by_cases hi : i < k
  · rw [List.getElem?_append_left (by omega)] at h2
    rw [List.getElem?_take_of_lt (by omega)] at h1
    exact h.2 i t' u' (by rw [List.getElem?_take_of_lt hi]; exact h1) h2
  · have il := (List.getElem?_eq_some_iff.mp h2).1
    rw [List.length_append, List.length_singleton] at il
    have ik : i = k := by omega
    subst ik
    rw [List.getElem?_append_right (by omega), show i - us.length = 0 by omega] at h2
    rw [List.getElem?_take_of_lt (by omega), e] at h1
    cases h1
    cases h2
    exact j
theorem TwE.kinds {ts us : List Tie} {es : List (Int × Int)} (h : TwE ts es) (s : SameEnds ts us) : TwE us es := by
  refine ⟨s.1.trans h.1, fun k u e h1 h2 => ?_⟩
  have kl := (List.getElem?_eq_some_iff.mp h1).1
  have et := List.getElem?_eq_getElem (show k < ts.length by rw [← s.1]; exact kl)
  have j := s.2 k _ u et h1
  rw [j.1, j.2]
  exact h.2 k _ e et h2
def spKinds : Sp := fun vs H Q _ => ∃ (d : Addr) (wv : V) (n : Int) (ts : List Tie), vs = [.ref d, wv] ∧ WebAt H wv n ts ∧ FDk H d ∧ ts.length ≤ 200 ∧
  ∀ v us H', WebAt H' v n us → SameEnds ts us → FDk H' d → Kp d d H H' → Q v H'
def spTurnAt : Sp := fun vs H Q _ => ∃ (wv : V) (n : Int) (ts : List Tie) (p : Int), vs = [wv, .int p] ∧ WebAt H wv n ts ∧ ts.length ≤ 200 ∧
  ∀ v H', Same H H' → WebAt H' v n (ts.map (flipAt p)) → Q v H'
section
variable {P : Program} {w : World} {K : PySem.W.Frag} {mg : Str → Option Value} {base : Heap}
set_option maxHeartbeats 2000000 in
theorem ok_l_turned_at {f : Addr} {fd : FuncData} (F : Fun K "_law_turned_at" "_law_turned_at" s_l_turned_at f fd) (M : Free mg) : FnOk P w K mg base CX0 1 f fd ["_law_web_here", "_law_place"] spTurnAt := by
  refine F.ok sc_l_turned_at (fun vs H Q E h => ?_) (fun cdv A outer s H vs Q E hr h => ?_)
  · obtain ⟨wv, n, ts, p, rfl, _⟩ := h
    rfl
  · obtain ⟨wv, n, ts, p, rfl, hW, le, q⟩ := h
    refine ⟨_, (pss_cons (ps_set (i := 2) sc_l_turned_at.nd rfl (.inl rfl) (pe_lst pa_nil))
      (pss_cons (ps_for PassesOwn.never rfl (pi_tup (pe_ix ix_tup (pv 0) pe_int (fun _ _ => rfl))) (pg_tup rfl (pgs_cons (pg_name (i := 3) sc_l_turned_at.nd rfl (.inl rfl)) (pgs_cons (pg_name (i := 4) sc_l_turned_at.nd rfl (.inl rfl)) (pgs_cons (pg_name (i := 5) sc_l_turned_at.nd rfl (.inl rfl)) pgs_nil))))
        (Evl.pss_cut (ps_if (pt_cmpR op_in_seq (pv 1) (pe_tup (pa_cons (pv 3) (pa_cons (pv 4) pa_nil))) rfl)
          (pss_one (ps_set (i := 5) sc_l_turned_at.nd rfl (.inl rfl) (pe_ix ix_list (pe_lst (pa_cons pe_str (pa_cons pe_str pa_nil))) (pe_callTy call_int1 (by rfl) M.int (by decide +kernel) (pa_cons (pe_cmpR op_eq (pv 5) pe_str (nomark _)) pa_nil)) (fun _ _ => rfl))))
          pss_nil)
        (pss_one (ps_expr (pe_bm PySem.F.plainAttrs_list PySem.F.slot_list_append PySem.F.type_list_append mt_append (pv 2) (pa_cons (pe_tup (pa_cons (pv 3) (pa_cons (pv 4) (pa_cons (pv 5) pa_nil)))) pa_nil))))))
      (pss_one (ps_ret (pe_tup (pa_cons (pe_ix ix_tup (pv 0) pe_int (fun _ _ => rfl)) (pa_cons (pe_callTy call_tuple_of (by rfl) M.tuple (by decide +kernel) (pa_cons (pv 2) pa_nil)) pa_nil))))))), ?_⟩
    obtain ⟨wa, wb, ws, rfl, hwa, hwb, hp⟩ := id hW
    have lw : ws.length = ts.length := Paired.length hp
    refine ⟨Nat.zero_le _, fun L nL => ?_⟩
    have sL := same_new (o := .lst []) nL
    have hL1 : (upd H L (.lst [])) L = some (.lst []) := upd_same
    generalize upd H L (.lst []) = H1 at sL hL1
    refine ⟨.ref wa, rfl, wa, _, 1, .ref wb, rfl, rfl, SqT.of (sL _ _ hwa), rfl, wb, rfl, ⟨_, SqT.of (sL _ _ hwb)⟩, ?_⟩
    refine for_tup (xs := ws) (fun i σ' H' => ∃ (y3 y4 y5 : Option V) (vs : List V), σ' = [some (.ref wa), some (.int p), some (.ref L), y3, y4, y5] ∧ H' L = some (.lst vs) ∧ Paired (TieV H') vs ((ts.take i).map (flipAt p)) ∧ Same H H') ⟨none, none, none, [], rfl, hL1, .nil, sL⟩ (fun i σ' H' _ h => by
      obtain ⟨_, _, _, _, _, _, _, s⟩ := h
      exact SqT.of (s _ _ hwb)) ?_ ?_
    · rintro i x σ' H3 ex ⟨y3, y4, y5, vs, rfl, hL, hv, s3⟩
      obtain ⟨t, et, c, rfl, hc⟩ := Paired.at hp ex
      have il := (List.getElem?_eq_some_iff.mp et).1
      have lv := Paired.length hv
      rw [List.length_map, List.length_take] at lv
      refine ⟨c, _, rfl, SqT.of (s3 _ _ hc), rfl, _, _, rfl, _, _, rfl, _, _, rfl, rfl, ?_⟩
      refine ⟨fun σ' H' => σ' = [some (.ref wa), some (.int p), some (.ref L), some (.int t.one), some (.int t.other), some (.str (kindS (flipAt p t).foe))] ∧ H' L = some (.lst vs) ∧ Paired (TieV H') vs ((ts.take i).map (flipAt p)) ∧ Same H H', ?_, ?_⟩
      · refine ⟨.int p, rfl, .int t.one, rfl, .int t.other, rfl, by show 2 ≤ sizeLine; decide, fun p2 n2 => ?_⟩
        have s4 := same_new (o := .tup [.int t.one, .int t.other]) n2
        refine ⟨p2, _, rfl, .inr (SqT.of upd_same), rfl, rfl, _, rfl, ?_⟩
        have hL4 := s4 _ _ hL
        have hv4 := ties_tk (Same.tk s4) hv
        have s34 := s3.trans s4
        generalize upd H3 p2 (.tup [.int t.one, .int t.other]) = H4 at hL4 hv4 s34
        rw [if_neg (by decide), inTwoF]
        have fe : (flipAt p t).foe = xor t.foe (decide (p = t.one) || decide (p = t.other)) := rfl
        cases hb : (decide (p = t.one) || decide (p = t.other)) with
        | true =>
          refine ⟨by show 2 ≤ sizeLine; decide, fun p3 n3 => ⟨.str (kindS t.foe), rfl, rfl, .inr ⟨_, rfl, ?_⟩⟩⟩
          have s5 := same_new (o := .lst [.str "friend", .str "foe"]) n3
          refine ⟨p3, _, _, .str (kindS (!t.foe)), rfl, rfl, SqL.of upd_same, by cases t.foe <;> rfl, ?_⟩
          refine ⟨?_, s5 _ _ hL4, ties_tk (Same.tk s5) hv4, s34.trans s5⟩
          rw [fe, hb, Bool.xor_true]
          rfl
        | false =>
          refine ⟨?_, hL4, hv4, s34⟩
          rw [fe, hb, Bool.xor_false]
          rfl
      rintro σ' H4 ⟨rfl, hL4, hv4, s4⟩
      refine ⟨.ref L, rfl, .inl ⟨rfl, _, SqL.of hL4⟩, .int t.one, rfl, .int t.other, rfl, .str (kindS (flipAt p t).foe), rfl, by show 3 ≤ sizeLine; decide, fun c2 n2 => ?_⟩
      have s5 := same_new (o := .tup [.int t.one, .int t.other, .str (kindS (flipAt p t).foe)]) n2
      have h5 := upd_same (H := H4) (a := c2) (o := .tup [.int t.one, .int t.other, .str (kindS (flipAt p t).foe)])
      generalize upd H4 c2 (.tup [.int t.one, .int t.other, .str (kindS (flipAt p t).foe)]) = H5 at s5 h5
      have hL5 := s5 _ _ hL4
      have hv5 := ties_tk (Same.tk s5) hv4
      refine ⟨L, vs, _, rfl, rfl, hL5, small1000 (by omega), ?_⟩
      have tk := tk_lst (ys := vs ++ [.ref c2]) hL5
      refine ⟨_, _, _, vs ++ [.ref c2], rfl, upd_same, ?_, Same.mut (s4.trans s5) nL⟩
      rw [List.take_add_one, et, List.map_append]
      exact Paired.snoc (ties_tk tk hv5) ⟨c2, rfl, tk _ _ h5⟩
    · rintro σ' H3 ⟨y3, y4, y5, vs, rfl, hL, hv, s3⟩
      rw [lw, List.take_length] at hv
      refine ⟨.ref wa, rfl, wa, _, 0, .int n, rfl, rfl, SqT.of (s3 _ _ hwa), rfl, .ref L, rfl, L, vs, rfl, .inl ⟨SqL.of hL, fun e ne => ⟨by show 2 ≤ sizeLine; decide, fun a na => ?_⟩⟩⟩
      have s2 := (same_new (o := .tup vs) ne).trans (same_new (o := .tup [.int n, .ref e]) na)
      exact q _ _ (s3.trans s2) ⟨a, e, vs, rfl, upd_same, same_new na _ _ upd_same, ties_tk (Same.tk s2) hv⟩
end
/-! ### weights, few foes -/
def fewT (ts : List Tie) (fl : List Int) : List Tie := ts.zipIdx.map fun p => ⟨p.1.one, p.1.other, decide ((p.2 : Int) ∈ fl)⟩
theorem few_len (ts : List Tie) (fl : List Int) : (fewT ts fl).length = ts.length := by unfold fewT; rw [List.length_map, List.length_zipIdx]
theorem few_take {ts : List Tie} {fl : List Int} {i : Nat} {t : Tie} (e : ts[i]? = some t) : (fewT ts fl).take (i + 1) = (fewT ts fl).take i ++ [⟨t.one, t.other, decide ((i : Int) ∈ fl)⟩] := by
  rw [List.take_add_one]
  congr 1
  unfold fewT
  rw [List.getElem?_map, List.getElem?_zipIdx, e]
  simp
theorem few_same (ts : List Tie) (fl : List Int) : SameEnds ts (fewT ts fl) := by
  refine ⟨few_len ts fl, fun k t u et eu => ?_⟩
  unfold fewT at eu
  rw [List.getElem?_map, List.getElem?_zipIdx, et] at eu
  cases eu
  exact ⟨rfl, rfl⟩
def flips (ps : List Int) (ts : List Tie) : List Tie := ps.foldl (fun u p => u.map (flipAt p)) ts
theorem flips_snoc (ps : List Int) (p : Int) (ts : List Tie) : flips (ps ++ [p]) ts = (flips ps ts).map (flipAt p) := by
  unfold flips
  rw [List.foldl_append]
  rfl
theorem flips_same {ts us : List Tie} (h : SameEnds ts us) : ∀ ps, SameEnds ts (flips ps us) := fun ps => by
  induction ps generalizing us with
  | nil => exact h
  | cons p ps ih =>
    refine ih (us := us.map (flipAt p)) ⟨by rw [List.length_map]; exact h.1, fun k t u et eu => ?_⟩
    rw [List.getElem?_map] at eu
    obtain ⟨v, ev, rfl⟩ := Option.map_eq_some_iff.mp eu
    exact h.2 k t v et ev
def spFewFoes : Sp := fun vs H Q _ => ∃ (d : Addr) (wv : V) (n : Int) (ts : List Tie), vs = [.ref d, wv] ∧ WebAt H wv n ts ∧ FDk H d ∧ ts.length ≤ 100 ∧ 1 ≤ n ∧ n ≤ 100 ∧
  ∀ v fl ps H', fl.length ≤ 4 → WebAt H' v n (flips ps (fewT ts fl)) → FDk H' d → Kp d d H H' → Q v H'
def spWeightsL : Sp := fun vs H Q _ => ∃ (d : Addr) (wv : V) (n : Int) (ts : List Tie), vs = [.ref d, wv] ∧ WebAt H wv n ts ∧ FDk H d ∧ ts.length ≤ 100 ∧
  ∀ v ws H', WtV H' v ws → ws.length = ts.length → (∀ x ∈ ws, 1 ≤ x ∧ x ≤ 10 ^ 30) → FDk H' d → Kp d d H H' → Q v H'
section
variable {P : Program} {w : World} {K : PySem.W.Frag} {mg : Str → Option Value} {base : Heap}
set_option maxHeartbeats 4000000 in
theorem ok_l_weights {f : Addr} {fd : FuncData} (F : Fun K "_law_weights" "_law_weights" s_l_weights f fd) (M : Free mg) (D_l_take : Df P w K mg base 2 "_law_take" ["_law_deck_here", "_law_most"] spTake) : FnOk P w K mg base CX0 3 f fd ["_law_deck_here", "_law_web_here"] spWeightsL := by
  obtain ⟨f_l_take, fd_l_take, G_l_take, g_l_take, k_l_take, b_l_take⟩ := D_l_take
  refine F.ok sc_l_weights (fun vs H Q E h => ?_) (fun cdv A outer s H vs Q E hr h => ?_)
  · obtain ⟨d, wv, n, ts, rfl, _⟩ := h
    rfl
  · obtain ⟨d, wv, n, ts, rfl, hW, D, le, q⟩ := h
    refine ⟨_, (pss_cons (ps_set (i := 2) sc_l_weights.nd rfl (.inl rfl) (pe_call G_l_take (hr.mono (by decide)) (by rfl) g_l_take k_l_take b_l_take .nil pass0 (pa_cons (pv 0) (pa_cons pe_int pa_nil))))
      (pss_cons (ps_if (pt_cmpR op_eq (pv 2) pe_int (nomark _))
        (pss_one (ps_ret pe_non))
        pss_nil)
      (pss_cons (ps_set (i := 3) sc_l_weights.nd rfl (.inr rfl) (pe_ix ix_list (pe_lst (pa_cons pe_int (pa_cons pe_int (pa_cons pe_int (pa_cons (pe_op op_pow pe_int pe_int) pa_nil))))) (pv 2) (fun _ _ => rfl)))
      (pss_one (ps_ret (pe_callTy call_tuple_of (by rfl) M.tuple (by decide +kernel) (pa_cons (pe_lc (own := [("_law_tie", 4)]) (g := (gName 4)) (tt := tYes) rfl sc_l_weights.nd (pi_tup (pe_ix ix_tup (pv 1) pe_int (fun _ _ => rfl))) (blkOk_by (N := N_l_weights) (sc := defScope s_l_weights) (own := [("_law_tie", 4)]) (by decide +kernel)) (fun _ _ _ _ _ => (pg_name (i := 4) sc_l_weights.nd rfl (.inl rfl))) (fun _ _ _ _ _ => pts_nil) (fun _ _ _ _ _ => (pe_op op_add pe_int (pe_call G_l_take (hr.mono (by decide)) (by rfl) g_l_take k_l_take b_l_take .nil pass0 (pa_cons (pv 0) (pa_cons (pv 3) pa_nil)))))) pa_nil))))))), ?_⟩
    refine ⟨.ref d, rfl, d, 4, rfl, D, by decide, by decide, fun way H1 w0 w1 D1 K1 => ?_⟩
    refine ⟨.int way, rfl, rfl, _, rfl, ?_⟩
    by_cases hz : way = 0
    · subst hz
      rw [show decide (V.int 0 = V.int 0) = true from decide_eq_true rfl]
      exact q .non (List.replicate ts.length 1) H1 (.inl ⟨rfl, fun x hx => (List.mem_replicate.mp hx).2⟩) (by rw [List.length_replicate]) (fun x hx => by rw [(List.mem_replicate.mp hx).2]; exact ⟨by decide, by decide⟩) D1 K1
    rw [show decide (V.int way = V.int 0) = false from decide_eq_false fun h => hz (V.int.inj h)]
    refine ⟨10, 30, rfl, rfl, ⟨by decide, by decide, by decide⟩, by show 4 ≤ sizeLine; decide, fun p np => ?_⟩
    obtain ⟨m, em, m0, m1⟩ : ∃ m : Int, atI [V.int 1, V.int 3, V.int 20, V.int (10 ^ (30 : Int).toNat)] way = some (.int m) ∧ 0 < m ∧ m ≤ 10 ^ 30 := by
      have : way = 1 ∨ way = 2 ∨ way = 3 := by omega
      rcases this with e | e | e <;> subst e
      · exact ⟨3, rfl, by decide, by decide⟩
      · exact ⟨20, rfl, by decide, by decide⟩
      · exact ⟨10 ^ 30, rfl, by decide, by decide⟩
    refine ⟨.int way, rfl, p, _, way, .int m, rfl, rfl, SqL.of upd_same, em, ?_⟩
    have sp := same_new (o := .lst [V.int 1, V.int 3, V.int 20, V.int (10 ^ (30 : Int).toNat)]) np
    have D2 := D1.same sp
    have K2 := K1.trans (Same.kp sp)
    generalize upd H1 p (.lst [V.int 1, V.int 3, V.int 20, V.int (10 ^ (30 : Int).toNat)]) = H2 at D2 K2
    obtain ⟨wa, wb, us, rfl, hwa, hwb, hp⟩ := id (hW.tk (D.tk K2))
    have lus : us.length = ts.length := Paired.length hp
    refine ⟨.ref wa, rfl, wa, _, 1, .ref wb, rfl, rfl, SqT.of hwa, rfl, wb, rfl, ⟨_, SqT.of hwb⟩, fun Z nZ => ?_⟩
    have sZ := same_new (o := .lst []) nZ
    have Zd := D2.ned nZ
    have nZ0 := K2.free nZ Zd Zd
    refine lc_tup (K := K) (xs := us) (fun j H' => ∃ ws : List Int, H' Z = some (.lst (ws.map V.int)) ∧ ws.length = j ∧ (∀ x ∈ ws, 1 ≤ x ∧ x ≤ 10 ^ 30) ∧ FDk H' d ∧ Kp d d H H' ∧ Tk H2 H') ⟨[], upd_same, rfl, (fun x hx => (by cases hx)), D2.same sZ, K2.trans (Same.kp sZ), Same.tk sZ⟩ (fun j H' _ ⟨_, _, _, _, _, _, k⟩ => SqT.of (k _ _ hwb)) ?_ ?_
    · rintro j x H3 ex ⟨ws, hZ, lw, rg, D3, K3, k3⟩
      have jl := (List.getElem?_eq_some_iff.mp ex).1
      refine ⟨rfl, .ref d, rfl, .int m, rfl, d, m, rfl, D3, m0, by omega, fun v H4 v0 v1 D4 K4 => ⟨_, _, rfl, rfl, ?_⟩⟩
      have hZ4 := K4 _ _ Zd Zd hZ
      have tk4 := D3.tk K4
      have tk5 := tk_lst (ys := ws.map V.int ++ [.int (1 + v)]) hZ4
      refine ⟨ws.map V.int, hZ4, by rw [List.length_map]; exact small1000 (by omega), ws ++ [1 + v], by rw [upd_same, List.map_append]; rfl, by rw [List.length_append, lw]; rfl, fun x hx => ?_, ?_, (K3.trans K4).mut nZ0, (k3.trans tk4).trans tk5⟩
      · rcases List.mem_append.mp hx with z | z
        · exact rg x z
        · rw [List.mem_singleton.mp z]
          omega
      · obtain ⟨ns, h1, h2⟩ := D4
        exact ⟨ns, by rw [upd_ne (fun z => Zd z.symm)]; exact h1, h2⟩
    · rintro H3 ⟨ws, hZ, lw, rg, D3, K3, k3⟩
      refine ⟨Z, _, rfl, .inl ⟨SqL.of hZ, fun r nr => ?_⟩⟩
      have sr := same_new (o := .tup (ws.map V.int)) nr
      exact q (.ref r) ws _ (.inr ⟨r, rfl, upd_same⟩) (by omega) rg (D3.same sr) (K3.trans (Same.kp sr))
set_option maxHeartbeats 4000000 in
theorem ok_l_few_foes {f : Addr} {fd : FuncData} (F : Fun K "_law_few_foes" "_law_few_foes" s_l_few_foes f fd) (M : Free mg) (m_enumerate : mg "enumerate" = none) (D_l_take : Df P w K mg base 2 "_law_take" ["_law_deck_here", "_law_most"] spTake) (D_l_turned_at : Df P w K mg base 1 "_law_turned_at" ["_law_web_here", "_law_place"] spTurnAt) : FnOk P w K mg base CX0 3 f fd ["_law_deck_here", "_law_web_here"] spFewFoes := by
  obtain ⟨f_l_take, fd_l_take, G_l_take, g_l_take, k_l_take, b_l_take⟩ := D_l_take
  obtain ⟨f_l_turned_at, fd_l_turned_at, G_l_turned_at, g_l_turned_at, k_l_turned_at, b_l_turned_at⟩ := D_l_turned_at
  refine F.ok sc_l_few_foes (fun vs H Q E h => ?_) (fun cdv A outer s H vs Q E hr h => ?_)
  · obtain ⟨d, wv, n, ts, rfl, _⟩ := h
    rfl
  · obtain ⟨d, wv, n, ts, rfl, hW, D, le, n1, n100, q⟩ := h
    refine ⟨_, (pss_cons (ps_setLc (i := 2) (own := [("_law_k", 3)]) (g := (gName 3)) (tt := tYes) rfl sc_l_few_foes.nd rfl rfl (sw_true rfl rfl rfl (by decide +kernel)) (pi_range1 (by rfl) M.range (pa_cons (pe_call G_l_take (hr.mono (by decide)) (by rfl) g_l_take k_l_take b_l_take .nil pass0 (pa_cons (pv 0) (pa_cons pe_int pa_nil))) pa_nil)) (blkOk_by (N := N_l_few_foes) (sc := defScope s_l_few_foes) (own := [("_law_k", 3)]) (by decide +kernel)) (fun _ _ _ _ _ => (pg_name (i := 3) sc_l_few_foes.nd rfl (.inl rfl))) (fun _ _ _ _ _ => pts_nil) (fun _ _ _ _ _ => (pe_call G_l_take (hr.mono (by decide)) (by rfl) g_l_take k_l_take b_l_take .nil pass0 (pa_cons (pv 0) (pa_cons (pe_op op_add pe_int (pe_callB (r := rLenK54 K) call_len_seq (by rfl) M.len PySem.boot_len (pa_cons (pe_ix (r := rIxT K) ix_tup (pv 1) pe_int (fun _ _ => rfl)) pa_nil))) pa_nil)))))
      (pss_cons (ps_set (i := 4) sc_l_few_foes.nd rfl (.inl rfl) (pe_lst pa_nil))
      (pss_cons (ps_for PassesOwn.never rfl (pi_enumT (by rfl) m_enumerate (pa_cons (pe_ix ix_tup (pv 1) pe_int (fun _ _ => rfl)) pa_nil)) (pg_tup rfl (pgs_cons (pg_name (i := 5) sc_l_few_foes.nd rfl (.inl rfl)) (pgs_cons (pg_tup rfl (pgs_cons (pg_name (i := 6) sc_l_few_foes.nd rfl (.inl rfl)) (pgs_cons (pg_name (i := 7) sc_l_few_foes.nd rfl (.inl rfl)) (pgs_cons (pg_name (i := 8) sc_l_few_foes.nd rfl (.inl rfl)) pgs_nil)))) pgs_nil)))
        (pss_one (ps_expr (pe_bm PySem.F.plainAttrs_list PySem.F.slot_list_append PySem.F.type_list_append mt_append (pv 4) (pa_cons (pe_tup (pa_cons (pv 6) (pa_cons (pv 7) (pa_cons (pe_ix ix_list (pe_lst (pa_cons pe_str (pa_cons pe_str pa_nil))) (pe_callTy call_int1 (by rfl) M.int (by decide +kernel) (pa_cons (pe_cmpR op_in_seq (pv 5) (pv 2) rfl) pa_nil)) (fun _ _ => rfl)) pa_nil)))) pa_nil)))))
      (pss_cons (ps_set (i := 1) sc_l_few_foes.nd rfl (.inr rfl) (pe_tup (pa_cons (pe_ix ix_tup (pv 1) pe_int (fun _ _ => rfl)) (pa_cons (pe_callTy call_tuple_of (by rfl) M.tuple (by decide +kernel) (pa_cons (pv 4) pa_nil)) pa_nil))))
      (pss_cons (ps_for PassesOwn.never rfl (pi_range1 (by rfl) M.range (pa_cons (pe_call G_l_take (hr.mono (by decide)) (by rfl) g_l_take k_l_take b_l_take .nil pass0 (pa_cons (pv 0) (pa_cons pe_int pa_nil))) pa_nil)) (pg_name (i := 3) sc_l_few_foes.nd rfl (.inl rfl))
        (pss_one (ps_set (i := 1) sc_l_few_foes.nd rfl (.inr rfl) (pe_call G_l_turned_at (hr.mono (by decide)) (by rfl) g_l_turned_at k_l_turned_at b_l_turned_at .nil pass0 (pa_cons (pv 1) (pa_cons (pe_call G_l_take (hr.mono (by decide)) (by rfl) g_l_take k_l_take b_l_take .nil pass0 (pa_cons (pv 0) (pa_cons (pe_ix ix_tup (pv 1) pe_int (fun _ _ => rfl)) pa_nil))) pa_nil))))))
      (pss_one (ps_ret (pv 1)))))))), ?_⟩
    refine ⟨.ref d, rfl, d, 5, rfl, D, by decide, by decide, fun c H1 c0 c1 D1 K1 => ?_⟩
    refine ⟨c, rfl, by omega, by omega, fun Z nZ => ?_⟩
    have sZ := same_new (o := .lst []) nZ
    have Zd := D1.ned nZ
    have nZ0 := K1.free nZ Zd Zd
    refine it_gen (walk_range (lo := 0) (n := c.toNat)) (fun j H' => ∃ fl : List Int, H' Z = some (.lst (fl.map V.int)) ∧ fl.length = j ∧ FDk H' d ∧ Kp d d H H') ⟨[], upd_same, rfl, D1.same sZ, K1.trans (Same.kp sZ)⟩ (fun _ _ _ _ => trivial) ?_ ?_
    · rintro j x H2 H3 hj ⟨fl, hZ, lf, D2, K2⟩ ⟨rfl, rfl⟩
      obtain ⟨wa, wb, us, rfl, hwa, hwb, hp⟩ := id (hW.tk (D.tk K2))
      have lus : us.length = ts.length := Paired.length hp
      refine ⟨rfl, .ref d, rfl, .ref wa, rfl, wa, _, 1, .ref wb, rfl, rfl, SqT.of hwa, rfl, wb, us, rfl, .inr (SqT.of hwb), _, _, rfl, rfl, d, 1 + (us.length : Nat), rfl, D2, by omega, by omega, fun v H4 v0 v1 D4 K4 => ?_⟩
      have hZ4 := K4 _ _ Zd Zd hZ
      refine ⟨fl.map V.int, hZ4, by rw [List.length_map]; exact small1000 (by omega), fl ++ [v], by rw [upd_same, List.map_append]; rfl, by rw [List.length_append, lf]; rfl, ?_, (K2.trans K4).mut nZ0⟩
      obtain ⟨ns, h1, h2⟩ := D4
      exact ⟨ns, by rw [upd_ne (fun z => Zd z.symm)]; exact h1, h2⟩
    rintro H2 ⟨fl, hZ, lf, D2, K2⟩
    have lf4 : fl.length ≤ 4 := by omega
    refine ⟨Nat.zero_le _, fun L nL => ?_⟩
    have sL := same_new (o := .lst []) nL
    have hL3 := upd_same (H := H2) (a := L) (o := .lst [])
    have Ld := D2.ned nL
    have nL0 := K2.free nL Ld Ld
    have D3 := D2.same sL
    have K3 := K2.trans (Same.kp sL)
    have hZ3 := sL _ _ hZ
    have LZ : L ≠ Z := (ne_of_none hZ nL).symm
    generalize upd H2 L (.lst []) = H3 at sL hL3 D3 K3 hZ3
    obtain ⟨wa, wb, us, rfl, hwa, hwb, hp⟩ := id (hW.tk (D.tk K3))
    have lus : us.length = ts.length := Paired.length hp
    refine ⟨.ref wa, rfl, wa, _, 1, .ref wb, rfl, rfl, SqT.of hwa, rfl, wb, us, rfl, SqT.of hwb, ?_⟩
    refine for_it (walk_enumT (K := K) (xs := us)) (fun i σ' H' => ∃ (y3 y5 y6 y7 y8 : Option V) (vs : List V), σ' = [some (.ref d), some (.ref wa), some (.ref Z), y3, some (.ref L), y5, y6, y7, y8] ∧ H' L = some (.lst vs) ∧ Paired (TieV H') vs ((fewT ts fl).take i) ∧ H' Z = some (.lst (fl.map V.int)) ∧ FDk H' d ∧ Kp d d H H' ∧ Tk H3 H') ⟨_, _, _, _, _, [], rfl, hL3, .nil, hZ3, D3, K3, fun _ _ h => h⟩ (fun i σ' H' _ h => by
      obtain ⟨_, _, _, _, _, _, _, _, _, _, _, _, k⟩ := h
      exact SqT.of (k _ _ hwb)) ?_ ?_
    · rintro i x σ' H4 H5 hi ⟨y3, y5, y6, y7, y8, vs, rfl, hL, hv, hZ4, D4, K4, k4⟩ ⟨T, x1, y, rfl, nT, rfl, e1, e2⟩
      obtain rfl : V.int (i : Nat) = x1 := Option.some.inj e1
      obtain ⟨t, et, c2, rfl, hc⟩ := Paired.at hp e2
      have li := (List.getElem?_eq_some_iff.mp et).1
      have sT := same_new (o := .tup [.int (i : Nat), .ref c2]) nT
      have hT := upd_same (H := H4) (a := T) (o := .tup [.int (i : Nat), .ref c2])
      have hL5 := sT _ _ hL
      have hv5 : Paired (TieV (upd H4 T (.tup [.int (i : Nat), .ref c2]))) vs _ := ties_tk (Same.tk sT) hv
      have hZ5 := sT _ _ hZ4
      have D5 := D4.same sT
      have K5 := K4.trans (Same.kp sT)
      have k5 := k4.trans (Same.tk sT)
      generalize upd H4 T (.tup [.int (i : Nat), .ref c2]) = H5 at sT hT hL5 hv5 hZ5 D5 K5 k5
      refine ⟨T, _, rfl, SqT.of hT, rfl, _, _, rfl, _, _, rfl, c2, _, rfl, SqT.of (k5 _ _ hc), rfl, _, _, rfl, _, _, rfl, _, _, rfl, rfl, rfl, ?_⟩
      refine ⟨.ref L, rfl, .inl ⟨rfl, _, SqL.of hL5⟩, .int t.one, rfl, .int t.other, rfl, by show 2 ≤ sizeLine; decide, fun p np => ⟨.int (i : Nat), rfl, .ref Z, rfl, ?_⟩⟩
      have sp := same_new (o := .lst [.str "friend", .str "foe"]) np
      have hp6 := upd_same (H := H5) (a := p) (o := .lst [.str "friend", .str "foe"])
      have hZ6 := sp _ _ hZ5
      have hL6 := sp _ _ hL5
      have hv6 : Paired (TieV (upd H5 p (.lst [.str "friend", .str "foe"]))) vs _ := ties_tk (Same.tk sp) hv5
      have D6 := D5.same sp
      have K6 := K5.trans (Same.kp sp)
      have k6 := k5.trans (Same.tk sp)
      generalize upd H5 p (.lst [.str "friend", .str "foe"]) = H6 at sp hp6 hZ6 hL6 hv6 D6 K6 k6
      refine ⟨Z, _, rfl, .inl (SqL.of hZ6), rfl, in_flat _, .inr ⟨decide ((i : Int) ∈ fl), congrArg (fun b => [V.bl b]) (show (if false = true then !inV (V.int (i : Int)) (fl.map V.int) else inV (V.int (i : Int)) (fl.map V.int)) = decide ((i : Int) ∈ fl) by rw [if_neg Bool.false_ne_true, in_ints]), ?_⟩⟩
      refine ⟨p, _, _, .str (kindS (decide ((i : Int) ∈ fl))), rfl, rfl, SqL.of hp6, by cases decide ((i : Int) ∈ fl) <;> rfl, by show 3 ≤ sizeLine; decide, fun c3 n3 => ?_⟩
      have s7 := same_new (o := .tup [.int t.one, .int t.other, .str (kindS (decide ((i : Int) ∈ fl)))]) n3
      have h7 := upd_same (H := H6) (a := c3) (o := .tup [.int t.one, .int t.other, .str (kindS (decide ((i : Int) ∈ fl)))])
      have hL7 := s7 _ _ hL6
      have hZ7 := s7 _ _ hZ6
      have hv7 : Paired (TieV (upd H6 c3 (.tup [.int t.one, .int t.other, .str (kindS (decide ((i : Int) ∈ fl)))]))) vs _ := ties_tk (Same.tk s7) hv6
      have D7 := D6.same s7
      have K7 := K6.trans (Same.kp s7)
      have k7 := k6.trans (Same.tk s7)
      generalize upd H6 c3 (.tup [.int t.one, .int t.other, .str (kindS (decide ((i : Int) ∈ fl)))]) = H7 at s7 h7 hL7 hZ7 hv7 D7 K7 k7
      have lv : vs.length ≤ 100 := by
        have := Paired.length hv
        rw [List.length_take] at this
        omega
      refine ⟨L, vs, _, rfl, rfl, hL7, small1000 (by omega), ?_⟩
      have tk := tk_lst (ys := vs ++ [.ref c3]) hL7
      refine ⟨_, _, _, _, _, vs ++ [.ref c3], rfl, upd_same, ?_, by rw [upd_ne LZ.symm]; exact hZ7, ?_, K7.mut nL0, k7.trans tk⟩
      · rw [few_take et]
        exact Paired.snoc (ties_tk tk hv7) ⟨c3, rfl, tk _ _ h7⟩
      · obtain ⟨ns, h1, h2⟩ := D7
        exact ⟨ns, by rw [upd_ne (fun z => Ld z.symm)]; exact h1, h2⟩
    · rintro σ' H4 ⟨y3, y5, y6, y7, y8, vs, rfl, hL, hv, hZ4, D4, K4, k4⟩
      have hv : Paired (TieV H4) vs (fewT ts fl) := by
        rw [List.take_of_length_le (by rw [few_len]; omega)] at hv
        exact hv
      refine ⟨.ref wa, rfl, wa, _, 0, .int n, rfl, rfl, SqT.of (k4 _ _ hwa), rfl, .ref L, rfl, L, vs, rfl, .inl ⟨SqL.of hL, fun e ne => ⟨by show 2 ≤ sizeLine; decide, fun a na => ?_⟩⟩⟩
      have s5 := (same_new (o := .tup vs) ne).trans (same_new (o := .tup [.int n, .ref e]) na)
      have W5 : WebAt (upd (upd H4 e (.tup vs)) a (.tup [.int n, .ref e])) (.ref a) n (fewT ts fl) := ⟨a, e, vs, rfl, upd_same, same_new na _ _ upd_same, ties_tk (Same.tk s5) hv⟩
      have D5 := D4.same s5
      have K5 := K4.trans (Same.kp s5)
      generalize upd (upd H4 e (.tup vs)) a (.tup [.int n, .ref e]) = H5 at W5 D5 K5
      refine ⟨.ref d, rfl, d, 7, rfl, D5, by decide, by decide, fun c7 H6 c70 c71 D6 K6 => ?_⟩
      refine ⟨c7, rfl, by omega, by omega, ?_⟩
      refine for_range (lo := 0) (n := c7.toNat) (fun i σ' H' => ∃ (y3 y5 y6 y7 y8 : Option V) (wv' : V) (ps : List Int), σ' = [some (.ref d), some wv', some (.ref Z), y3, some (.ref L), y5, y6, y7, y8] ∧ WebAt H' wv' n (flips ps (fewT ts fl)) ∧ FDk H' d ∧ Kp d d H H') ⟨_, _, _, _, _, _, [], rfl, W5.tk (D5.tk K6), D6, K5.trans K6⟩ ?_ ?_
      · rintro i σ' H7 hi ⟨y3, y5, y6, y7, y8, wv', ps, rfl, W7, D7, K7⟩
        obtain ⟨wa7, wb7, us7, rfl, hwa7, hwb7, hp7⟩ := id W7
        refine ⟨.ref wa7, rfl, .ref d, rfl, .ref wa7, rfl, wa7, _, 0, .int n, rfl, rfl, SqT.of hwa7, rfl, d, n, rfl, D7, by omega, by omega, fun pl H8 p0 p1 D8 K8 => ?_⟩
        have lfl : (flips ps (fewT ts fl)).length ≤ 200 := by
          rw [(flips_same (few_same ts fl) ps).1]
          omega
        refine ⟨.ref wa7, n, _, pl, rfl, W7.tk (D7.tk K8), lfl, fun v H9 s9 W9 => ?_⟩
        refine ⟨_, _, _, _, _, v, ps ++ [pl], rfl, ?_, D8.same s9, (K7.trans K8).trans (Same.kp s9)⟩
        rw [flips_snoc]
        exact W9
      · rintro σ' H7 ⟨y3, y5, y6, y7, y8, wv', ps, rfl, W7, D7, K7⟩
        exact ⟨wv', rfl, q wv' fl ps H7 lf4 W7 D7 K7⟩
end
/-! ### orders turned, however they were made -/
structure OrL (d O : Addr) (H : Hp) (A : List Addr) (rs : List (List Int)) : Prop where
  hO : H O = some (.lst (A.map V.ref))
  rw' : Rw H A rs
  Od : O ≠ d
  aA : ∀ a ∈ A, a ≠ d
  dk : FDk H d
theorem OrL.same {d O : Addr} {H H' : Hp} {A : List Addr} {rs : List (List Int)} (g : OrL d O H A rs) (s : Same H H') : OrL d O H' A rs := ⟨s _ _ g.hO, g.rw'.ext fun _ _ _ h => s _ _ h, g.Od, g.aA, g.dk.same s⟩
theorem OrL.take {d O : Addr} {H H' : Hp} {A : List Addr} {rs : List (List Int)} (g : OrL d O H A rs) (k : Kp d d H H') (D : FDk H' d) : OrL d O H' A rs := ⟨k _ _ g.Od g.Od g.hO, g.rw'.ext fun a ha _ h => k _ _ (g.aA a ha) (g.aA a ha) h, g.Od, g.aA, D⟩
theorem OrL.dk_ne {d O : Addr} {H : Hp} {A : List Addr} {rs : List (List Int)} (g : OrL d O H A rs) {a : Addr} (h : a ≠ d) {o : HO} : FDk (upd H a o) d := by
  obtain ⟨ns, h1, h2⟩ := g.dk
  exact ⟨ns, by rw [upd_ne (Ne.symm h)]; exact h1, h2⟩
theorem Grw.orL {H0 H : Hp} {d T O : Addr} {us : List V} {es : List (Int × Int)} {A : List Addr} {rs : List (List Int)} (g : Grw H0 d T O H us es A rs) : OrL d O H A rs := ⟨g.hO, g.rw', g.Od, fun a ha => (g.aA a ha).2.2.1, g.dk⟩
def spTurnedO : Sp := fun vs H Q _ => ∃ (d O : Addr) (es : List (Int × Int)) (A : List Addr) (rs : List (List Int)), vs = [.ref d, .ref O] ∧ OrL d O H A rs ∧ Ord rs es ∧ rs.length ≤ 100 ∧ es.length ≤ 200 ∧
  ∀ r vs' rs' H', H' r = some (.tup vs') → Paired (IntsV H') vs' rs' → Ord rs' es → rs'.length = rs.length → Rot rs rs' → FDk H' d → Kp d d H H' → Q (.ref r) H'
section
variable {P : Program} {w : World} {K : PySem.W.Frag} {mg : Str → Option Value} {base : Heap}
set_option maxHeartbeats 2000000 in
theorem ok_l_turnedO {f : Addr} {fd : FuncData} (F : Fun K "_law_turned" "_law_turned" s_l_turned f fd) (M : Free mg) (D_l_take : Df P w K mg base 2 "_law_take" ["_law_deck_here", "_law_most"] spTake) : FnOk P w K mg base CX0 3 f fd ["_law_deck_here", "_law_orders"] spTurnedO := by
  obtain ⟨f_l_take, fd_l_take, G_l_take, g_l_take, k_l_take, b_l_take⟩ := D_l_take
  refine F.ok sc_l_turned (fun vs H Q E h => ?_) (fun cdv A outer s H vs Q E hr h => ?_)
  · obtain ⟨d, O, es, A, rs, rfl, _⟩ := h
    rfl
  · obtain ⟨d, O, es, A, rs, rfl, g, od, lr, le, q⟩ := h
    refine ⟨_, (pss_cons (ps_set (i := 2) sc_l_turned.nd rfl (.inl rfl) (pe_lst pa_nil))
      (pss_cons (ps_for PassesOwn.never rfl (pi_list (pv 1)) (pg_name (i := 3) sc_l_turned.nd rfl (.inl rfl))
        (pss_cons (ps_set (i := 4) sc_l_turned.nd rfl (.inl rfl) (pe_call G_l_take (hr.mono (by decide)) (by rfl) g_l_take k_l_take b_l_take .nil pass0 (pa_cons (pv 0) (pa_cons (pe_op op_add (pe_callB call_len_seq (by rfl) M.len PySem.boot_len (pa_cons (pv 3) pa_nil)) pe_int) pa_nil))))
        (pss_one (ps_expr (pe_bm PySem.F.plainAttrs_list PySem.F.slot_list_append PySem.F.type_list_append mt_append (pv 2) (pa_cons (pe_callTy call_tuple_of (by rfl) M.tuple (by decide +kernel) (pa_cons (pe_op op_cat (pe_slice sl_list (pv 3) (po_some (pv 4)) po_none) (pe_slice sl_list (pv 3) po_none (po_some (pv 4)))) pa_nil)) pa_nil))))))
      (pss_one (ps_ret (pe_callTy call_tuple_of (by rfl) M.tuple (by decide +kernel) (pa_cons (pv 2) pa_nil)))))), ?_⟩
    have lA := g.rw'.len
    refine ⟨Nat.zero_le _, fun L nL => ?_⟩
    have sL := same_new (o := .lst []) nL
    have hL1 : (upd H L (.lst [])) L = some (.lst []) := upd_same
    have g1 := g.same sL
    have Ld : L ≠ d := g.dk.ned nL
    have K1 : Kp d d H (upd H L (.lst [])) := Same.kp sL
    generalize upd H L (.lst []) = H1 at sL hL1 g1 K1
    refine ⟨.ref O, rfl, O, rfl, ⟨_, SqL.of g1.hO⟩, ?_⟩
    refine for_list (xs := A.map V.ref) (fun i σ' H' => ∃ (y3 y4 : Option V) (vs : List V) (rs' : List (List Int)), σ' = [some (.ref d), some (.ref O), some (.ref L), y3, y4] ∧ H' L = some (.lst vs) ∧ Paired (IntsV H') vs rs' ∧ rs'.length = i ∧ (∀ (j : Nat) (row' : List Int), rs'[j]? = some row' → ∃ row k, rs[j]? = some row ∧ k ≤ row.length ∧ row' = rotP row k) ∧ OrL d O H' A rs ∧ Kp d d H H') ⟨none, none, [], [], rfl, hL1, .nil, rfl, fun j row' e => by simp at e, g1, K1⟩ (fun i σ' H' _ h => by
      obtain ⟨_, _, _, _, _, _, _, _, _, g, _⟩ := h
      exact SqL.of g.hO) ?_ ?_
    · rintro i x σ' H2 ex ⟨y3, y4, vs, rs', rfl, hL, hv, li, each, g2, K2⟩
      have lv := Paired.length hv
      rw [List.getElem?_map] at ex
      obtain ⟨ra, ea, rfl⟩ := Option.map_eq_some_iff.mp ex
      obtain ⟨row, er, hra⟩ := g2.rw'.each _ _ ea
      have hlt := (List.getElem?_eq_some_iff.mp er).1
      have lrow := od.row_len (List.mem_of_getElem? er)
      have had := g2.aA ra (List.mem_of_getElem? ea)
      refine ⟨.ref d, rfl, .ref ra, rfl, ra, _, rfl, .inl (SqL.of hra), _, _, rfl, rfl, d, _, rfl, g2.dk, by omega, by rw [List.length_map]; omega, fun at' H3 a0 a1 D3 K3 => ?_⟩
      rw [List.length_map] at a1
      have g3 := g2.take K3 D3
      have hra3 := K3 _ _ had had hra
      have hL3 := K3 _ _ Ld Ld hL
      have hv3 : Paired (IntsV H3) vs rs' := Paired.mono (fun _ _ x => x.tk (g2.dk.tk K3)) hv
      obtain ⟨k, rfl⟩ : ∃ k : Nat, at' = (k : Int) := ⟨at'.toNat, by omega⟩
      have kl : k ≤ (row.map V.int).length := by rw [List.length_map]; omega
      obtain ⟨c1, hc1⟩ : ∃ c1, c1 = cutV (row.map V.int) (some (k : Int)) none := ⟨_, rfl⟩
      obtain ⟨c2, hc2⟩ : ∃ c2, c2 = cutV (row.map V.int) none (some (k : Int)) := ⟨_, rfl⟩
      have ec : c1 ++ c2 = (rotP row k).map V.int := by
        rw [hc1, hc2, cut_drop kl, cut_take kl]
        unfold rotP
        rw [List.map_append, List.map_drop, List.map_take]
      have lc : c1.length + c2.length ≤ 800 := by
        have h1 := cutV_length (row.map V.int) (some (k : Int)) none
        have h2 := cutV_length (row.map V.int) none (some (k : Int))
        rw [List.length_map] at h1 h2
        rw [hc1, hc2]
        omega
      refine ⟨.ref L, rfl, .inl ⟨rfl, _, SqL.of hL3⟩, .ref ra, rfl, .int k, rfl, k, rfl, ra, _, rfl, SqL.of hra3, fun p1 n1 => ?_⟩
      rw [← hc1]
      have s4 := same_new (o := .lst c1) n1
      refine ⟨.ref ra, rfl, .int k, rfl, k, rfl, ra, _, rfl, SqL.of (s4 _ _ hra3), fun p2 n2 => ?_⟩
      rw [← hc2]
      have s5 := same_new (o := .lst c2) n2
      refine ⟨p1, p2, _, _, rfl, rfl, s5 _ _ upd_same, upd_same, Nat.le_of_lt (small1000 (by omega)), fun p3 n3 => ?_⟩
      · have s6 := same_new (o := .lst (c1 ++ c2)) n3
        refine ⟨p3, _, rfl, .inl ⟨SqL.of upd_same, fun p4 n4 => ?_⟩⟩
        have s7 := same_new (o := .tup (c1 ++ c2)) n4
        have sA := ((s4.trans s5).trans s6).trans s7
        have h4 : (upd (upd (upd (upd H3 p1 (.lst c1)) p2 (.lst c2)) p3 (.lst (c1 ++ c2))) p4 (.tup (c1 ++ c2))) p4 = some (.tup ((rotP row k).map V.int)) := by rw [upd_same, ec]
        generalize upd (upd (upd (upd H3 p1 (.lst c1)) p2 (.lst c2)) p3 (.lst (c1 ++ c2))) p4 (.tup (c1 ++ c2)) = H7 at sA h4
        have hL7 := sA _ _ hL3
        have tk := tk_lst (ys := vs ++ [.ref p4]) hL7
        have g7 := g3.same sA
        refine ⟨L, vs, _, rfl, rfl, hL7, small1000 (by omega), ?_⟩
        have LA : ∀ a ∈ A, a ≠ L := fun a ha z => by
          obtain ⟨j, ej⟩ := List.getElem?_of_mem ha
          obtain ⟨_, _, e2⟩ := g.rw'.each _ _ ej
          rw [z, nL] at e2
          cases e2
        have LO : O ≠ L := ne_of_none g.hO nL
        refine ⟨_, _, vs ++ [.ref p4], rs' ++ [rotP row k], rfl, upd_same, Paired.snoc (Paired.mono (fun _ _ x => x.tk ((Same.tk sA).trans tk)) hv3) ⟨p4, rfl, tk _ _ h4⟩, by simp [li], fun j row' e => ?_, ⟨by rw [upd_ne LO]; exact g7.hO, g7.rw'.ext fun a ha _ h => by rw [upd_ne (LA a ha)]; exact h, g.Od, g.aA, g7.dk_ne Ld⟩, (((K2.trans K3).trans (Same.kp sA)).mut nL)⟩
        by_cases hj : j < rs'.length
        · rw [List.getElem?_append_left hj] at e
          exact each j row' e
        · have hj2 := (List.getElem?_eq_some_iff.mp e).1
          rw [List.length_append, List.length_singleton] at hj2
          rw [List.getElem?_append_right (by omega), show j - rs'.length = 0 by omega] at e
          cases e
          rw [show j = i by omega]
          exact ⟨row, k, er, by rw [List.length_map] at kl; exact kl, rfl⟩
    · rintro σ' H2 ⟨y3, y4, vs, rs', rfl, hL, hv, li, each, g2, K2⟩
      rw [List.length_map, lA] at li
      refine ⟨.ref L, rfl, L, _, rfl, .inl ⟨SqL.of hL, fun a na => ?_⟩⟩
      have sa := same_new (o := .tup vs) na
      exact q a vs rs' _ upd_same (Paired.mono (fun _ _ x => x.tk (Same.tk sa)) hv) (od.perm li fun j row' e => by
        obtain ⟨row, k, e1, _, e2⟩ := each j row' e
        exact ⟨row, e1, e2 ▸ rotP_perm row k⟩) li ⟨li, fun i row row' e1 e2 => by
        obtain ⟨row0, k, f1, f2, f3⟩ := each i row' e2
        rw [e1] at f1
        cases f1
        exact ⟨k, f2, f3⟩⟩ (g2.same sa).dk (K2.trans (Same.kp sa))
end
/-! ### ties side by side between two places -/
def sideE (m : Nat) : List (Int × Int) := (List.range m).map fun k => (((k % 2 : Nat) : Int), ((1 - k % 2 : Nat) : Int))
def sideR (m : Nat) : List (List Int) := [(List.range m).map Int.ofNat, ((List.range m).map Int.ofNat).reverse]
theorem sideE_at {m k : Nat} (h : k < m) : (sideE m)[k]? = some (((k % 2 : Nat) : Int), ((1 - k % 2 : Nat) : Int)) := by
  unfold sideE
  rw [List.getElem?_map, List.getElem?_range h]
  rfl
theorem sideE_len (m : Nat) : (sideE m).length = m := by unfold sideE; rw [List.length_map, List.length_range]
theorem rngI_nodup (m : Nat) : ((List.range m).map Int.ofNat).Nodup := by
  rw [List.Nodup, List.pairwise_map]
  exact List.nodup_range.imp fun h e => h (Int.ofNat.inj e)
theorem mem_rngI {m : Nat} {x : Int} : x ∈ (List.range m).map Int.ofNat ↔ ∃ k : Nat, x = (k : Int) ∧ k < m := by
  rw [List.mem_map]
  exact ⟨fun ⟨k, hk, e⟩ => ⟨k, e.symm, List.mem_range.mp hk⟩, fun ⟨k, e, hk⟩ => ⟨k, List.mem_range.mpr hk, e.symm⟩⟩
theorem side_ord (m : Nat) : Ord (sideR m) (sideE m) := by
  refine ⟨fun e he => ?_, fun row hr => ?_, fun p row er x => ?_⟩
  · obtain ⟨k, hk, rfl⟩ := List.mem_map.mp he
    show (0 ≤ ((k % 2 : Nat) : Int) ∧ ((k % 2 : Nat) : Int) < 2) ∧ (0 ≤ ((1 - k % 2 : Nat) : Int) ∧ ((1 - k % 2 : Nat) : Int) < 2) ∧ ((k % 2 : Nat) : Int) ≠ ((1 - k % 2 : Nat) : Int)
    omega
  · unfold sideR at hr
    simp only [List.mem_cons, List.not_mem_nil, or_false] at hr
    rcases hr with rfl | rfl
    · exact rngI_nodup m
    · exact (List.reverse_perm _).nodup_iff.mpr (rngI_nodup m)
  · have hx : x ∈ row ↔ ∃ k : Nat, x = (k : Int) ∧ k < m := by
      have hr := List.mem_of_getElem? er
      unfold sideR at hr
      simp only [List.mem_cons, List.not_mem_nil, or_false] at hr
      rcases hr with rfl | rfl
      · exact mem_rngI
      · rw [List.mem_reverse]
        exact mem_rngI
    have hp : p = 0 ∨ p = 1 := by
      have := (List.getElem?_eq_some_iff.mp er).1
      unfold sideR at this
      simp at this
      omega
    rw [hx]
    constructor
    · rintro ⟨k, e, hk⟩
      refine ⟨k, _, e, sideE_at hk, ?_⟩
      show ((k % 2 : Nat) : Int) = _ ∨ ((1 - k % 2 : Nat) : Int) = _
      omega
    · rintro ⟨k, e, ex, ek, _⟩
      have := (List.getElem?_eq_some_iff.mp ek).1
      rw [sideE_len] at this
      exact ⟨k, ex, this⟩
theorem side_oth {m k : Nat} (h : k < m) (p : Int) : othE (sideE m) (k : Int) p = 1 - p := by
  unfold othE
  have e := sideE_at h
  rw [List.getD_eq_getElem?_getD, Int.toNat_natCast, e]
  show ((k % 2 : Nat) : Int) + ((1 - k % 2 : Nat) : Int) - p = 1 - p
  omega
def sideF (m k : Nat) : List Dt := [((k : Int), 0), ((((k + m - 1) % m : Nat) : Int), 1)]
def sideFs (m : Nat) : List (List Dt) := (List.range m).map (sideF m)
theorem side_nx0 {m k : Nat} (h : k < m) : NxR (sideE m) (sideR m) ((k : Int), 0) ((((k + m - 1) % m : Nat) : Int), 1) := by
  refine ⟨1, _, rfl, rfl, by rw [side_oth h]; rfl, m - 1 - k, ?_, ?_, ?_⟩
  · rw [List.length_reverse, List.length_map, List.length_range]
    omega
  · rw [List.getElem?_reverse (by rw [List.length_map, List.length_range]; omega), List.length_map, List.length_range, List.getElem?_map, List.getElem?_range (by omega)]
    show some (Int.ofNat (m - 1 - (m - 1 - k))) = some (k : Int)
    rw [show m - 1 - (m - 1 - k) = k by omega]
    rfl
  · rw [List.length_reverse, List.length_map, List.length_range]
    by_cases hk : k = 0
    · subst hk
      rw [show (m - 1 - 0 + 1) % m = 0 by rw [show m - 1 - 0 + 1 = m by omega, Nat.mod_self], show (0 + m - 1) % m = m - 1 by rw [Nat.zero_add]; exact Nat.mod_eq_of_lt (by omega)]
      rw [List.getElem?_reverse (by rw [List.length_map, List.length_range]; omega), List.length_map, List.length_range, List.getElem?_map, List.getElem?_range (by omega)]
      rfl
    · rw [Nat.mod_eq_of_lt (show m - 1 - k + 1 < m by omega), show (k + m - 1) % m = k - 1 by rw [show k + m - 1 = k - 1 + m by omega, Nat.add_mod_right]; exact Nat.mod_eq_of_lt (by omega)]
      rw [List.getElem?_reverse (by rw [List.length_map, List.length_range]; omega), List.length_map, List.length_range, List.getElem?_map, List.getElem?_range (by omega)]
      show some (Int.ofNat (m - 1 - (m - 1 - k + 1))) = some (((k - 1 : Nat)) : Int)
      rw [show m - 1 - (m - 1 - k + 1) = k - 1 by omega]
      rfl
theorem side_nx1 {m k : Nat} (h : k < m) : NxR (sideE m) (sideR m) ((((k + m - 1) % m : Nat) : Int), 1) ((k : Int), 0) := by
  have hm : 0 < m := by omega
  have hl : (k + m - 1) % m < m := Nat.mod_lt _ hm
  refine ⟨0, _, rfl, rfl, by rw [side_oth hl]; rfl, (k + m - 1) % m, ?_, ?_, ?_⟩
  · rw [List.length_map, List.length_range]
    exact hl
  · rw [List.getElem?_map, List.getElem?_range hl]
    rfl
  · rw [List.length_map, List.length_range]
    have e : ((k + m - 1) % m + 1) % m = k := by
      by_cases hk : k = 0
      · subst hk
        rw [show (0 + m - 1) % m = m - 1 by rw [Nat.zero_add]; exact Nat.mod_eq_of_lt (by omega), show m - 1 + 1 = m by omega, Nat.mod_self]
      · rw [show (k + m - 1) % m = k - 1 by rw [show k + m - 1 = k - 1 + m by omega, Nat.add_mod_right]; exact Nat.mod_eq_of_lt (by omega), show k - 1 + 1 = k by omega, Nat.mod_eq_of_lt h]
    rw [e, List.getElem?_map, List.getElem?_range h]
    rfl
theorem side_pred {m k j : Nat} (hk : k < m) (hj : j < m) (e : (k + m - 1) % m = (j + m - 1) % m) : k = j := by
  have f : ∀ x, x < m → ((x + m - 1) % m + 1) % m = x := fun x hx => by
    by_cases h0 : x = 0
    · subst h0
      rw [show (0 + m - 1) % m = m - 1 by rw [Nat.zero_add]; exact Nat.mod_eq_of_lt (by omega), show m - 1 + 1 = m by omega, Nat.mod_self]
    · rw [show (x + m - 1) % m = x - 1 by rw [show x + m - 1 = x - 1 + m by omega, Nat.add_mod_right]; exact Nat.mod_eq_of_lt (by omega), show x - 1 + 1 = x by omega, Nat.mod_eq_of_lt hx]
  rw [← f k hk, ← f j hj, e]
theorem side_dec (m : Nat) : Dec (NxR (sideE m) (sideR m)) (DtE (sideE m)) (sideFs m) := by
  refine ⟨fun f hf => ?_, fun f hf => ?_, ?_, fun x => ?_⟩
  · obtain ⟨k, hk, rfl⟩ := List.mem_map.mp hf
    have hk := List.mem_range.mp hk
    exact ⟨side_nx0 hk, side_nx1 hk⟩
  · obtain ⟨k, hk, rfl⟩ := List.mem_map.mp hf
    unfold sideF
    rw [List.nodup_cons]
    refine ⟨fun h => ?_, by simp⟩
    have := congrArg Prod.snd (List.mem_singleton.mp h)
    cases this
  · unfold sideFs
    rw [List.pairwise_map]
    have pw := List.nodup_range (n := m)
    refine (List.Pairwise.imp_of_mem (fun {a b} ha hb h x hx hy => ?_) pw)
    have ha := List.mem_range.mp ha
    have hb := List.mem_range.mp hb
    unfold sideF at hx hy
    simp only [List.mem_cons, List.not_mem_nil, or_false] at hx hy
    rcases hx with rfl | rfl
    · rcases hy with z | z
      · exact h (Int.ofNat.inj (congrArg Prod.fst z))
      · cases congrArg Prod.snd z
    · rcases hy with z | z
      · cases congrArg Prod.snd z
      · exact h (side_pred ha hb (Int.ofNat.inj (congrArg Prod.fst z)))
  · constructor
    · rintro ⟨k, e, ek, e1, e2⟩
      have kl := (List.getElem?_eq_some_iff.mp ek).1
      rw [sideE_len] at kl
      rw [sideE_at kl] at ek
      cases ek
      have h2 : x.2 = 0 ∨ x.2 = 1 := by
        rcases e2 with e2 | e2
        · rw [e2]
          show ((k % 2 : Nat) : Int) = 0 ∨ ((k % 2 : Nat) : Int) = 1
          omega
        · rw [e2]
          show ((1 - k % 2 : Nat) : Int) = 0 ∨ ((1 - k % 2 : Nat) : Int) = 1
          omega
      rcases h2 with h2 | h2
      · exact ⟨sideF m k, List.mem_map.mpr ⟨k, List.mem_range.mpr kl, rfl⟩, by unfold sideF; rw [show x = ((k : Int), 0) from Prod.ext e1 h2]; simp⟩
      · refine ⟨sideF m ((k + 1) % m), List.mem_map.mpr ⟨_, List.mem_range.mpr (Nat.mod_lt _ (by omega)), rfl⟩, ?_⟩
        unfold sideF
        rw [show x = ((k : Int), 1) from Prod.ext e1 h2]
        have : ((k + 1) % m + m - 1) % m = k := by
          by_cases hk : k + 1 = m
          · rw [hk, Nat.mod_self, Nat.zero_add]
            rw [Nat.mod_eq_of_lt (by omega)]
            omega
          · rw [Nat.mod_eq_of_lt (show k + 1 < m by omega), show k + 1 + m - 1 = k + m by omega, Nat.add_mod_right, Nat.mod_eq_of_lt kl]
        rw [this]
        simp
    · rintro ⟨f, hf, hx⟩
      obtain ⟨k, hk, rfl⟩ := List.mem_map.mp hf
      have hk := List.mem_range.mp hk
      unfold sideF at hx
      simp only [List.mem_cons, List.not_mem_nil, or_false] at hx
      rcases hx with rfl | rfl
      · refine ⟨k, _, sideE_at hk, rfl, ?_⟩
        show (0 : Int) = ((k % 2 : Nat) : Int) ∨ (0 : Int) = ((1 - k % 2 : Nat) : Int)
        omega
      · refine ⟨(k + m - 1) % m, _, sideE_at (Nat.mod_lt _ (by omega)), rfl, ?_⟩
        show (1 : Int) = (((k + m - 1) % m % 2 : Nat) : Int) ∨ (1 : Int) = ((1 - (k + m - 1) % m % 2 : Nat) : Int)
        omega
/-- such a web is flat -/
theorem side_flat {m : Nat} {ts : List Tie} (ok : WebOk 2 ts) (tw : TwE ts (sideE m)) : AnsF ts 2 (sideE m) (sideR m) true := by
  have od := side_ord m
  intro S hS
  have lm := tw.1
  rw [sideE_len] at lm
  have lab := rounds_tie (n := 2) ok tw
  refine ⟨fun _ => ?_, fun _ => rfl⟩
  refine (FlatL.of fun c => Dec.fc (NxR.fn od) (od.nxLab lab) (side_dec m) (facesG_decE od hS) c).mp ?_
  intro t ht
  have hpos : 0 < m := by
    rw [← lm]
    exact List.length_pos_of_mem ht
  have l01 : rounds ts 2 0 = rounds ts 2 1 := by
    have e0 : ((0 : Int), (1 : Int)) ∈ sideE m := List.mem_of_getElem? (sideE_at hpos)
    exact lab _ e0
  have all : ∀ p : Int, 0 ≤ p ∧ p < 2 → rounds ts 2 p = rounds ts 2 0 := fun p hp => by
    have : p = 0 ∨ p = 1 := by omega
    rcases this with rfl | rfl
    · rfl
    · exact l01.symm
  have o := ok.ok t ht
  have lt := all t.one ⟨o.1, o.2.1⟩
  have e1 : plC (rounds ts 2) 2 (rounds ts 2 t.one) = 2 := by
    unfold plC
    rw [show List.range 2 = [0, 1] from rfl, List.countP_cons_of_pos (by rw [lt]; exact decide_eq_true rfl), List.countP_cons_of_pos (by rw [lt]; exact decide_eq_true l01.symm)]
    rfl
  have e2 : fcC (rounds ts 2) (sideFs m) (rounds ts 2 t.one) = m := by
    unfold fcC
    rw [List.countP_eq_length.mpr]
    · unfold sideFs
      rw [List.length_map, List.length_range]
    · intro f hf
      obtain ⟨k, hk, rfl⟩ := List.mem_map.mp hf
      refine decide_eq_true ?_
      show some (rounds ts 2 0) = _
      rw [lt]
  have e3 : tcT (rounds ts 2) ts (rounds ts 2 t.one) = m := by
    unfold tcT
    rw [List.countP_eq_length.mpr]
    · exact lm
    · intro u hu
      have ou := ok.ok u hu
      refine decide_eq_true ?_
      rw [lt, all u.one ⟨ou.1, ou.2.1⟩]
  rw [e1, e2, e3]
  omega
def spSide : Sp := fun vs H Q _ => ∃ (d : Addr), vs = [.ref d] ∧ FDk H d ∧
  ∀ r wv o oa ob (m : Nat) ts H', H' r = some (.tup [wv, .ref o]) → 2 ≤ m → m ≤ 21 → WebAt H' wv 2 ts → TwE ts (sideE m) → H' o = some (.tup [.ref oa, .ref ob]) → H' oa = some (.tup (((List.range m).map Int.ofNat).map V.int)) → H' ob = some (.tup ((((List.range m).map Int.ofNat).reverse).map V.int)) → FDk H' d → Kp d d H H' → Q (.ref r) H'
theorem rgV_range (m : Nat) : rgV 0 (m : Int) = ((List.range m).map Int.ofNat).map V.int := by
  refine List.ext_getElem? fun i => ?_
  rw [List.map_map, List.getElem?_map]
  unfold rgV
  rw [List.getElem?_map]
  rw [show ((m : Int) - 0).toNat = m by omega]
  cases h : (List.range m)[i]? with
  | none => rfl
  | some x => 
    show some (V.int (0 + (x : Int))) = some (V.int (x : Int))
    rw [Int.zero_add]
section
variable {P : Program} {w : World} {K : PySem.W.Frag} {mg : Str → Option Value} {base : Heap}
set_option maxHeartbeats 4000000 in
theorem ok_l_side_by_side {f : Addr} {fd : FuncData} (F : Fun K "_law_side_by_side" "_law_side_by_side" s_l_side_by_side f fd) (M : Free mg) (m_min : mg "min" = none) (D_l_take : Df P w K mg base 2 "_law_take" ["_law_deck_here", "_law_most"] spTake) : FnOk P w K mg base CX0 3 f fd ["_law_deck_here"] spSide := by
  obtain ⟨f_l_take, fd_l_take, G_l_take, g_l_take, k_l_take, b_l_take⟩ := D_l_take
  refine F.ok sc_l_side_by_side (fun vs H Q E h => ?_) (fun cdv A outer s H vs Q E hr h => ?_)
  · obtain ⟨d, rfl, _⟩ := h
    rfl
  · obtain ⟨d, rfl, D, q⟩ := h
    refine ⟨_, (pss_cons (ps_set (i := 1) sc_l_side_by_side.nd rfl (.inl rfl) (pe_ix ix_list (pe_lst (pa_cons (pe_op op_add pe_int (pe_call G_l_take (hr.mono (by decide)) (by rfl) g_l_take k_l_take b_l_take .nil pass0 (pa_cons (pv 0) (pa_cons pe_int pa_nil)))) (pa_cons (pe_op op_add pe_int (pe_call G_l_take (hr.mono (by decide)) (by rfl) g_l_take k_l_take b_l_take .nil pass0 (pa_cons (pv 0) (pa_cons pe_int pa_nil)))) pa_nil))) (pe_callTy call_int1 (by rfl) M.int (by decide +kernel) (pa_cons (pe_cmpR op_eq (pe_call G_l_take (hr.mono (by decide)) (by rfl) g_l_take k_l_take b_l_take .nil pass0 (pa_cons (pv 0) (pa_cons pe_int pa_nil))) pe_int (nomark _)) pa_nil)) (fun _ _ => rfl)))
      (pss_cons (ps_set (i := 2) sc_l_side_by_side.nd rfl (.inr rfl) (pe_ix ix_list (pe_lst (pa_cons pe_int (pa_cons pe_int (pa_cons pe_int (pa_cons pe_int (pa_cons pe_int (pa_cons pe_int (pa_cons pe_int (pa_cons pe_int pa_nil))))))))) (pe_call G_l_take (hr.mono (by decide)) (by rfl) g_l_take k_l_take b_l_take .nil pass0 (pa_cons (pv 0) (pa_cons pe_int pa_nil))) (fun _ _ => rfl)))
      (pss_cons (ps_set (i := 3) sc_l_side_by_side.nd rfl (.inr rfl) (pe_lst (pa_cons pe_str (pa_cons pe_str pa_nil))))
      (pss_cons (ps_setLc (i := 4) (own := [("_law_k", 5)]) (g := (gName 5)) (tt := tYes) rfl sc_l_side_by_side.nd rfl rfl (sw_true rfl rfl rfl (by decide +kernel)) (pi_range1 (by rfl) M.range (pa_cons (pv 1) pa_nil)) (blkOk_by (N := N_l_side_by_side) (sc := defScope s_l_side_by_side) (own := [("_law_k", 5)]) (by decide +kernel)) (fun _ _ _ _ _ => (pg_name (i := 5) sc_l_side_by_side.nd rfl (.inl rfl))) (fun _ _ _ _ _ => pts_nil) (fun _ _ _ _ _ => (pe_tup (pa_cons (pe_op op_mod (pv 5) pe_int) (pa_cons (pe_op op_sub pe_int (pe_op op_mod (pv 5) pe_int)) (pa_cons (pe_ix (r := rIxL K) ix_list (pv 3) (pe_op op_mod (pe_callB (call_min2 rfl) (by rfl) m_min (by decide +kernel) (pa_cons (pv 5) (pa_cons (pv 2) pa_nil))) pe_int) (fun _ _ => rfl)) pa_nil))))))
      (pss_one (ps_ret (pe_tup (pa_cons (pe_tup (pa_cons pe_int (pa_cons (pe_callTy call_tuple_of (by rfl) M.tuple (by decide +kernel) (pa_cons (pv 4) pa_nil)) pa_nil))) (pa_cons (pe_tup (pa_cons (pe_tupRg rfl (by rfl) M.tuple (prg_1 (by rfl) M.range (pv 1))) (pa_cons (pe_revT (pe_tupRg rfl (by rfl) M.tuple (prg_1 (by rfl) M.range (pv 1)))) pa_nil))) pa_nil))))))))), ?_⟩
    refine ⟨.ref d, rfl, d, 8, rfl, D, by decide, by decide, fun a H1 a0 a1 D1 K1 => ⟨_, _, rfl, rfl, .ref d, rfl, d, 12, rfl, D1, by decide, by decide, fun b H2 b0 b1 D2 K2 => ⟨_, _, rfl, rfl, by show 2 ≤ sizeLine; decide, fun p np => ?_⟩⟩⟩
    have sp := same_new (o := .lst [V.int (2 + a), V.int (10 + b)]) np
    have hp := upd_same (H := H2) (a := p) (o := .lst [V.int (2 + a), V.int (10 + b)])
    have D3 := D2.same sp
    have K3 := (K1.trans K2).trans (Same.kp sp)
    generalize upd H2 p (.lst [V.int (2 + a), V.int (10 + b)]) = H3 at sp hp D3 K3
    refine ⟨.ref d, rfl, d, 4, rfl, D3, by decide, by decide, fun c H4 c0 c1 D4 K4 => ⟨rfl, .inr ⟨_, rfl, ?_⟩⟩⟩
    generalize decide (V.int c = V.int 1) = gr
    have pd : p ≠ d := D2.ned np
    obtain ⟨m, em, m0, m1⟩ : ∃ m : Nat, atI [V.int (2 + a), V.int (10 + b)] (if gr = true then 1 else 0) = some (.int (m : Nat)) ∧ 2 ≤ m ∧ m ≤ 21 := by
      cases gr
      · exact ⟨(2 + a).toNat, by rw [show (((2 + a).toNat : Nat) : Int) = 2 + a by omega]; rfl, by omega, by omega⟩
      · exact ⟨(10 + b).toNat, by rw [show (((10 + b).toNat : Nat) : Int) = 10 + b by omega]; rfl, by omega, by omega⟩
    refine ⟨p, _, _, .int (m : Nat), rfl, rfl, SqL.of (K4 _ _ pd pd hp), em, ?_⟩
    have K4 := K3.trans K4
    refine ⟨by show 8 ≤ sizeLine; decide, fun p2 n2 => ?_⟩
    have s5 := same_new (o := .lst [V.int 0, V.int 2, V.int 4, V.int 6, V.int 7, V.int 8, V.int 10, V.int 12]) n2
    have h5 := upd_same (H := H4) (a := p2) (o := .lst [V.int 0, V.int 2, V.int 4, V.int 6, V.int 7, V.int 8, V.int 10, V.int 12])
    have D5 := D4.same s5
    have K5 := K4.trans (Same.kp s5)
    have p2d : p2 ≠ d := D4.ned n2
    generalize upd H4 p2 (.lst [V.int 0, V.int 2, V.int 4, V.int 6, V.int 7, V.int 8, V.int 10, V.int 12]) = H5 at s5 h5 D5 K5
    refine ⟨.ref d, rfl, d, 8, rfl, D5, by decide, by decide, fun u H6 u0 u1 D6 K6 => ?_⟩
    obtain ⟨un, eu, un0⟩ : ∃ un : Int, atI [V.int 0, V.int 2, V.int 4, V.int 6, V.int 7, V.int 8, V.int 10, V.int 12] u = some (.int un) ∧ 0 ≤ un := by
      have : u = 0 ∨ u = 1 ∨ u = 2 ∨ u = 3 ∨ u = 4 ∨ u = 5 ∨ u = 6 ∨ u = 7 := by omega
      rcases this with e | e | e | e | e | e | e | e <;> subst e <;> exact ⟨_, rfl, by decide⟩
    refine ⟨p2, _, u, .int un, rfl, rfl, SqL.of (K6 _ _ p2d p2d h5), eu, ?_⟩
    have K6 := K5.trans K6
    refine ⟨by show 2 ≤ sizeLine; decide, fun kd nk => ?_⟩
    have s7 := same_new (o := .lst [.str "friend", .str "foe"]) nk
    have h7 := upd_same (H := H6) (a := kd) (o := .lst [.str "friend", .str "foe"])
    have D7 := D6.same s7
    have K7 := K6.trans (Same.kp s7)
    generalize upd H6 kd (.lst [.str "friend", .str "foe"]) = H7 at s7 h7 D7 K7
    refine ⟨.int (m : Nat), rfl, m, rfl, by omega, by omega, fun L nL => ?_⟩
    have sL := same_new (o := .lst []) nL
    rw [Int.toNat_natCast]
    refine it_gen (walk_range (lo := 0) (n := m)) (fun j H' => ∃ (vs : List V) (ts : List Tie), H' L = some (.lst vs) ∧ Paired (TieV H') vs ts ∧ ts.length = j ∧ (∀ (k : Nat) t, ts[k]? = some t → t.one = ((k % 2 : Nat) : Int) ∧ t.other = ((1 - k % 2 : Nat) : Int)) ∧ Same H7 H') ⟨[], [], upd_same, .nil, rfl, fun k t e => by simp at e, sL⟩ (fun _ _ _ _ => trivial) ?_ ?_
    · rintro j x H8 H9 hj ⟨vs, ts, hL, hv, lt, each, s8⟩ ⟨rfl, rfl⟩
      have lv : vs.length = j := by rw [Paired.length hv, lt]
      have two : (0 : Int) < 2 := by decide
      refine ⟨rfl, .int (0 + (j : Nat)), rfl, _, _, rfl, rfl, two, .int (0 + (j : Nat)), rfl, _, _, rfl, rfl, two, _, _, rfl, rfl, .ref kd, rfl, .int (0 + (j : Nat)), rfl, .int un, rfl, _, _, rfl, _, _, rfl, rfl, two, ?_⟩
      have kd8 := s8 _ _ h7
      obtain ⟨fo, ef⟩ : ∃ fo : Bool, atI [V.str "friend", V.str "foe"] ((if un < 0 + (j : Int) then un else 0 + (j : Int)) % 2) = some (.str (kindS fo)) := by
        have h : (if un < 0 + (j : Int) then un else 0 + (j : Int)) % 2 = 0 ∨ (if un < 0 + (j : Int) then un else 0 + (j : Int)) % 2 = 1 := by omega
        rcases h with h | h <;> rw [h]
        · exact ⟨false, rfl⟩
        · exact ⟨true, rfl⟩
      refine ⟨kd, _, _, .str (kindS fo), rfl, rfl, SqL.of kd8, ef, by show 3 ≤ sizeLine; decide, fun c nc => ?_⟩
      have e1 : (0 + (j : Int)) % 2 = ((j % 2 : Nat) : Int) := by omega
      have e2 : 1 - (0 + (j : Int)) % 2 = ((1 - j % 2 : Nat) : Int) := by omega
      have hc : (upd H9 c (.tup [.int ((0 + (j : Int)) % 2), .int (1 - (0 + (j : Int)) % 2), .str (kindS fo)])) c = some (.tup [.int ((j % 2 : Nat) : Int), .int ((1 - j % 2 : Nat) : Int), .str (kindS fo)]) := by rw [upd_same, e2, e1]
      have sc := same_new (o := .tup [.int ((0 + (j : Int)) % 2), .int (1 - (0 + (j : Int)) % 2), .str (kindS fo)]) nc
      have hL9 := sc _ _ hL
      have hv9 : Paired (TieV (upd H9 c (.tup [.int ((0 + (j : Int)) % 2), .int (1 - (0 + (j : Int)) % 2), .str (kindS fo)]))) vs ts := ties_tk (Same.tk sc) hv
      have s9 := s8.trans sc
      generalize upd H9 c (.tup [.int ((0 + (j : Int)) % 2), .int (1 - (0 + (j : Int)) % 2), .str (kindS fo)]) = H10 at sc hc hL9 hv9 s9
      have tk := tk_lst (ys := vs ++ [.ref c]) hL9
      refine ⟨vs, hL9, small1000 (by omega), vs ++ [.ref c], ts ++ [⟨((j % 2 : Nat) : Int), ((1 - j % 2 : Nat) : Int), fo⟩], upd_same, Paired.snoc (ties_tk tk hv9) ⟨c, rfl, tk _ _ hc⟩, by rw [List.length_append, lt]; rfl, fun k t e => ?_, Same.mut s9 nL⟩
      by_cases hk : k < ts.length
      · rw [List.getElem?_append_left hk] at e
        exact each k t e
      · have := (List.getElem?_eq_some_iff.mp e).1
        rw [List.length_append, List.length_singleton] at this
        rw [List.getElem?_append_right (by omega), show k - ts.length = 0 by omega] at e
        cases e
        rw [show k = j by omega]
        exact ⟨rfl, rfl⟩
    · rintro H8 ⟨vs, ts, hL, hv, lt, each, s8⟩
      refine ⟨.ref L, rfl, L, vs, rfl, .inl ⟨SqL.of hL, fun e ne => ⟨by show 2 ≤ sizeLine; decide, fun wa nw => ?_⟩⟩⟩
      have s9 := (same_new (o := .tup vs) ne).trans (same_new (o := .tup [.int 2, .ref e]) nw)
      have W9 : WebAt (upd (upd H8 e (.tup vs)) wa (.tup [.int 2, .ref e])) (.ref wa) 2 ts := ⟨wa, e, vs, rfl, upd_same, same_new nw _ _ upd_same, ties_tk (Same.tk s9) hv⟩
      have D9 := (D7.same s8).same s9
      have K9 := K7.trans (Same.kp (s8.trans s9))
      generalize upd (upd H8 e (.tup vs)) wa (.tup [.int 2, .ref e]) = H9 at W9 D9 K9
      have rok : RgOk 0 (m : Int) := RgOk.of_le (by decide) (by omega) (by decide) (by omega)
      refine ⟨.int (m : Nat), rfl, m, rfl, rok, fun qa na => ?_⟩
      have sa := same_new (o := .tup (rgV 0 (m : Int))) na
      have ha := upd_same (H := H9) (a := qa) (o := .tup (rgV 0 (m : Int)))
      generalize upd H9 qa (.tup (rgV 0 (m : Int))) = H10 at sa ha
      refine ⟨.int (m : Nat), rfl, m, rfl, rok, fun qb nb => ?_⟩
      have sb := same_new (o := .tup (rgV 0 (m : Int))) nb
      have hb := upd_same (H := H10) (a := qb) (o := .tup (rgV 0 (m : Int)))
      generalize upd H10 qb (.tup (rgV 0 (m : Int))) = H11 at sb hb
      refine ⟨qb, _, rfl, SqT.of hb, fun qc nc => ?_⟩
      have sc := same_new (o := .tup (rgV 0 (m : Int)).reverse) nc
      have hc := upd_same (H := H11) (a := qc) (o := .tup (rgV 0 (m : Int)).reverse)
      generalize upd H11 qc (.tup (rgV 0 (m : Int)).reverse) = H12 at sc hc
      refine ⟨by show 2 ≤ sizeLine; decide, fun o no => ⟨by show 2 ≤ sizeLine; decide, fun r nr => ?_⟩⟩
      have so := same_new (o := .tup [.ref qa, .ref qc]) no
      have ho := upd_same (H := H12) (a := o) (o := .tup [.ref qa, .ref qc])
      generalize upd H12 o (.tup [.ref qa, .ref qc]) = H13 at so ho nr
      have sr := same_new (o := .tup [.ref wa, .ref o]) nr
      have s913 := ((sa.trans sb).trans sc).trans (so.trans sr)
      have ha' := (((sb.trans sc).trans so).trans sr) _ _ ha
      have hc' := (so.trans sr) _ _ hc
      rw [rgV_range] at ha' hc'
      refine q r (.ref wa) o qa qc m ts _ upd_same m0 m1 (W9.tk (Same.tk s913)) ⟨by rw [sideE_len, lt], fun k t e et ee => ?_⟩ (sr _ _ ho) ha' (by rw [hc', List.map_reverse]) (D9.same s913) (K9.trans (Same.kp s913))
      have kl := (List.getElem?_eq_some_iff.mp ee).1
      rw [sideE_len] at kl
      rw [sideE_at kl] at ee
      cases ee
      exact .inl (each k t et)
end
def rRep1 (K : PySem.W.Frag) : R2 := fun x y H Q => ∃ l xs, x = .ref l ∧ y = .int 1 ∧ SqT K H l xs ∧ Q (.ref l) H
theorem op_rep1 {X : Cx} : OpR X (binaryOp .Mult) (rRep1 X.K) := by
  intro pins s σ H x y v u Q I rx ry h
  obtain ⟨l, xs, rfl, rfl, hT, q⟩ := h
  cases rx
  obtain ⟨t, rfl⟩ := ry
  obtain ⟨its, r, ⟨⟨cls, dd, data, sl⟩, ho, hc, n, hd⟩, hs⟩ := I.tuple hT
  simp only at hc hd
  subst hc hd
  refine wpAny_binaryOp_repeat_ref (T := "tuple") (U := "int") (by decide) ⟨_, ho, rfl⟩ (fun s' => typeIs_int s' 1 t) noFill_tuple_mul F.fills_int_mul F.slot_int_rmul repeat_tuple F.slot_int_index.lookup
    (call_meets F.slot_int_rmul (typeIs_int s 1 t) F.entry_int_rmul (F.args_int_rmul_2 _ _) (int_rmul_tuple 1 t l its.toArray n dd sl)
      ⟨ho, rfl, ⟨_, ho, rfl⟩, call_meets F.slot_tuple_mul ⟨_, ho, rfl⟩ F.entry_tuple_mul (F.args_tuple_mul_2 _ _) (tuple_mul1 l its.toArray n dd sl t) ⟨ho, ?_⟩⟩)
  exact ⟨.ref l, H, I, rfl, q⟩
/-- one or more times: the same tuple, or a new one -/
def rRepA (K : PySem.W.Frag) : R2 := fun x y H Q => ∃ l k xs, x = .ref l ∧ y = .int k ∧ SqT K H l xs ∧ xs ≠ [] ∧ 1 ≤ k ∧ k ≤ 1000 ∧ xs.length ≤ 1000 ∧ (k = 1 → Q (.ref l) H) ∧ ∀ p, H p = none → Q (.ref p) (upd H p (.tup (List.replicate k.toNat xs).flatten))
theorem op_repA {X : Cx} : OpR X (binaryOp .Mult) (rRepA X.K) := by
  intro pins s σ H x y v u Q I rx ry h
  obtain ⟨l, k, xs, ex, ey, hT, hne, h1, h2, hz, q1, q2⟩ := h
  by_cases e : k = 1
  · exact op_rep1 pins s σ H x y v u Q I rx ry ⟨l, xs, ex, by rw [ey, e], hT, q1 e⟩
  · exact op_repT pins s σ H x y v u Q I rx ry ⟨l, k, xs, ex, ey, hT, hne, by omega, h2, hz, q2⟩
/-! ### a tuple times nought -/
theorem tuple_mulZ (l : Addr) (items : Array Value) (n : Nat) (dd : Option Addr) (sl : Array (Option Value)) (u : Tok) (hi : items.isEmpty = false) :
    Meets (Builtin.«tuple.__mul__» ⟨[.ref l, .int 0 u], []⟩) (fun _ R s => s.heap.get? l = some { cls := .type "tuple", dict := dd, data := .seq items n, slots := sl } ∧
      R (.ok (.ret (Value.ref s.heap.objs.size))) { s with heap := s.heap.push { cls := Value.type "tuple", data := Data.seq #[] }, toks := s.toks }) :=
  .of_wp fun prog w A R s h => by
    obtain ⟨hp, g, d, tk, os⟩ := s
    obtain ⟨hl, h⟩ := h
    have f1 := AutoSeq1.idx_int
    have c1 : (items.isEmpty || (0 : Int) == 1) = false := by rw [hi]; rfl
    wp_walk using wpAny_loadPart' hl
    repeat (first
      | (refine wpAny_ite_false (decide_eq_false (by decide)) ?_; wp_walk using wpAny_loadPart' hl)
      | (refine wpAny_ite_false (decide_eq_false (by rw [c1]; exact Bool.false_ne_true)) ?_; wp_walk using wpAny_loadPart' hl)
      | (refine wpAny_ite_true (decide_eq_true (by simp)) ?_; wp_walk using wpAny_loadPart' hl))
    exact ⟨_, rfl, h⟩
/-- nought times: a new empty tuple that is known to have no dictionary -/
def rRepN (K : PySem.W.Frag) : R2 := fun x y H Q => ∃ l k xs, x = .ref l ∧ y = .int k ∧ SqT K H l xs ∧ xs ≠ [] ∧ 0 ≤ k ∧ k ≤ 1000 ∧ xs.length ≤ 1000 ∧ (k = 1 → Q (.ref l) H) ∧ (k = 0 → ∀ p o, o.dict = none → H p = none → Q (.ref p) (upd H p (.frz o (.tup [])))) ∧ ∀ p, 1 ≤ k → H p = none → Q (.ref p) (upd H p (.tup (List.replicate k.toNat xs).flatten))
theorem op_repN {X : Cx} : OpR X (binaryOp .Mult) (rRepN X.K) := by
  intro pins s σ H x y v u Q I rx ry h
  obtain ⟨l, k, xs, ex, ey, hT, hne, h1, h2, hz, q1, q0, q2⟩ := h
  by_cases e : k = 0
  · subst e
    subst ex ey
    cases rx
    obtain ⟨t, rfl⟩ := ry
    obtain ⟨its, r, ⟨⟨cls, dd, data, sl⟩, ho, hc, n, hd⟩, hs⟩ := I.tuple hT
    simp only at hc hd
    subst hc hd
    have hle : its.length = xs.length := r.length.symm
    have hn : its ≠ [] := fun e => hne (by
      rw [e] at hle
      exact List.eq_nil_of_length_eq_zero hle.symm)
    have hi : its.toArray.isEmpty = false := by
      cases its with
      | nil => exact absurd rfl hn
      | cons a b => rfl
    refine wpAny_binaryOp_repeat_ref (T := "tuple") (U := "int") (by decide) ⟨_, ho, rfl⟩ (fun s' => typeIs_int s' 0 t) noFill_tuple_mul F.fills_int_mul F.slot_int_rmul repeat_tuple F.slot_int_index.lookup
      (call_meets F.slot_int_rmul (typeIs_int s 0 t) F.entry_int_rmul (F.args_int_rmul_2 _ _) (int_rmul_tuple 0 t l its.toArray n dd sl)
        ⟨ho, rfl, ⟨_, ho, rfl⟩, call_meets F.slot_tuple_mul ⟨_, ho, rfl⟩ F.entry_tuple_mul (F.args_tuple_mul_2 _ _) (tuple_mulZ l its.toArray n dd sl t hi) ⟨ho, ?_⟩⟩)
    have hf : H s.heap.objs.size = none := I.hok.fresh (Nat.le_refl _)
    refine ⟨.ref s.heap.objs.size, upd H s.heap.objs.size (.frz _ (.tup [])), I.laid (t' := s.toks) (o := .frz _ (.tup [])) (fun b ob q => Heap.get?_push_of_some _ q) (Nat.le_refl _) ⟨Heap.get?_push_size _ rfl, Nat.zero_le _, [], .nil, ⟨_, Heap.get?_push_size _ rfl, rfl, _, rfl⟩⟩, rfl, q0 rfl _ _ ?_ hf⟩
    rfl
  · exact op_repA pins s σ H x y v u Q I rx ry ⟨l, k, xs, ex, ey, hT, hne, by omega, h2, hz, q1, fun p => q2 p (by omega)⟩
/-! ### things that are no papers -/
theorem PapA.sc {H : Hp} {v : V} (k : Kn H v) (p : parts H v = none) : PapA H v := ⟨0, k, p⟩
theorem papA_list {H : Hp} : ∀ {xs : List V}, (∀ x ∈ xs, PapA H x) → ∃ d, ∀ x ∈ xs, PapV d H x
  | [], _ => ⟨0, fun x hx => by cases hx⟩
  | x :: xs, h => by
    obtain ⟨d, hd⟩ := papA_list (xs := xs) fun y hy => h y (List.mem_cons_of_mem _ hy)
    obtain ⟨e, he⟩ := h x List.mem_cons_self
    refine ⟨max d e, fun y hy => ?_⟩
    rcases List.mem_cons.mp hy with z | z
    · rw [z]
      exact he.mono (Nat.le_max_right _ _)
    · exact (hd y z).mono (Nat.le_max_left _ _)
theorem PapA.tup {H : Hp} {a : Addr} {xs : List V} (h : TupA H a xs) (e : ∀ x ∈ xs, PapA H x) (l : xs.length ≤ 1000) : PapA H (.ref a) := by
  obtain ⟨d, hd⟩ := papA_list e
  refine ⟨d + 1, .inr (.inl ⟨xs, h⟩), fun ys ey => ?_⟩
  rw [parts_of' h] at ey
  cases ey
  exact ⟨hd, l⟩
theorem PapA.lst {H : Hp} {a : Addr} {xs : List V} (h : H a = some (.lst xs)) : PapA H (.ref a) := .sc (.inl ⟨xs, h⟩) (by unfold parts; simp only [h])
theorem PapA.dct {H : Hp} {a : Addr} {o : HO} (h : H a = some o) (d : isDct o) : PapA H (.ref a) := .sc (.inr (.inr ⟨o, h, d⟩)) (by
  unfold parts
  cases o with
  | dK kvs => simp only [h]
  | dT kvs => simp only [h]
  | _ => exact d.elim)
theorem PapA.ints {H : Hp} {v : V} {c : List Int} (h : IntsA H v c) (l : c.length ≤ 1000) : PapA H v := by
  obtain ⟨a, rfl, h⟩ := h
  exact .tup h (fun x hx => by obtain ⟨z, _, rfl⟩ := List.mem_map.mp hx; exact .sc trivial rfl) (by rw [List.length_map]; exact l)
theorem KeyOk.no {H : Hp} {odd : List Int} {v : V} (h : ∀ l t, parts H v ≠ some [l, t]) : KeyOk H odd v := fun l t _ _ e => absurd e (h l t)
theorem KeyOk.non {H : Hp} {odd : List Int} {v l t : V} (e : parts H v = some [l, t]) (h : parts H t = none) : KeyOk H odd v := fun l' t' rows zs e1 e2 => by
  rw [e] at e1
  cases e1
  rw [h] at e2
  cases e2
theorem KeyOk.two {H : Hp} {odd : List Int} {v l : V} {a : Addr} {rows : List V} (e : parts H v = some [l, .ref a]) (h : NoD H a rows) (k : ∀ r ∈ rows, ∀ k z, parts H r = some [k, z] → ∃ b xs, k = .ref b ∧ H b = some (.tup xs)) : KeyOk H odd v := fun l' t' rows' zs e1 e2 e3 => by
  rw [e] at e1
  cases e1
  rw [parts_of' (.inr h)] at e2
  cases e2
  exact ⟨⟨a, rfl, h⟩, k⟩
/-- a thing to be judged -/
def Thg (H : Hp) (odd : List Int) (v : V) : Prop := PapA H v ∧ KeyOk H odd v
theorem Thg.same {H H' : Hp} {odd : List Int} {v : V} (h : Thg H odd v) (s : Same H H') : Thg H' odd v := ⟨h.1.stay (StayP.same s), h.2.same h.1 s⟩
theorem Thg.sc {H : Hp} {odd : List Int} {v : V} (k : Kn H v) (p : parts H v = none) : Thg H odd v := ⟨.sc k p, .no fun l t e => by rw [p] at e; cases e⟩
theorem Thg.lst {H : Hp} {odd : List Int} {a : Addr} {xs : List V} (h : H a = some (.lst xs)) : Thg H odd (.ref a) := .sc (.inl ⟨xs, h⟩) (by unfold parts; simp only [h])
theorem Thg.no2 {H : Hp} {odd : List Int} {a : Addr} {xs : List V} (h : TupA H a xs) (l : xs.length ≠ 2) (l2 : xs.length ≤ 1000) (e : ∀ x ∈ xs, PapA H x) : Thg H odd (.ref a) := ⟨.tup h e l2, .no fun p t z => by
  rw [parts_of' h] at z
  cases z
  exact l rfl⟩
/-- layers and a table that show nothing -/
structure PlainAt (H : Hp) (odd : List Int) (la ta : Addr) (ls rows : List V) : Prop where
  lay : TupA H la ls
  layN : odd = [] → NoD H la ls
  ll : ls.length = odd.length
  each : ∀ x ∈ ls, ∃ c : List Int, IntsA H x c ∧ c.length ≤ 1000
  tab : NoD H ta rows
  lr : rows.length ≤ 256
  row : ∀ r ∈ rows, ∃ (a b : Addr) (c : List Int), r = .ref a ∧ H a = some (.tup [.ref b, .int 0]) ∧ H b = some (.tup (c.map V.int)) ∧ c.length ≤ 8
theorem PlainAt.same {H H' : Hp} {odd : List Int} {la ta : Addr} {ls rows : List V} (h : PlainAt H odd la ta ls rows) (s : Same H H') : PlainAt H' odd la ta ls rows :=
  ⟨h.lay.same s, fun e => (h.layN e).same s, h.ll, fun x hx => let ⟨c, h1, h2⟩ := h.each x hx; ⟨c, h1.same s, h2⟩, h.tab.same s, h.lr, fun r hr => let ⟨a, b, c, h1, h2, h3, h4⟩ := h.row r hr; ⟨a, b, c, h1, s _ _ h2, s _ _ h3, h4⟩⟩
section
variable {H : Hp} {odd : List Int} {la ta : Addr} {ls rows : List V}
theorem PlainAt.papL (h : PlainAt H odd la ta ls rows) (l8 : odd.length ≤ 8) : PapA H (.ref la) := .tup h.lay (fun x hx => let ⟨_, h1, h2⟩ := h.each x hx; .ints h1 h2) (by have := h.ll; omega)
theorem PlainAt.papR (h : PlainAt H odd la ta ls rows) : ∀ r ∈ rows, PapA H r := fun r hr => by
  obtain ⟨a, b, c, rfl, h2, h3, h4⟩ := h.row r hr
  refine .tup (.inl h2) (fun x hx => ?_) (by simp)
  rcases List.mem_cons.mp hx with rfl | hx
  · exact .ints ⟨b, rfl, .inl h3⟩ (by omega)
  · rw [List.mem_singleton.mp hx]
    exact .sc trivial rfl
theorem PlainAt.papT (h : PlainAt H odd la ta ls rows) : PapA H (.ref ta) := .tup (.inr h.tab) h.papR (by have := h.lr; omega)
theorem PlainAt.keys (h : PlainAt H odd la ta ls rows) : ∀ r ∈ rows, ∀ k z, parts H r = some [k, z] → ∃ b xs, k = .ref b ∧ H b = some (.tup xs) := fun r hr k z e => by
  obtain ⟨a, b, c, rfl, h2, h3, h4⟩ := h.row r hr
  rw [parts_of' (.inl h2)] at e
  cases e
  exact ⟨b, _, rfl, h3⟩
/-- layers in the place of a table -/
theorem PlainAt.keyL (h : PlainAt H odd la ta ls rows) {v l : V} (e : parts H v = some [l, .ref la]) {odd' : List Int} (ho : odd' = [] → odd = []) : KeyOk H odd' v := fun l' t' rows' zs e1 e2 e3 => by
  rw [e] at e1
  cases e1
  rw [parts_of' h.lay] at e2
  cases e2
  cases hz : ls with
  | nil =>
    have : odd = [] := by
      have := h.ll
      rw [hz] at this
      exact List.eq_nil_of_length_eq_zero this.symm
    rw [← hz]
    exact ⟨⟨la, rfl, h.layN this⟩, fun r hr => by rw [hz] at hr; cases hr⟩
  | cons x ls' =>
    exfalso
    obtain ⟨c, ⟨xa, rfl, hx⟩, _⟩ := h.each x (by rw [hz]; simp)
    rw [hz] at e3
    cases he : evs odd' with
    | nil => rw [he] at e3; cases e3
    | cons c0 cs =>
      rw [he] at e3
      have : trowZ H c0 (.ref xa) = none := by
        cases q : trowZ H c0 (.ref xa) with
        | none => rfl
        | some z =>
          obtain ⟨k, h1, h2, _⟩ := trow_some q
          rw [parts_of' hx] at h1
          cases c with
          | nil => cases h1
          | cons y c =>
            simp only [List.map_cons, Option.some.injEq, List.cons.injEq] at h1
            obtain ⟨rfl, _⟩ := h1
            cases h2
      rw [tabS_none (i := 0) rfl rfl this] at e3
      cases e3
end
theorem repN_one {K : PySem.W.Frag} {H : Hp} {p0 : Addr} {v : V} {k : Int} {Q : VK} (hp : H p0 = some (.tup [v])) (h0 : 0 ≤ k) (h1 : k ≤ 1000) (q : ∀ a H', Same H H' → TupA H' a (List.replicate k.toNat v) → (k = 0 → NoD H' a (List.replicate k.toNat v)) → Q (.ref a) H') : rRepN K (.ref p0) (.int k) H Q :=
  ⟨p0, k, [v], rfl, rfl, SqT.of hp, by simp, h0, h1, by simp, fun e => q p0 H (Same.refl H) (by rw [e]; exact .inl hp) (fun z => by omega), fun e p o od np => q p _ (same_new np) (by rw [e]; exact .inr ⟨o, od, upd_same⟩) (fun _ => by rw [e]; exact ⟨o, od, upd_same⟩), fun p h np => q p _ (same_new np) (.inl (by rw [upd_same, List.flatten_replicate_singleton])) (fun z => by omega)⟩
def spPlainL (K : PySem.W.Frag) : Sp := fun vs H Q _ => ∃ (o : Addr) (odd : List Int) (k : Int), vs = [.ref o, .int k] ∧ (∀ H', Same H H' → SqT K H' o (odd.map V.int)) ∧ odd.length ≤ 8 ∧ 0 ≤ k ∧ k ≤ 1000 ∧
  ∀ p la ta ls rows H', Same H H' → H' p = some (.tup [.ref la, .ref ta]) → PlainAt H' odd la ta ls rows → Q (.ref p) H'
def RowP (H : Hp) (r : V) : Prop := ∃ (a b : Addr) (c : List Int), r = .ref a ∧ H a = some (.tup [.ref b, .int 0]) ∧ H b = some (.tup (c.map V.int)) ∧ c.length ≤ 8
theorem RowP.same {H H' : Hp} {r : V} (h : RowP H r) (s : Same H H') : RowP H' r := let ⟨a, b, c, h1, h2, h3, h4⟩ := h; ⟨a, b, c, h1, s _ _ h2, s _ _ h3, h4⟩
theorem RowP.tk {H H' : Hp} {r : V} (h : RowP H r) (s : Tk H H') : RowP H' r := let ⟨a, b, c, h1, h2, h3, h4⟩ := h; ⟨a, b, c, h1, s _ _ h2, s _ _ h3, h4⟩
section
variable {P : Program} {w : World} {K : PySem.W.Frag} {mg : Str → Option Value} {base : Heap}
set_option maxHeartbeats 4000000 in
theorem ok_l_plain {f : Addr} {fd : FuncData} (F : Fun K "_law_plain" "_law_plain" s_l_plain f fd) (M : Free mg) (D_l_choices : Df P w K mg base 1 "_law_choices" ["_law_odd_here"] (spChoicesL K)) : FnOk P w K mg base CX0 2 f fd ["_law_odd_here", "_law_many"] (spPlainL K) := by
  obtain ⟨f_l_choices, fd_l_choices, G_l_choices, g_l_choices, k_l_choices, b_l_choices⟩ := D_l_choices
  refine F.ok sc_l_plain (fun vs H Q E h => ?_) (fun cdv A outer s H vs Q E hr h => ?_)
  · obtain ⟨o, odd, k, rfl, _⟩ := h
    rfl
  · obtain ⟨o, odd, k, rfl, ho, l8, k0, k1, q⟩ := h
    refine ⟨_, (pss_one (ps_ret (pe_tup (pa_cons (pe_op op_repN (pe_tup (pa_cons (pe_op op_repN (pe_tup (pa_cons pe_int pa_nil)) (pv 1)) pa_nil)) (pe_callB call_len_seq (by rfl) M.len PySem.boot_len (pa_cons (pv 0) pa_nil))) (pa_cons (pe_callTy call_tuple_ofZ (by rfl) M.tuple (by decide +kernel) (pa_cons (pe_lc (own := [("_law_choice", 2)]) (g := (gName 2)) (tt := tYes) rfl sc_l_plain.nd (pi_list (pe_call G_l_choices (hr.mono (by decide)) (by rfl) g_l_choices k_l_choices b_l_choices .nil pass0 (pa_cons (pv 0) pa_nil))) (blkOk_by (N := N_l_plain) (sc := defScope s_l_plain) (own := [("_law_choice", 2)]) (by decide +kernel)) (fun _ _ _ _ _ => (pg_name (i := 2) sc_l_plain.nd rfl (.inl rfl))) (fun _ _ _ _ _ => pts_nil) (fun _ _ _ _ _ => (pe_tup (pa_cons (pv 2) (pa_cons pe_int pa_nil))))) pa_nil)) pa_nil))))), ?_⟩
    refine ⟨by show 1 ≤ sizeLine; decide, fun p0 n0 => ?_⟩
    have s0 := same_new (o := .tup [.int 0]) n0
    have hp0 := upd_same (H := H) (a := p0) (o := .tup [.int 0])
    generalize upd H p0 (.tup [.int 0]) = H0 at s0 hp0
    refine ⟨.int k, rfl, repN_one hp0 k0 k1 fun ra H1 s1 hra _ => ?_⟩
    refine ⟨by show 1 ≤ sizeLine; decide, fun p1 n1 => ?_⟩
    have s2 := same_new (o := .tup [.ref ra]) n1
    have hp1 := upd_same (H := H1) (a := p1) (o := .tup [.ref ra])
    replace hra := hra.same s2
    generalize upd H1 p1 (.tup [.ref ra]) = H2 at s2 hp1 hra
    have sq := ho _ ((s0.trans s1).trans s2)
    refine ⟨.ref o, rfl, o, _, rfl, .inr sq, repN_one hp1 (Int.natCast_nonneg _) (by rw [List.length_map]; omega) fun la H3 s3 hla nla => ?_⟩
    rw [List.length_map] at hla nla
    rw [Int.toNat_natCast] at hla nla
    replace hra := hra.same s3
    have s03 := ((s0.trans s1).trans s2).trans s3
    refine ⟨.ref o, rfl, o, odd, rfl, fun H' s => ho _ (s03.trans s), l8, fun L ys H4 s4 nL hL hys => ?_⟩
    have l2 := evs_len odd l8
    have ly := Paired.length hys
    refine ⟨L, rfl, ⟨ys, SqL.of hL⟩, fun Z nZ => ?_⟩
    refine lc_list (xs := ys) (fun j H' => ∃ rs, H' Z = some (.lst rs) ∧ rs.length = j ∧ (∀ r ∈ rs, RowP H' r) ∧ Same H4 H') ⟨[], upd_same, rfl, fun r hr => (by cases hr), same_new nZ⟩ (fun j H' _ h => by obtain ⟨rs, _, _, _, s⟩ := h; exact SqL.of (s _ _ hL)) ?_ ?_
    · rintro j x H5' e ⟨rs, hZ, lr, hr, s5⟩
      obtain ⟨c, ec, b, rfl, hb⟩ := Paired.at hys e
      have lc : c.length ≤ 8 := Nat.le_trans (mem_evs.mp (List.mem_of_getElem? ec)).1.length_le l8
      have lj := (List.getElem?_eq_some_iff.mp e).1
      refine ⟨rfl, .ref b, rfl, by show 2 ≤ sizeLine; decide, fun t nt => ?_⟩
      have s6 := same_new (o := .tup [.ref b, .int 0]) nt
      have ht := upd_same (H := H5') (a := t) (o := .tup [.ref b, .int 0])
      replace hZ := s6 _ _ hZ
      replace hb := s6 _ _ (s5 _ _ hb)
      replace hr : ∀ r ∈ rs, RowP _ r := fun r h => (hr r h).same s6
      replace s5 := s5.trans s6
      generalize upd H5' t (.tup [.ref b, .int 0]) = H6 at s6 ht hZ hb hr s5
      refine ⟨rs, hZ, small1000 (by omega), rs ++ [.ref t], upd_same, by rw [List.length_append, lr]; rfl, ?_, Same.mut s5 nZ⟩
      intro r h
      rcases List.mem_append.mp h with h | h
      · exact (hr r h).tk (tk_lst hZ)
      · rw [List.mem_singleton.mp h]
        exact RowP.tk ⟨t, b, c, rfl, ht, hb, lc⟩ (tk_lst hZ)
    · rintro H5 ⟨rs, hZ, lr, hr, s5⟩
      refine ⟨Z, rs, rfl, SqL.of hZ, fun ta ob od nt => ?_⟩
      have s6 := same_new (o := .frz ob (.tup rs)) nt
      have ht := upd_same (H := H5) (a := ta) (o := .frz ob (.tup rs))
      have s36 := (s4.trans s5).trans s6
      refine ⟨by show 2 ≤ sizeLine; decide, fun p np => ?_⟩
      have s7 := same_new (o := .tup [.ref la, .ref ta]) np
      refine q p la ta _ rs _ ((s03.trans s36).trans s7) upd_same ⟨(hla.same s36).same s7, fun e => ((nla (by rw [e]; rfl)).same s36).same s7, List.length_replicate, fun x hx => ?_, ⟨ob, od, s7 _ _ ht⟩, by omega, fun r h => (((hr r h).same s6).same s7)⟩
      rw [List.eq_of_mem_replicate hx]
      refine ⟨List.replicate k.toNat 0, ⟨ra, rfl, ?_⟩, by rw [List.length_replicate]; omega⟩
      rw [List.map_replicate]
      exact (hra.same s36).same s7
end
theorem mem_cutV {xs : List V} {lo hi : Option Int} {x : V} (h : x ∈ cutV xs lo hi) : x ∈ xs := List.mem_of_mem_drop (List.mem_of_mem_take h)
theorem PlainAt.pairs {K : PySem.W.Frag} {H : Hp} {odd : List Int} {la ta : Addr} {ls rows : List V} (h : PlainAt H odd la ta ls rows) : ∃ (ps : List Addr) (kvs : List (List Key × V)), rows = ps.map V.ref ∧ Paired (PrT K H) ps kvs := by
  have := h.row
  generalize rows = rs at this
  clear h
  induction rs with
  | nil => exact ⟨[], [], rfl, .nil⟩
  | cons r rs ih =>
    obtain ⟨ps, kvs, e, p⟩ := ih fun x hx => this x (List.mem_cons_of_mem _ hx)
    obtain ⟨a, b, c, rfl, h2, h3, h4⟩ := this r List.mem_cons_self
    exact ⟨a :: ps, (c.map Sum.inl, .int 0) :: kvs, by rw [e]; rfl, .cons ⟨b, SqT.of h2, by rw [h3, List.map_map]; rfl⟩ p⟩
theorem StayP.lst {H : Hp} {l : Addr} {xs ys : List V} (h : H l = some (.lst xs)) : StayP H (upd H l (.lst ys)) := fun u k => by
  cases u with
  | ref a =>
    by_cases e : a = l
    · subst e
      refine ⟨.inl ⟨ys, upd_same⟩, ?_⟩
      unfold parts
      simp only [h, upd_same]
    · have z : upd H l (.lst ys) a = H a := upd_ne e
      refine ⟨?_, by unfold parts; simp only [z]⟩
      rcases k with ⟨xs', k⟩ | ⟨xs', k⟩ | ⟨o, k, d⟩
      · exact .inl ⟨xs', by rw [z]; exact k⟩
      · refine .inr (.inl ⟨xs', ?_⟩)
        rcases k with k | ⟨o, od, k⟩
        · exact .inl (by rw [z]; exact k)
        · exact .inr ⟨o, od, by rw [z]; exact k⟩
      · exact .inr (.inr ⟨o, by rw [z]; exact k, d⟩)
  | _ => exact ⟨k, rfl⟩
theorem NoD.lst {H : Hp} {l a : Addr} {xs ys zs : List V} (h : H l = some (.lst xs)) (n : NoD H a zs) : NoD (upd H l (.lst ys)) a zs := by
  obtain ⟨o, od, n⟩ := n
  refine ⟨o, od, ?_⟩
  rw [upd_ne (fun e => by rw [e, h] at n; cases n)]
  exact n
theorem Thg.mut {H : Hp} {odd : List Int} {v : V} {l : Addr} {xs ys : List V} (t : Thg H odd v) (h : H l = some (.lst xs)) : Thg (upd H l (.lst ys)) odd v :=
  ⟨t.1.stay (StayP.lst h), t.2.stay t.1 (StayP.lst h) (fun _ _ n => n.lst h) (tk_lst h)⟩
def Alls (H : Hp) (odd : List Int) (xs : List V) : Prop := ∀ x ∈ xs, Thg H odd x
theorem Alls.same {H H' : Hp} {odd : List Int} {xs : List V} (h : Alls H odd xs) (s : Same H H') : Alls H' odd xs := fun x hx => (h x hx).same s
theorem Alls.cons {H : Hp} {odd : List Int} {x : V} {xs : List V} (t : Thg H odd x) (h : Alls H odd xs) : Alls H odd (x :: xs) := fun y hy => by
  rcases List.mem_cons.mp hy with e | e
  · rw [e]; exact t
  · exact h y e
theorem Alls.rev {H : Hp} {odd : List Int} {xs ys : List V} (h : Alls H odd xs) (e : ys = xs.reverse) : Alls H odd ys := fun x hx => h x (List.mem_reverse.mp (by rw [← e]; exact hx))
theorem Alls.app {H : Hp} {odd : List Int} {xs ys : List V} (h : Alls H odd xs) (k : Alls H odd ys) : Alls H odd (xs ++ ys) := fun x hx => by
  rcases List.mem_append.mp hx with e | e
  · exact h x e
  · exact k x e
theorem Alls.snoc {H : Hp} {odd : List Int} {l : Addr} {xs : List V} {x : V} (h : Alls H odd xs) (k : Thg H odd x) (hl : H l = some (.lst xs)) : Alls (upd H l (.lst (xs ++ [x]))) odd (xs ++ [x]) := fun y hy => by
  rcases List.mem_append.mp hy with e | e
  · exact (h y e).mut hl
  · rw [List.mem_singleton.mp e]; exact k.mut hl
theorem Alls.nil {H : Hp} {odd : List Int} : Alls H odd [] := fun x hx => by cases hx
theorem KeyOk.emp {H : Hp} {odd : List Int} {v l : V} {a : Addr} (e : parts H v = some [l, .ref a]) (h : NoD H a []) : KeyOk H odd v := .two e h fun r hr => by cases hr
theorem PapA.emp {H : Hp} {a : Addr} (h : NoD H a []) : PapA H (.ref a) := .tup (.inr h) (fun x hx => by cases hx) (by simp)
theorem Thg.emp {H : Hp} {odd : List Int} {a : Addr} (h : NoD H a []) : Thg H odd (.ref a) := .no2 (.inr h) (by simp) (by simp) (fun x hx => by cases hx)
theorem Thg.t1 {H : Hp} {odd : List Int} {a : Addr} {x : V} (h : H a = some (.tup [x])) (p : PapA H x) : Thg H odd (.ref a) := .no2 (.inl h) (by simp) (by simp) (fun y hy => by rw [List.mem_singleton.mp hy]; exact p)
theorem Thg.t3 {H : Hp} {odd : List Int} {a : Addr} {x y z : V} (h : H a = some (.tup [x, y, z])) (p : PapA H x) (q : PapA H y) (r : PapA H z) : Thg H odd (.ref a) := .no2 (.inl h) (by simp) (by simp) (fun u hu => by
  simp only [List.mem_cons, List.not_mem_nil, or_false] at hu
  rcases hu with e | e | e <;> rw [e] <;> assumption)
theorem PapA.t2 {H : Hp} {a : Addr} {x y : V} (h : H a = some (.tup [x, y])) (p : PapA H x) (q : PapA H y) : PapA H (.ref a) := .tup (.inl h) (fun u hu => by
  simp only [List.mem_cons, List.not_mem_nil, or_false] at hu
  rcases hu with e | e <;> rw [e] <;> assumption) (by simp)
theorem Thg.tE {H : Hp} {odd : List Int} {a b : Addr} {x : V} (h : H a = some (.tup [x, .ref b])) (p : PapA H x) (e : NoD H b []) : Thg H odd (.ref a) := ⟨.t2 h p (.emp e), .emp (parts_of' (.inl h)) e⟩
theorem Thg.tN {H : Hp} {odd : List Int} {a : Addr} {x y : V} (h : H a = some (.tup [x, y])) (p : PapA H x) (q : PapA H y) (e : parts H y = none) : Thg H odd (.ref a) := ⟨.t2 h p q, .non (parts_of' (.inl h)) e⟩
theorem Thg.tT {H : Hp} {odd odd' : List Int} {a la ta : Addr} {ls rows : List V} {x : V} (h : H a = some (.tup [x, .ref ta])) (q : PlainAt H odd' la ta ls rows) (p : PapA H x) : Thg H odd (.ref a) := ⟨.t2 h p q.papT, .two (parts_of' (.inl h)) q.tab q.keys⟩
theorem parts_lst {H : Hp} {a : Addr} {xs : List V} (h : H a = some (.lst xs)) : parts H (.ref a) = none := by unfold parts; simp only [h]
theorem parts_dct {H : Hp} {a : Addr} {o : HO} (h : H a = some o) (d : isDct o) : parts H (.ref a) = none := by
  unfold parts
  cases o with
  | dK kvs => simp only [h]
  | dT kvs => simp only [h]
  | _ => exact d.elim
theorem cutV_ints8 (xs : List Int) (lo hi : Option Int) : ∃ ys : List Int, cutV (xs.map V.int) lo hi = ys.map V.int ∧ ys.length ≤ xs.length := by
  refine ⟨(xs.drop (HT.sIx xs.length 0 lo)).take (HT.sIx xs.length xs.length hi - HT.sIx xs.length 0 lo), ?_, ?_⟩
  · unfold cutV
    rw [List.length_map, List.map_take, List.map_drop]
  · rw [List.length_take, List.length_drop]
    omega
theorem PlainAt.papCut {H : Hp} {odd : List Int} {la ta r : Addr} {ls rows : List V} {lo hi : Option Int} (h : PlainAt H odd la ta ls rows) (l8 : odd.length ≤ 8) (hr : TupA H r (cutV ls lo hi)) : PapA H (.ref r) :=
  .tup hr (fun x hx => let ⟨_, h1, h2⟩ := h.each x (mem_cutV hx); .ints h1 h2) (by have := h.ll; have := cutV_length ls lo hi; omega)
theorem Thg.tC {H : Hp} {odd odd' : List Int} {a r la ta : Addr} {ls rows : List V} {x : V} {lo hi : Option Int} (h : H a = some (.tup [x, .ref r])) (q : PlainAt H odd' la ta ls rows) (p : PapA H x) (nr : NoD H r (cutV rows lo hi)) : Thg H odd (.ref a) :=
  ⟨.t2 h p (.tup (.inr nr) (fun x hx => q.papR x (mem_cutV hx)) (by have := q.lr; have := cutV_length rows lo hi; omega)), .two (parts_of' (.inl h)) nr fun r hr => q.keys r (mem_cutV hr)⟩
theorem TupA.lst {H : Hp} {l a : Addr} {xs ys zs : List V} (h : H l = some (.lst xs)) (n : TupA H a zs) : TupA (upd H l (.lst ys)) a zs := by
  rcases n with n | n
  · refine .inl ?_
    rw [upd_ne (fun e => by rw [e, h] at n; cases n)]
    exact n
  · exact .inr (n.lst h)
theorem PlainAt.mut {H : Hp} {odd : List Int} {la ta l : Addr} {ls rows xs ys : List V} (p : PlainAt H odd la ta ls rows) (h : H l = some (.lst xs)) : PlainAt (upd H l (.lst ys)) odd la ta ls rows :=
  ⟨p.lay.lst h, fun e => (p.layN e).lst h, p.ll, fun x hx => by
    obtain ⟨c, ⟨b, e, h1⟩, h2⟩ := p.each x hx
    exact ⟨c, ⟨b, e, h1.lst h⟩, h2⟩, p.tab.lst h, p.lr, fun r hr => (show RowP H r from p.row r hr).tk (tk_lst h)⟩
def spThingsL : Sp := fun vs H Q _ => ∃ (o : Addr) (odd : List Int) (k : Int), vs = [.ref o, .int k] ∧ NoD H o (odd.map V.int) ∧ 0 ≤ k ∧ k ≤ 900 ∧
  ∀ L xs H', Same H H' → H' L = some (.lst xs) → xs.length ≤ 100 → (∀ x ∈ xs, Thg H' odd x) → Q (.ref L) H'
section
variable {P : Program} {w : World} {K : PySem.W.Frag} {mg : Str → Option Value} {base : Heap}
set_option maxHeartbeats 4000000 in
theorem ok_l_things {f : Addr} {fd : FuncData} (F : Fun K "_law_things" "_law_things" s_l_things f fd) (M : Free mg) (m_dict : mg "dict" = none) (D_l_plain : Df P w K mg base 2 "_law_plain" ["_law_odd_here", "_law_many"] (spPlainL K)) : FnOk P w K mg base CX0 3 f fd ["_law_odd_here", "_law_many"] spThingsL := by
  obtain ⟨f_l_plain, fd_l_plain, G_l_plain, g_l_plain, k_l_plain, b_l_plain⟩ := D_l_plain
  refine F.ok sc_l_things (fun vs H Q E h => ?_) (fun cdv A outer s H vs Q E hr h => ?_)
  · obtain ⟨o, odd, k, rfl, _⟩ := h
    rfl
  · obtain ⟨o, odd, k, rfl, ho, k0, k1, q⟩ := h
    refine ⟨_, (pss_cons (ps_set (i := 2) sc_l_things.nd rfl (.inl rfl) (pe_lst (pa_cons pe_non (pa_cons pe_bl (pa_cons pe_bl (pa_cons pe_int (pa_cons pe_int (pa_cons pe_str (pa_cons pe_str (pa_cons (pe_lst pa_nil) (pa_cons pe_dnewK (pa_cons (pe_tupZ pa_nil) (pa_cons (pe_tup (pa_cons (pe_tupZ pa_nil) pa_nil)) (pa_cons (pe_tup (pa_cons (pe_tupZ pa_nil) (pa_cons (pe_tupZ pa_nil) pa_nil))) (pa_cons (pe_tup (pa_cons (pe_tupZ pa_nil) (pa_cons (pe_tupZ pa_nil) (pa_cons (pe_tupZ pa_nil) pa_nil)))) (pa_cons (pe_lst (pa_cons (pe_tupZ pa_nil) (pa_cons (pe_tupZ pa_nil) pa_nil))) pa_nil))))))))))))))))
      (pss_cons (ps_set (i := 2) sc_l_things.nd rfl (.inl rfl) (pe_op op_cat (pv 2) (pe_lst (pa_cons (pe_tup (pa_cons (pe_tupZ pa_nil) (pa_cons (pe_lst pa_nil) pa_nil))) (pa_cons (pe_tup (pa_cons (pe_lst pa_nil) (pa_cons (pe_tupZ pa_nil) pa_nil))) pa_nil)))))
      (Evl.pss_cut (ps_if (pt_cmpR op_lt (pe_callB call_len_seq (by rfl) M.len PySem.boot_len (pa_cons (pv 0) pa_nil)) pe_int (nomark _))
        (pss_cons (ps_asg (pe_call G_l_plain (hr.mono (by decide)) (by rfl) g_l_plain k_l_plain b_l_plain .nil pass0 (pa_cons (pv 0) (pa_cons (pv 1) pa_nil))) (pg_tup rfl (pgs_cons (pg_name (i := 3) sc_l_things.nd rfl (.inl rfl)) (pgs_cons (pg_name (i := 4) sc_l_things.nd rfl (.inl rfl)) pgs_nil))))
        (pss_cons (ps_set (i := 2) sc_l_things.nd rfl (.inl rfl) (pe_op op_cat (pv 2) (pe_lst (pa_cons (pe_tup (pa_cons (pv 3) (pa_cons (pv 4) pa_nil))) (pa_cons (pe_tup (pa_cons (pv 3) (pa_cons (pe_tupZ pa_nil) pa_nil))) (pa_cons (pe_tup (pa_cons (pe_tupZ pa_nil) (pa_cons (pv 4) pa_nil))) (pa_cons (pe_tup (pa_cons (pv 4) (pa_cons (pv 3) pa_nil))) (pa_cons (pe_tup (pa_cons (pv 3) (pa_cons (pe_slice sl_tupQ (pv 4) po_none (po_some (pe_un un_neg pe_int))) pa_nil))) pa_nil))))))))
        (pss_cons (ps_set (i := 2) sc_l_things.nd rfl (.inl rfl) (pe_op op_cat (pv 2) (pe_lst (pa_cons (pe_tup (pa_cons (pe_slice sl_tupQ (pv 3) (po_some pe_int) po_none) (pa_cons (pv 4) pa_nil))) (pa_cons (pe_tup (pa_cons (pv 3) (pa_cons (pv 4) (pa_cons (pe_tupZ pa_nil) pa_nil)))) (pa_cons (pe_lst (pa_cons (pv 3) (pa_cons (pv 4) pa_nil))) (pa_cons (pe_tup (pa_cons (pv 3) (pa_cons (pe_callTy call_list_of (by rfl) M.list (by decide +kernel) (pa_cons (pv 4) pa_nil)) pa_nil))) pa_nil)))))))
        (pss_cons (ps_expr (pe_bm PySem.F.plainAttrs_list PySem.F.slot_list_append PySem.F.type_list_append mt_append (pv 2) (pa_cons (pe_tup (pa_cons (pv 3) (pa_cons (pe_callTy (call_dictT rfl (Nat.lt_of_le_of_lt (Nat.add_le_add_left (by decide : 2 ≤ 65) _) (room65 hr))) (by rfl) m_dict (by decide +kernel) (pa_cons (pv 4) pa_nil)) pa_nil))) pa_nil)))
        (pss_cons (ps_expr (pe_bm PySem.F.plainAttrs_list PySem.F.slot_list_append PySem.F.type_list_append mt_append (pv 2) (pa_cons (pe_call G_l_plain (hr.mono (by decide)) (by rfl) g_l_plain k_l_plain b_l_plain .nil pass0 (pa_cons (pe_slice sl_tupQ (pv 0) (po_some pe_int) po_none) (pa_cons (pv 1) pa_nil))) pa_nil)))
        (pss_one (ps_expr (pe_bm PySem.F.plainAttrs_list PySem.F.slot_list_append PySem.F.type_list_append mt_append (pv 2) (pa_cons (pe_call G_l_plain (hr.mono (by decide)) (by rfl) g_l_plain k_l_plain b_l_plain .nil pass0 (pa_cons (pv 0) (pa_cons (pe_op op_add (pv 1) pe_int) pa_nil))) pa_nil)))))))))
        pss_nil)
      (pss_one (ps_ret (pv 2)))))), ?_⟩
    have S := Same.refl H
    have A := Alls.nil (H := H) (odd := odd)
    replace A := Alls.cons (show Thg H odd (V.non) from .sc trivial rfl) A
    replace A := Alls.cons (show Thg H odd (V.bl true) from .sc trivial rfl) A
    replace A := Alls.cons (show Thg H odd (V.bl false) from .sc trivial rfl) A
    replace A := Alls.cons (show Thg H odd (V.int 0) from .sc trivial rfl) A
    replace A := Alls.cons (show Thg H odd (V.int 1) from .sc trivial rfl) A
    replace A := Alls.cons (show Thg H odd (V.str "") from .sc trivial rfl) A
    replace A := Alls.cons (show Thg H odd (V.str "paper") from .sc trivial rfl) A
    refine ⟨by show 0 ≤ sizeLine; decide, fun t1 f1 => ?_⟩
    have s1 := same_new (o := .lst []) f1
    have n1 := upd_same (H := H) (a := t1) (o := .lst [])
    generalize upd H t1 (.lst []) = H1 at s1 n1 ⊢
    replace A := A.same s1
    replace ho := ho.same s1
    replace S := S.trans s1
    replace A := Alls.cons (show Thg H1 odd (V.ref t1) from .lst n1) A
    intro t2 f2
    have s2 := same_new (o := .dK []) f2
    have n2 := upd_same (H := H1) (a := t2) (o := .dK [])
    generalize upd H1 t2 (.dK []) = H2 at s2 n2 ⊢
    replace A := A.same s2
    replace ho := ho.same s2
    replace S := S.trans s2
    replace A := Alls.cons (show Thg H2 odd (V.ref t2) from .sc (.inr (.inr ⟨_, n2, trivial⟩)) (parts_dct n2 trivial)) A
    refine ⟨by show 0 ≤ sizeLine; decide, fun t3 H3 s3 n3 f3 => ?_⟩
    replace A := A.same s3
    replace ho := ho.same s3
    replace S := S.trans s3
    replace A := Alls.cons (show Thg H3 odd (V.ref t3) from .emp n3) A
    refine ⟨by show 0 ≤ sizeLine; decide, fun t4 H4 s4 n4 f4 => ?_⟩
    replace A := A.same s4
    replace ho := ho.same s4
    replace S := S.trans s4
    refine ⟨by show 1 ≤ sizeLine; decide, fun t5 f5 => ?_⟩
    have s5 := same_new (o := .tup [V.ref t4]) f5
    have n5 := upd_same (H := H4) (a := t5) (o := .tup [V.ref t4])
    generalize upd H4 t5 (.tup [V.ref t4]) = H5 at s5 n5 ⊢
    replace A := A.same s5
    replace ho := ho.same s5
    replace n4 := n4.same s5
    replace S := S.trans s5
    replace A := Alls.cons (show Thg H5 odd (V.ref t5) from .t1 n5 (.emp n4)) A
    refine ⟨by show 0 ≤ sizeLine; decide, fun t6 H6 s6 n6 f6 => ?_⟩
    replace A := A.same s6
    replace ho := ho.same s6
    replace S := S.trans s6
    refine ⟨by show 0 ≤ sizeLine; decide, fun t7 H7 s7 n7 f7 => ?_⟩
    replace A := A.same s7
    replace ho := ho.same s7
    replace n6 := n6.same s7
    replace S := S.trans s7
    refine ⟨by show 2 ≤ sizeLine; decide, fun t8 f8 => ?_⟩
    have s8 := same_new (o := .tup [V.ref t6, V.ref t7]) f8
    have n8 := upd_same (H := H7) (a := t8) (o := .tup [V.ref t6, V.ref t7])
    generalize upd H7 t8 (.tup [V.ref t6, V.ref t7]) = H8 at s8 n8 ⊢
    replace A := A.same s8
    replace ho := ho.same s8
    replace n6 := n6.same s8
    replace n7 := n7.same s8
    replace S := S.trans s8
    replace A := Alls.cons (show Thg H8 odd (V.ref t8) from .tE n8 (.emp n6) n7) A
    refine ⟨by show 0 ≤ sizeLine; decide, fun t9 H9 s9 n9 f9 => ?_⟩
    replace A := A.same s9
    replace ho := ho.same s9
    replace S := S.trans s9
    refine ⟨by show 0 ≤ sizeLine; decide, fun t10 H10 s10 n10 f10 => ?_⟩
    replace A := A.same s10
    replace ho := ho.same s10
    replace n9 := n9.same s10
    replace S := S.trans s10
    refine ⟨by show 0 ≤ sizeLine; decide, fun t11 H11 s11 n11 f11 => ?_⟩
    replace A := A.same s11
    replace ho := ho.same s11
    replace n9 := n9.same s11
    replace n10 := n10.same s11
    replace S := S.trans s11
    refine ⟨by show 3 ≤ sizeLine; decide, fun t12 f12 => ?_⟩
    have s12 := same_new (o := .tup [V.ref t9, V.ref t10, V.ref t11]) f12
    have n12 := upd_same (H := H11) (a := t12) (o := .tup [V.ref t9, V.ref t10, V.ref t11])
    generalize upd H11 t12 (.tup [V.ref t9, V.ref t10, V.ref t11]) = H12 at s12 n12 ⊢
    replace A := A.same s12
    replace ho := ho.same s12
    replace n9 := n9.same s12
    replace n10 := n10.same s12
    replace n11 := n11.same s12
    replace S := S.trans s12
    replace A := Alls.cons (show Thg H12 odd (V.ref t12) from .t3 n12 (.emp n9) (.emp n10) (.emp n11)) A
    refine ⟨by show 0 ≤ sizeLine; decide, fun t13 H13 s13 n13 f13 => ?_⟩
    replace A := A.same s13
    replace ho := ho.same s13
    replace S := S.trans s13
    refine ⟨by show 0 ≤ sizeLine; decide, fun t14 H14 s14 n14 f14 => ?_⟩
    replace A := A.same s14
    replace ho := ho.same s14
    replace n13 := n13.same s14
    replace S := S.trans s14
    refine ⟨by show 2 ≤ sizeLine; decide, fun t15 f15 => ?_⟩
    have s15 := same_new (o := .lst [V.ref t13, V.ref t14]) f15
    have n15 := upd_same (H := H14) (a := t15) (o := .lst [V.ref t13, V.ref t14])
    generalize upd H14 t15 (.lst [V.ref t13, V.ref t14]) = H15 at s15 n15 ⊢
    replace A := A.same s15
    replace ho := ho.same s15
    replace n13 := n13.same s15
    replace n14 := n14.same s15
    replace S := S.trans s15
    replace A := Alls.cons (show Thg H15 odd (V.ref t15) from .lst n15) A
    refine ⟨by show 14 ≤ sizeLine; decide, fun t16 f16 => ?_⟩
    have s16 := same_new (o := .lst [V.non, V.bl true, V.bl false, V.int 0, V.int 1, V.str "", V.str "paper", V.ref t1, V.ref t2, V.ref t3, V.ref t5, V.ref t8, V.ref t12, V.ref t15]) f16
    have n16 := upd_same (H := H15) (a := t16) (o := .lst [V.non, V.bl true, V.bl false, V.int 0, V.int 1, V.str "", V.str "paper", V.ref t1, V.ref t2, V.ref t3, V.ref t5, V.ref t8, V.ref t12, V.ref t15])
    generalize upd H15 t16 (.lst [V.non, V.bl true, V.bl false, V.int 0, V.int 1, V.str "", V.str "paper", V.ref t1, V.ref t2, V.ref t3, V.ref t5, V.ref t8, V.ref t12, V.ref t15]) = H16 at s16 n16 ⊢
    replace A := A.same s16
    replace ho := ho.same s16
    replace S := S.trans s16
    have B := A.rev (ys := [V.non, V.bl true, V.bl false, V.int 0, V.int 1, V.str "", V.str "paper", V.ref t1, V.ref t2, V.ref t3, V.ref t5, V.ref t8, V.ref t12, V.ref t15]) rfl
    clear A
    have l1 : ([V.non, V.bl true, V.bl false, V.int 0, V.int 1, V.str "", V.str "paper", V.ref t1, V.ref t2, V.ref t3, V.ref t5, V.ref t8, V.ref t12, V.ref t15] : List V).length ≤ 20 := by simp
    generalize [V.non, V.bl true, V.bl false, V.int 0, V.int 1, V.str "", V.str "paper", V.ref t1, V.ref t2, V.ref t3, V.ref t5, V.ref t8, V.ref t12, V.ref t15] = xs1 at B n16 l1 ⊢
    refine ⟨.ref t16, rfl, ?_⟩
    have A := Alls.nil (H := H16) (odd := odd)
    refine ⟨by show 0 ≤ sizeLine; decide, fun t17 H17 s17 n17 f17 => ?_⟩
    replace ho := ho.same s17
    replace n16 := s17 _ _ n16
    replace B := B.same s17
    replace A := A.same s17
    replace S := S.trans s17
    refine ⟨by show 0 ≤ sizeLine; decide, fun t18 f18 => ?_⟩
    have s18 := same_new (o := .lst []) f18
    have n18 := upd_same (H := H17) (a := t18) (o := .lst [])
    generalize upd H17 t18 (.lst []) = H18 at s18 n18 ⊢
    replace ho := ho.same s18
    replace n16 := s18 _ _ n16
    replace B := B.same s18
    replace A := A.same s18
    replace n17 := n17.same s18
    replace S := S.trans s18
    refine ⟨by show 2 ≤ sizeLine; decide, fun t19 f19 => ?_⟩
    have s19 := same_new (o := .tup [V.ref t17, V.ref t18]) f19
    have n19 := upd_same (H := H18) (a := t19) (o := .tup [V.ref t17, V.ref t18])
    generalize upd H18 t19 (.tup [V.ref t17, V.ref t18]) = H19 at s19 n19 ⊢
    replace ho := ho.same s19
    replace n16 := s19 _ _ n16
    replace B := B.same s19
    replace A := A.same s19
    replace n17 := n17.same s19
    replace n18 := s19 _ _ n18
    replace S := S.trans s19
    replace A := Alls.cons (show Thg H19 odd (V.ref t19) from .tN n19 (.emp n17) (.sc (.inl ⟨_, n18⟩) (parts_lst n18)) (parts_lst n18)) A
    refine ⟨by show 0 ≤ sizeLine; decide, fun t20 f20 => ?_⟩
    have s20 := same_new (o := .lst []) f20
    have n20 := upd_same (H := H19) (a := t20) (o := .lst [])
    generalize upd H19 t20 (.lst []) = H20 at s20 n20 ⊢
    replace ho := ho.same s20
    replace n16 := s20 _ _ n16
    replace B := B.same s20
    replace A := A.same s20
    replace S := S.trans s20
    refine ⟨by show 0 ≤ sizeLine; decide, fun t21 H21 s21 n21 f21 => ?_⟩
    replace ho := ho.same s21
    replace n16 := s21 _ _ n16
    replace B := B.same s21
    replace A := A.same s21
    replace n20 := s21 _ _ n20
    replace S := S.trans s21
    refine ⟨by show 2 ≤ sizeLine; decide, fun t22 f22 => ?_⟩
    have s22 := same_new (o := .tup [V.ref t20, V.ref t21]) f22
    have n22 := upd_same (H := H21) (a := t22) (o := .tup [V.ref t20, V.ref t21])
    generalize upd H21 t22 (.tup [V.ref t20, V.ref t21]) = H22 at s22 n22 ⊢
    replace ho := ho.same s22
    replace n16 := s22 _ _ n16
    replace B := B.same s22
    replace A := A.same s22
    replace n20 := s22 _ _ n20
    replace n21 := n21.same s22
    replace S := S.trans s22
    replace A := Alls.cons (show Thg H22 odd (V.ref t22) from .tE n22 (.lst n20) n21) A
    refine ⟨by show 2 ≤ sizeLine; decide, fun t23 f23 => ?_⟩
    have s23 := same_new (o := .lst [V.ref t19, V.ref t22]) f23
    have n23 := upd_same (H := H22) (a := t23) (o := .lst [V.ref t19, V.ref t22])
    generalize upd H22 t23 (.lst [V.ref t19, V.ref t22]) = H23 at s23 n23 ⊢
    replace ho := ho.same s23
    replace n16 := s23 _ _ n16
    replace B := B.same s23
    replace A := A.same s23
    replace S := S.trans s23
    replace A := A.rev (ys := [V.ref t19, V.ref t22]) rfl
    refine ⟨t16, t23, _, _, rfl, rfl, n16, n23, Nat.le_trans (Nat.add_le_add_right l1 2) (by decide), fun lB fB => ?_⟩
    replace B := B.app A
    have l2 : (xs1 ++ [V.ref t19, V.ref t22]).length ≤ 22 := by rw [List.length_append]; exact Nat.add_le_add_right l1 2
    clear A
    generalize xs1 ++ [V.ref t19, V.ref t22] = xs2 at B l2 ⊢
    have sB := same_new (o := .lst xs2) fB
    have nB := upd_same (H := H23) (a := lB) (o := .lst xs2)
    generalize upd H23 lB (.lst xs2) = HB at sB nB ⊢
    replace ho := ho.same sB
    replace B := B.same sB
    replace S := S.trans sB
    refine ⟨fun σ' H' => ∃ lC xs y3 y4, σ' = [some (.ref o), some (.int k), some (.ref lC), y3, y4] ∧ H' lC = some (.lst xs) ∧ xs.length ≤ 100 ∧ Alls H' odd xs ∧ Same H H', ?_, ?_⟩
    · refine ⟨.ref o, rfl, o, _, rfl, .inr ho.sq, ?_⟩
      refine ⟨_, _, rfl, rfl, _, rfl, ?_⟩
      rw [List.length_map]
      by_cases h9 : (odd.length : Int) < 9
      · rw [decide_eq_true h9]
        refine ⟨.ref o, rfl, .int k, rfl, o, odd, k, rfl, fun H' s => (ho.same s).sq, by omega, k0, by omega, fun p la ta ls rows HC sC hp pl => ?_⟩
        replace B := B.same sC
        replace nB := sC _ _ nB
        replace ho := ho.same sC
        replace S := S.trans sC
        refine ⟨p, _, rfl, SqT.of hp, rfl, _, _, rfl, _, _, rfl, rfl, ?_⟩
        refine ⟨.ref lB, rfl, ?_⟩
        have A := Alls.nil (H := HC) (odd := odd)
        refine ⟨.ref la, rfl, .ref ta, rfl, ?_⟩
        refine ⟨by show 2 ≤ sizeLine; decide, fun t24 f24 => ?_⟩
        have s24 := same_new (o := .tup [V.ref la, V.ref ta]) f24
        have n24 := upd_same (H := HC) (a := t24) (o := .tup [V.ref la, V.ref ta])
        generalize upd HC t24 (.tup [V.ref la, V.ref ta]) = H24 at s24 n24 ⊢
        replace B := B.same s24
        replace nB := s24 _ _ nB
        replace ho := ho.same s24
        replace pl := pl.same s24
        replace A := A.same s24
        replace S := S.trans s24
        replace A := Alls.cons (show Thg H24 odd (V.ref t24) from .tT n24 pl (pl.papL (by omega))) A
        refine ⟨.ref la, rfl, ?_⟩
        refine ⟨by show 0 ≤ sizeLine; decide, fun t25 H25 s25 n25 f25 => ?_⟩
        replace B := B.same s25
        replace nB := s25 _ _ nB
        replace ho := ho.same s25
        replace pl := pl.same s25
        replace A := A.same s25
        replace S := S.trans s25
        refine ⟨by show 2 ≤ sizeLine; decide, fun t26 f26 => ?_⟩
        have s26 := same_new (o := .tup [V.ref la, V.ref t25]) f26
        have n26 := upd_same (H := H25) (a := t26) (o := .tup [V.ref la, V.ref t25])
        generalize upd H25 t26 (.tup [V.ref la, V.ref t25]) = H26 at s26 n26 ⊢
        replace B := B.same s26
        replace nB := s26 _ _ nB
        replace ho := ho.same s26
        replace pl := pl.same s26
        replace A := A.same s26
        replace n25 := n25.same s26
        replace S := S.trans s26
        replace A := Alls.cons (show Thg H26 odd (V.ref t26) from .tE n26 (pl.papL (by omega)) n25) A
        refine ⟨by show 0 ≤ sizeLine; decide, fun t27 H27 s27 n27 f27 => ?_⟩
        replace B := B.same s27
        replace nB := s27 _ _ nB
        replace ho := ho.same s27
        replace pl := pl.same s27
        replace A := A.same s27
        replace S := S.trans s27
        refine ⟨.ref ta, rfl, ?_⟩
        refine ⟨by show 2 ≤ sizeLine; decide, fun t28 f28 => ?_⟩
        have s28 := same_new (o := .tup [V.ref t27, V.ref ta]) f28
        have n28 := upd_same (H := H27) (a := t28) (o := .tup [V.ref t27, V.ref ta])
        generalize upd H27 t28 (.tup [V.ref t27, V.ref ta]) = H28 at s28 n28 ⊢
        replace B := B.same s28
        replace nB := s28 _ _ nB
        replace ho := ho.same s28
        replace pl := pl.same s28
        replace A := A.same s28
        replace n27 := n27.same s28
        replace S := S.trans s28
        replace A := Alls.cons (show Thg H28 odd (V.ref t28) from .tT n28 pl (.emp n27)) A
        refine ⟨.ref ta, rfl, .ref la, rfl, ?_⟩
        refine ⟨by show 2 ≤ sizeLine; decide, fun t29 f29 => ?_⟩
        have s29 := same_new (o := .tup [V.ref ta, V.ref la]) f29
        have n29 := upd_same (H := H28) (a := t29) (o := .tup [V.ref ta, V.ref la])
        generalize upd H28 t29 (.tup [V.ref ta, V.ref la]) = H29 at s29 n29 ⊢
        replace B := B.same s29
        replace nB := s29 _ _ nB
        replace ho := ho.same s29
        replace pl := pl.same s29
        replace A := A.same s29
        replace S := S.trans s29
        replace A := Alls.cons (show Thg H29 odd (V.ref t29) from ⟨.t2 n29 pl.papT (pl.papL (by omega)), pl.keyL (parts_of' (.inl n29)) id⟩) A
        refine ⟨.ref la, rfl, .ref ta, rfl, _, rfl, _, rfl, ta, rows, rfl, .inr pl.tab, fun r1 H' s hr nr => ?_⟩
        replace nr := nr pl.tab
        replace B := B.same s
        replace nB := s _ _ nB
        replace ho := ho.same s
        replace pl := pl.same s
        replace A := A.same s
        replace S := S.trans s
        refine ⟨by show 2 ≤ sizeLine; decide, fun t30 f30 => ?_⟩
        have s30 := same_new (o := .tup [V.ref la, V.ref r1]) f30
        have n30 := upd_same (H := H') (a := t30) (o := .tup [V.ref la, V.ref r1])
        generalize upd H' t30 (.tup [V.ref la, V.ref r1]) = H30 at s30 n30 ⊢
        replace B := B.same s30
        replace nB := s30 _ _ nB
        replace ho := ho.same s30
        replace pl := pl.same s30
        replace A := A.same s30
        replace nr := nr.same s30
        replace S := S.trans s30
        replace A := Alls.cons (show Thg H30 odd (V.ref t30) from .tC n30 pl (pl.papL (by omega)) nr) A
        refine ⟨by show 5 ≤ sizeLine; decide, fun t31 f31 => ?_⟩
        have s31 := same_new (o := .lst [V.ref t24, V.ref t26, V.ref t28, V.ref t29, V.ref t30]) f31
        have n31 := upd_same (H := H30) (a := t31) (o := .lst [V.ref t24, V.ref t26, V.ref t28, V.ref t29, V.ref t30])
        generalize upd H30 t31 (.lst [V.ref t24, V.ref t26, V.ref t28, V.ref t29, V.ref t30]) = H31 at s31 n31 ⊢
        replace B := B.same s31
        replace nB := s31 _ _ nB
        replace ho := ho.same s31
        replace pl := pl.same s31
        replace A := A.same s31
        replace S := S.trans s31
        replace A := A.rev (ys := [V.ref t24, V.ref t26, V.ref t28, V.ref t29, V.ref t30]) rfl
        refine ⟨lB, t31, _, _, rfl, rfl, nB, n31, Nat.le_trans (Nat.add_le_add_right l2 5) (by decide), fun lD flD => ?_⟩
        replace B := B.app A
        have l3 : (xs2 ++ [V.ref t24, V.ref t26, V.ref t28, V.ref t29, V.ref t30]).length ≤ 27 := by rw [List.length_append]; exact Nat.add_le_add_right l2 5
        clear A
        generalize xs2 ++ [V.ref t24, V.ref t26, V.ref t28, V.ref t29, V.ref t30] = xs3 at B l3 ⊢
        have slD := same_new (o := .lst xs3) flD
        have nlD := upd_same (H := H31) (a := lD) (o := .lst xs3)
        have zlD := S.free flD
        generalize upd H31 lD (.lst xs3) = HlD at slD nlD ⊢
        replace B := B.same slD
        replace ho := ho.same slD
        replace pl := pl.same slD
        replace S := S.trans slD
        refine ⟨.ref lD, rfl, ?_⟩
        have A := Alls.nil (H := HlD) (odd := odd)
        refine ⟨.ref la, rfl, _, rfl, la, ls, rfl, pl.lay, fun r2 H' s hr _ => ?_⟩
        replace B := B.same s
        replace ho := ho.same s
        replace pl := pl.same s
        replace nlD := s _ _ nlD
        replace A := A.same s
        replace S := S.trans s
        have pr := pl.papCut (by omega) hr
        refine ⟨.ref ta, rfl, ?_⟩
        refine ⟨by show 2 ≤ sizeLine; decide, fun t32 f32 => ?_⟩
        have s32 := same_new (o := .tup [V.ref r2, V.ref ta]) f32
        have n32 := upd_same (H := H') (a := t32) (o := .tup [V.ref r2, V.ref ta])
        generalize upd H' t32 (.tup [V.ref r2, V.ref ta]) = H32 at s32 n32 ⊢
        replace B := B.same s32
        replace ho := ho.same s32
        replace pl := pl.same s32
        replace nlD := s32 _ _ nlD
        replace A := A.same s32
        replace pr := pr.stay (StayP.same s32)
        replace S := S.trans s32
        replace A := Alls.cons (show Thg H32 odd (V.ref t32) from .tT n32 pl pr) A
        refine ⟨.ref la, rfl, .ref ta, rfl, ?_⟩
        refine ⟨by show 0 ≤ sizeLine; decide, fun t33 H33 s33 n33 f33 => ?_⟩
        replace B := B.same s33
        replace ho := ho.same s33
        replace pl := pl.same s33
        replace nlD := s33 _ _ nlD
        replace A := A.same s33
        replace S := S.trans s33
        refine ⟨by show 3 ≤ sizeLine; decide, fun t34 f34 => ?_⟩
        have s34 := same_new (o := .tup [V.ref la, V.ref ta, V.ref t33]) f34
        have n34 := upd_same (H := H33) (a := t34) (o := .tup [V.ref la, V.ref ta, V.ref t33])
        generalize upd H33 t34 (.tup [V.ref la, V.ref ta, V.ref t33]) = H34 at s34 n34 ⊢
        replace B := B.same s34
        replace ho := ho.same s34
        replace pl := pl.same s34
        replace nlD := s34 _ _ nlD
        replace A := A.same s34
        replace n33 := n33.same s34
        replace S := S.trans s34
        replace A := Alls.cons (show Thg H34 odd (V.ref t34) from .t3 n34 (pl.papL (by omega)) pl.papT (.emp n33)) A
        refine ⟨.ref la, rfl, .ref ta, rfl, ?_⟩
        refine ⟨by show 2 ≤ sizeLine; decide, fun t35 f35 => ?_⟩
        have s35 := same_new (o := .lst [V.ref la, V.ref ta]) f35
        have n35 := upd_same (H := H34) (a := t35) (o := .lst [V.ref la, V.ref ta])
        generalize upd H34 t35 (.lst [V.ref la, V.ref ta]) = H35 at s35 n35 ⊢
        replace B := B.same s35
        replace ho := ho.same s35
        replace pl := pl.same s35
        replace nlD := s35 _ _ nlD
        replace A := A.same s35
        replace S := S.trans s35
        replace A := Alls.cons (show Thg H35 odd (V.ref t35) from .lst n35) A
        refine ⟨.ref la, rfl, .ref ta, rfl, ta, rows, rfl, .inr pl.tab.sq, ?_⟩
        intro t36 f36
        have s36 := same_new (o := .lst rows) f36
        have n36 := upd_same (H := H35) (a := t36) (o := .lst rows)
        generalize upd H35 t36 (.lst rows) = H36 at s36 n36 ⊢
        replace B := B.same s36
        replace ho := ho.same s36
        replace pl := pl.same s36
        replace nlD := s36 _ _ nlD
        replace A := A.same s36
        replace S := S.trans s36
        refine ⟨by show 2 ≤ sizeLine; decide, fun t37 f37 => ?_⟩
        have s37 := same_new (o := .tup [V.ref la, V.ref t36]) f37
        have n37 := upd_same (H := H36) (a := t37) (o := .tup [V.ref la, V.ref t36])
        generalize upd H36 t37 (.tup [V.ref la, V.ref t36]) = H37 at s37 n37 ⊢
        replace B := B.same s37
        replace ho := ho.same s37
        replace pl := pl.same s37
        replace nlD := s37 _ _ nlD
        replace A := A.same s37
        replace n36 := s37 _ _ n36
        replace S := S.trans s37
        replace A := Alls.cons (show Thg H37 odd (V.ref t37) from .tN n37 (pl.papL (by omega)) (.sc (.inl ⟨_, n36⟩) (parts_lst n36)) (parts_lst n36)) A
        refine ⟨by show 4 ≤ sizeLine; decide, fun t38 f38 => ?_⟩
        have s38 := same_new (o := .lst [V.ref t32, V.ref t34, V.ref t35, V.ref t37]) f38
        have n38 := upd_same (H := H37) (a := t38) (o := .lst [V.ref t32, V.ref t34, V.ref t35, V.ref t37])
        generalize upd H37 t38 (.lst [V.ref t32, V.ref t34, V.ref t35, V.ref t37]) = H38 at s38 n38 ⊢
        replace B := B.same s38
        replace ho := ho.same s38
        replace pl := pl.same s38
        replace nlD := s38 _ _ nlD
        replace A := A.same s38
        replace S := S.trans s38
        replace A := A.rev (ys := [V.ref t32, V.ref t34, V.ref t35, V.ref t37]) rfl
        refine ⟨lD, t38, _, _, rfl, rfl, nlD, n38, Nat.le_trans (Nat.add_le_add_right l3 4) (by decide), fun lE flE => ?_⟩
        replace B := B.app A
        have l4 : (xs3 ++ [V.ref t32, V.ref t34, V.ref t35, V.ref t37]).length ≤ 31 := by rw [List.length_append]; exact Nat.add_le_add_right l3 4
        clear A
        generalize xs3 ++ [V.ref t32, V.ref t34, V.ref t35, V.ref t37] = xs4 at B l4 ⊢
        have slE := same_new (o := .lst xs4) flE
        have nlE := upd_same (H := H38) (a := lE) (o := .lst xs4)
        have zlE := S.free flE
        generalize upd H38 lE (.lst xs4) = HlE at slE nlE ⊢
        replace B := B.same slE
        replace ho := ho.same slE
        replace pl := pl.same slE
        replace S := S.trans slE
        obtain ⟨ps, kvs, er, pk⟩ := pl.pairs (K := K)
        refine ⟨.ref lE, rfl, .inl ⟨rfl, _, SqL.of nlE⟩, .ref la, rfl, .ref ta, rfl, ta, ps, kvs, rfl, by rw [← er]; exact pl.tab, pk, ?_⟩
        intro t39 f39
        have s39 := same_new (o := .dT (mergeT [] kvs)) f39
        have n39 := upd_same (H := HlE) (a := t39) (o := .dT (mergeT [] kvs))
        generalize upd HlE t39 (.dT (mergeT [] kvs)) = H39 at s39 n39 ⊢
        replace B := B.same s39
        replace ho := ho.same s39
        replace pl := pl.same s39
        replace nlE := s39 _ _ nlE
        replace S := S.trans s39
        refine ⟨by show 2 ≤ sizeLine; decide, fun t40 f40 => ?_⟩
        have s40 := same_new (o := .tup [V.ref la, V.ref t39]) f40
        have n40 := upd_same (H := H39) (a := t40) (o := .tup [V.ref la, V.ref t39])
        generalize upd H39 t40 (.tup [V.ref la, V.ref t39]) = H40 at s40 n40 ⊢
        replace B := B.same s40
        replace ho := ho.same s40
        replace pl := pl.same s40
        replace nlE := s40 _ _ nlE
        replace n39 := s40 _ _ n39
        replace S := S.trans s40
        have g : Thg H40 odd (V.ref t40) := .tN n40 (pl.papL (by omega)) (.sc (.inr (.inr ⟨_, n39, trivial⟩)) (parts_dct n39 trivial)) (parts_dct n39 trivial)
        refine ⟨lE, _, _, rfl, rfl, nlE, Nat.le_trans (Nat.succ_le_succ l4) (by decide), ?_⟩
        have pm : PlainAt (upd H40 lE (.lst (xs4 ++ [V.ref t40]))) odd la ta ls rows := pl.mut nlE
        have om := ho.lst (ys := xs4 ++ [V.ref t40]) nlE
        replace B := B.snoc g nlE
        have m : Same H (upd H40 lE (.lst (xs4 ++ [V.ref t40]))) := Same.mut S zlE
        have nm := upd_same (H := H40) (a := lE) (o := .lst (xs4 ++ [V.ref t40]))
        have l5 : (xs4 ++ [V.ref t40]).length ≤ 32 := by rw [List.length_append]; exact Nat.add_le_add_right l4 1
        generalize upd H40 lE (.lst (xs4 ++ [V.ref t40])) = Hxs5 at pm om B m nm ⊢
        generalize xs4 ++ [V.ref t40] = xs5 at B nm l5
        clear S nlE pl ho
        have S := m
        have nlE := nm
        have pl := pm
        have ho := om
        clear m nm pm om
        refine ⟨.ref lE, rfl, .inl ⟨rfl, _, SqL.of nlE⟩, .ref o, rfl, _, rfl, o, _, rfl, .inr ho, fun r3 H' s hr _ => ?_⟩
        replace B := B.same s
        replace ho := ho.same s
        replace pl := pl.same s
        replace nlE := s _ _ nlE
        replace S := S.trans s
        obtain ⟨odd2, e2, l22⟩ := cutV_ints8 odd (some 1) none
        rw [e2] at hr
        refine ⟨.int k, rfl, r3, odd2, k, rfl, fun H' s => (hr.same s).sq, by omega, k0, by omega, fun p2 la2 ta2 ls2 rows2 HF sF hp2 pl2 => ?_⟩
        replace B := B.same sF
        replace ho := ho.same sF
        replace pl := pl.same sF
        replace nlE := sF _ _ nlE
        replace S := S.trans sF
        have g : Thg HF odd (V.ref p2) := .tT hp2 pl2 (pl2.papL (by omega))
        refine ⟨lE, _, _, rfl, rfl, nlE, Nat.le_trans (Nat.succ_le_succ l5) (by decide), ?_⟩
        have pm : PlainAt (upd HF lE (.lst (xs5 ++ [V.ref p2]))) odd la ta ls rows := pl.mut nlE
        have om := ho.lst (ys := xs5 ++ [V.ref p2]) nlE
        replace B := B.snoc g nlE
        have m : Same H (upd HF lE (.lst (xs5 ++ [V.ref p2]))) := Same.mut S zlE
        have nm := upd_same (H := HF) (a := lE) (o := .lst (xs5 ++ [V.ref p2]))
        have l6 : (xs5 ++ [V.ref p2]).length ≤ 33 := by rw [List.length_append]; exact Nat.add_le_add_right l5 1
        generalize upd HF lE (.lst (xs5 ++ [V.ref p2])) = Hxs6 at pm om B m nm ⊢
        generalize xs5 ++ [V.ref p2] = xs6 at B nm l6
        clear S nlE pl ho
        have S := m
        have nlE := nm
        have pl := pm
        have ho := om
        clear m nm pm om
        refine ⟨.ref lE, rfl, .inl ⟨rfl, _, SqL.of nlE⟩, .ref o, rfl, .int k, rfl, _, _, rfl, rfl, o, odd, k + 1, rfl, fun H' s => (ho.same s).sq, by omega, by omega, by omega, fun p3 la3 ta3 ls3 rows3 HG sG hp3 pl3 => ?_⟩
        replace B := B.same sG
        replace ho := ho.same sG
        replace pl := pl.same sG
        replace nlE := sG _ _ nlE
        replace S := S.trans sG
        have g : Thg HG odd (V.ref p3) := .tT hp3 pl3 (pl3.papL (by omega))
        refine ⟨lE, _, _, rfl, rfl, nlE, Nat.le_trans (Nat.succ_le_succ l6) (by decide), ?_⟩
        have pm : PlainAt (upd HG lE (.lst (xs6 ++ [V.ref p3]))) odd la ta ls rows := pl.mut nlE
        have om := ho.lst (ys := xs6 ++ [V.ref p3]) nlE
        replace B := B.snoc g nlE
        have m : Same H (upd HG lE (.lst (xs6 ++ [V.ref p3]))) := Same.mut S zlE
        have nm := upd_same (H := HG) (a := lE) (o := .lst (xs6 ++ [V.ref p3]))
        have l7 : (xs6 ++ [V.ref p3]).length ≤ 34 := by rw [List.length_append]; exact Nat.add_le_add_right l6 1
        generalize upd HG lE (.lst (xs6 ++ [V.ref p3])) = Hxs7 at pm om B m nm ⊢
        generalize xs6 ++ [V.ref p3] = xs7 at B nm l7
        clear S nlE pl ho
        have S := m
        have nlE := nm
        have pl := pm
        have ho := om
        clear m nm pm om
        exact ⟨lE, xs7, _, _, rfl, nlE, by omega, B, S⟩
      · rw [decide_eq_false h9]
        exact ⟨lB, xs2, _, _, rfl, nB, by omega, B, S⟩
    · rintro σ' H' ⟨lC, xs, y3, y4, rfl, h1, h2, h3, h4⟩
      exact ⟨.ref lC, rfl, q lC xs _ h4 h1 h2 h3⟩
end
def spRight61 (Ps : List Addr) : Sp := fun vs H Q _ => ∃ (wv : V) (o : Addr) (wts : V) (n : Nat) (ts : List Tie) (rs : List (List Int)) (es : List (Int × Int)) (ws : List Int), vs = [wv, .ref o, wts] ∧ FlW H wv o n ts rs es ∧ WtV H wts ws ∧ ws.length = ts.length ∧ Tabs Ps H ∧ ∀ H', Kt Ps H H' → Q (.bl true) H'
theorem evs_nil : evs [] = [] := List.eq_nil_iff_forall_not_mem.mpr fun c h => by
  obtain ⟨h1, h2, _⟩ := mem_evs.mp h
  exact h2 (List.sublist_nil.mp h1)
theorem flatB_stay {H H' : Hp} {ts : List Tie} {fs : List (List Dt)} {ws : List Int} {number : Int} {v : V} (p : PapA H v) (s : StayP H H') : flatB H' ts fs ws number v = flatB H ts fs ws number v := by
  unfold flatB
  rw [shownF_stay p s]
theorem flatB_nil {H : Hp} {ts : List Tie} {fs : List (List Dt)} {ws : List Int} {p l t : Addr} (e : oddF ts fs = []) (hp : H p = some (.tup [.ref l, .ref t])) (hl : NoD H l []) (ht : NoD H t []) : flatB H ts fs ws 0 (.ref p) = true := by
  have h1 := parts_of' (.inl hp)
  have h2 := parts_of' (.inr hl)
  have h3 := parts_of' (.inr ht)
  have h4 : tabB H (evs []) (.ref t) = some [] := by
    unfold tabB
    rw [evs_nil]
    simp only [h3]
    rfl
  unfold flatB
  rw [e, if_pos (by simp)]
  unfold shownF
  simp only [h1, h2, h4]
  have hz : numF [] [] [] = 0 := by
    unfold numF
    rw [evs_nil]
    rfl
  rw [evs_nil, hz]
  simp
structure RI (Ps : List Addr) (H : Hp) (wv : V) (o : Addr) (wts : V) (r L : Addr) (n : Nat) (ts : List Tie) (rs : List (List Int)) (es : List (Int × Int)) (ws : List Int) (xs : List V) : Prop where
  W : FlW H wv o n ts rs es
  hw : WtV H wts ws
  T : Tabs Ps H
  hL : H L = some (.lst xs)
  al : Alls H (oddF ts (fcs es rs)) xs
  hr : NoD H r ((oddF ts (fcs es rs)).map V.int)
theorem RI.kt {Ps : List Addr} {H H' : Hp} {wv : V} {o : Addr} {wts : V} {r L : Addr} {n : Nat} {ts : List Tie} {rs : List (List Int)} {es : List (Int × Int)} {ws : List Int} {xs : List V} (h : RI Ps H wv o wts r L n ts rs es ws xs) (k : Kt Ps H H') : RI Ps H' wv o wts r L n ts rs es ws xs :=
  ⟨h.W.tk (k.tk h.T), h.hw.tk (k.tk h.T), k.tab, k.lst h.T h.hL, fun x hx => ⟨(h.al x hx).1.stay (StayP.kt k h.T), (h.al x hx).2.kt (h.al x hx).1 k h.T⟩, h.hr.kt k h.T⟩
section
variable {P : Program} {w : World} {K : PySem.W.Frag} {mg : Str → Option Value} {base : Heap}
set_option maxHeartbeats 4000000 in
theorem ok_l_right {f : Addr} {fd : FuncData} {Ps : List Addr} (F : Fun K "_law_right" "_law_right" s_l_right f fd) (M : Free mg) (D_l_odd : Df P w K mg base 3 "_law_odd" ["_law_web_here", "_law_orders"] spOddL) (D_l_due : Df P w K mg base 2 "_law_due" ["_law_web_here", "_law_orders"] spDueF) (D_l_things : Df P w K mg base 3 "_law_things" ["_law_odd_here", "_law_many"] spThingsL) (D_flat_paper_holds : Df P w K mg base 9 "flat_paper_holds" ["web", "orders", "weights", "number", "thing"] (spFlatPaper Ps)) (D_l_is_paper : Df P w K mg base 5 "_law_is_paper" ["_law_web_here", "_law_orders", "_law_weights_here", "_law_number", "_law_thing"] spIsPaper) : FnOk P w K mg base CX0 10 f fd ["_law_web_here", "_law_orders", "_law_weights_here"] (spRight61 Ps) := by
  obtain ⟨f_l_odd, fd_l_odd, G_l_odd, g_l_odd, k_l_odd, b_l_odd⟩ := D_l_odd
  obtain ⟨f_l_due, fd_l_due, G_l_due, g_l_due, k_l_due, b_l_due⟩ := D_l_due
  obtain ⟨f_l_things, fd_l_things, G_l_things, g_l_things, k_l_things, b_l_things⟩ := D_l_things
  obtain ⟨f_flat_paper_holds, fd_flat_paper_holds, G_flat_paper_holds, g_flat_paper_holds, k_flat_paper_holds, b_flat_paper_holds⟩ := D_flat_paper_holds
  obtain ⟨f_l_is_paper, fd_l_is_paper, G_l_is_paper, g_l_is_paper, k_l_is_paper, b_l_is_paper⟩ := D_l_is_paper
  refine F.ok sc_l_right (fun vs H Q E h => ?_) (fun cdv A outer s H vs Q E hr h => ?_)
  · obtain ⟨wv, o, wts, n, ts, rs, es, ws, rfl, _⟩ := h
    rfl
  · obtain ⟨wv, o, wts, n, ts, rs, es, ws, rfl, W, hw, lw, T, q⟩ := h
    refine ⟨_, (pss_cons (ps_set (i := 3) sc_l_right.nd rfl (.inl rfl) (pe_call G_l_odd (hr.mono (by decide)) (by rfl) g_l_odd k_l_odd b_l_odd .nil pass0 (pa_cons (pv 0) (pa_cons (pv 1) pa_nil))))
      (pss_cons (ps_for PassesOwn.never rfl (pi_list (pe_call G_l_things (hr.mono (by decide)) (by rfl) g_l_things k_l_things b_l_things .nil pass0 (pa_cons (pv 3) (pa_cons (pe_callB call_len_seq (by rfl) M.len PySem.boot_len (pa_cons (pe_call G_l_due (hr.mono (by decide)) (by rfl) g_l_due k_l_due b_l_due .nil pass0 (pa_cons (pv 0) (pa_cons (pv 1) pa_nil))) pa_nil)) pa_nil)))) (pg_name (i := 4) sc_l_right.nd rfl (.inl rfl))
        (pss_one (ps_for PassesOwn.never rfl (pi_list (pe_lst (pa_cons pe_int (pa_cons pe_int (pa_cons (pe_op op_pow pe_int pe_int) pa_nil))))) (pg_name (i := 5) sc_l_right.nd rfl (.inl rfl))
          (pss_cons (ps_set (i := 6) sc_l_right.nd rfl (.inl rfl) (pe_call G_flat_paper_holds (hr.mono (by decide)) (by rfl) g_flat_paper_holds k_flat_paper_holds b_flat_paper_holds .nil pass0 (pa_cons (pv 0) (pa_cons (pv 1) (pa_cons (pv 2) (pa_cons (pv 5) (pa_cons (pv 4) pa_nil)))))))
          (pss_cons (ps_set (i := 7) sc_l_right.nd rfl (.inl rfl) (pe_call G_l_is_paper (hr.mono (by decide)) (by rfl) g_l_is_paper k_l_is_paper b_l_is_paper .nil pass0 (pa_cons (pv 0) (pa_cons (pv 1) (pa_cons (pv 2) (pa_cons (pv 5) (pa_cons (pv 4) pa_nil)))))))
          (pss_one (ps_if (PW.pt (pw_or (pt_not (pt_val (pe_callB call_isi (by rfl) M.isinstance (by decide +kernel) (pa_cons (pv 6) (pa_cons (pe_bltn (v := .ty "bool") (by rfl) M.bool (by decide +kernel) rfl) pa_nil))))) (pw_or1 (pt_cmpR op_ne (pv 6) (pv 7) (nomark _)))))
            (pss_one (ps_ret pe_bl))
            pss_nil)))))))
      (pss_cons (ps_if (PW.pt (pw_and (pt_cmpR (op_eqD hr.units) (pv 3) (pe_tupZ pa_nil) (nomark _)) (pw_and1 (pt_cmpR op_isnot_bl (pe_call G_flat_paper_holds (hr.mono (by decide)) (by rfl) g_flat_paper_holds k_flat_paper_holds b_flat_paper_holds .nil pass0 (pa_cons (pv 0) (pa_cons (pv 1) (pa_cons (pv 2) (pa_cons pe_int (pa_cons (pe_tup (pa_cons (pe_tupZ pa_nil) (pa_cons (pe_tupZ pa_nil) pa_nil))) pa_nil)))))) pe_bl (nomark _)))))
        (pss_one (ps_ret pe_bl))
        pss_nil)
      (pss_one (ps_ret pe_bl))))), ?_⟩
    refine ⟨wv, rfl, .ref o, rfl, wv, o, n, ts, rs, es, rfl, W, fun r ob H1 s1 obd n1 h1 fk => ?_⟩
    have W1 := W.tk (Same.tk s1)
    have nD : NoD H1 r ((oddF ts (fcs es rs)).map V.int) := ⟨ob, obd, h1⟩
    obtain ⟨us, ho, hp⟩ := W1.us
    have lr : rs.length ≤ 50 := by have := W.ok.hi; have := W.lr; omega
    refine ⟨.ref r, rfl, wv, rfl, .ref o, rfl, wv, n, ts, o, us, rs, es, rfl, W1.W, ho, hp, W.od, W.tw, lr, W.le, fun r2 vs2 S H2 s2 p1 p2 hr2 hv2 => ?_⟩
    rw [fcs_of ⟨p1, p2⟩] at hv2
    refine ⟨r2, vs2, rfl, .inr (SqT.of hr2), ?_⟩
    have l5 : vs2.length ≤ 500 := by rw [Paired.length hv2]; exact fk.len
    refine ⟨r, oddF ts (fcs es rs), (vs2.length : Int), rfl, nD.same s2, Int.natCast_nonneg _, by omega, fun L xs H3 s3 hL lx al => ?_⟩
    have s13 := (s1.trans s2).trans s3
    have R3 : RI Ps H3 wv o wts r L n ts rs es ws xs := ⟨W.tk (Same.tk s13), hw.tk (Same.tk s13), (Kt.same T s13).tab, hL, al, (nD.same s2).same s3⟩
    have k3 := Kt.same T s13
    refine ⟨L, rfl, ⟨xs, SqL.of hL⟩, ?_⟩
    refine for_list (xs := xs) (fun i σ' H' => ∃ (y4 y5 y6 y7 : Option V), σ' = [some wv, some (.ref o), some wts, some (.ref r), y4, y5, y6, y7] ∧ RI Ps H' wv o wts r L n ts rs es ws xs ∧ Kt Ps H H') ⟨_, _, _, _, rfl, R3, k3⟩ (fun i σ' H' _ h => by
      obtain ⟨_, _, _, _, _, h, _⟩ := h
      exact SqL.of h.hL) ?_ ?_
    · rintro i x σ' H4 ex ⟨y4, y5, y6, y7, rfl, R4, k4⟩
      have hx := List.mem_of_getElem? ex
      refine ⟨_, _, rfl, rfl, ⟨by decide, by decide, by decide⟩, by show 3 ≤ sizeLine; decide, fun Z nZ => ?_⟩
      have sZ := same_new (o := .lst [.int 0, .int 1, .int (10 ^ (30 : Int).toNat)]) nZ
      have hZ := upd_same (H := H4) (a := Z) (o := .lst [.int 0, .int 1, .int (10 ^ (30 : Int).toNat)])
      generalize upd H4 Z (.lst [.int 0, .int 1, .int (10 ^ (30 : Int).toNat)]) = H5 at sZ hZ
      have R5 := R4.kt (Kt.same R4.T sZ)
      have k5 := k4.trans (Kt.same R4.T sZ)
      refine ⟨Z, rfl, ⟨_, SqL.of hZ⟩, ?_⟩
      refine for_list (xs := [.int 0, .int 1, .int (10 ^ (30 : Int).toNat)]) (fun j σ' H' => ∃ (y5 y6 y7 : Option V), σ' = [some wv, some (.ref o), some wts, some (.ref r), some x, y5, y6, y7] ∧ RI Ps H' wv o wts r L n ts rs es ws xs ∧ Kt Ps H H' ∧ H' Z = some (.lst [.int 0, .int 1, .int (10 ^ (30 : Int).toNat)])) ⟨_, _, _, rfl, R5, k5, hZ⟩ (fun i σ' H' _ h => by
        obtain ⟨_, _, _, _, _, _, h⟩ := h
        exact SqL.of h) ?_ ?_
      · clear R4 k4 R5 k5 hZ sZ nZ
        rintro j y σ' H4 ey ⟨y5, y6, y7, rfl, R4, k4, hZ⟩
        obtain ⟨z, rfl⟩ : ∃ z : Int, y = .int z := by
          have hy := List.mem_of_getElem? ey
          simp only [List.mem_cons, List.not_mem_nil, or_false] at hy
          rcases hy with e | e | e <;> exact ⟨_, e⟩
        have pk := R4.al x hx
        refine ⟨wv, rfl, .ref o, rfl, wts, rfl, .int z, rfl, x, rfl, wv, o, wts, z, x, n, ts, rs, es, ws, rfl, R4.W, R4.hw, lw, pk.1, pk.2, R4.T, fun H5 k5 _ => ?_⟩
        have R5 := R4.kt k5
        have pk5 := R5.al x hx
        refine ⟨wv, rfl, .ref o, rfl, wts, rfl, .int z, rfl, x, rfl, wv, o, wts, z, x, n, ts, rs, es, ws, rfl, R5.W, R5.hw, lw, pk5.1, pk5.2, fun H6 s6 _ => ?_⟩
        rw [flatB_stay pk.1 (StayP.kt k5 R4.T)]
        have k6 := Kt.same R5.T s6
        have R6 := R5.kt k6
        generalize flatB H4 ts (fcs es rs) ws z x = b
        obtain ⟨t1, i1, j1⟩ := kn_bool (K := K) (H := H6) (v := .bl b) trivial
        refine ⟨.bl b, rfl, .bl b, _, t1, _, _, rfl, .ty "bool", i1, j1, _, rfl, .bl b, rfl, .bl b, rfl, rfl, _, rfl, ?_⟩
        rw [decide_eq_true (rfl : V.bl b = V.bl b)]
        exact ⟨_, _, _, rfl, R6, (k4.trans k5).trans k6, s6 _ _ (k5.lst R4.T hZ)⟩
      · rintro σ' H6 ⟨y5, y6, y7, rfl, R6, k6, _⟩
        exact ⟨_, _, _, _, rfl, R6, k6⟩
    · rintro σ' H4 ⟨y4, y5, y6, y7, rfl, R4, k4⟩
      refine ⟨.ref r, rfl, by show 0 ≤ sizeLine; decide, fun e H5 s5 ne fe => ?_⟩
      have R5 := R4.kt (Kt.same R4.T s5)
      have k5 := k4.trans (Kt.same R4.T s5)
      refine ⟨intsD (oddF ts (fcs es rs)), intsD [], Dp.tup R5.hr.sq (dp_ints _), Dp.tup ne.sq (dp_ints []), shaped_intsD _, shaped_intsD _, _, rfl, ?_⟩
      rw [eqv_noneI]
      by_cases ho : oddF ts (fcs es rs) = []
      · rw [decide_eq_true ho]
        refine ⟨wv, rfl, .ref o, rfl, wts, rfl, by show 0 ≤ sizeLine; decide, fun a H6 s6 na fa => ⟨by show 0 ≤ sizeLine; decide, fun b H7 s7 nb fb => ⟨by show 2 ≤ sizeLine; decide, fun p np => ?_⟩⟩⟩
        have s8 := same_new (o := .tup [.ref a, .ref b]) np
        have hp := upd_same (H := H7) (a := p) (o := .tup [.ref a, .ref b])
        generalize upd H7 p (.tup [.ref a, .ref b]) = H8 at s8 hp
        have na8 := (na.same s7).same s8
        have nb8 := nb.same s8
        have s58 := (s6.trans s7).trans s8
        have R8 := R5.kt (Kt.same R5.T s58)
        have k8 := k5.trans (Kt.same R5.T s58)
        have tg : Thg H8 (oddF ts (fcs es rs)) (.ref p) := .tE hp (.emp na8) nb8
        refine ⟨wv, o, wts, 0, .ref p, n, ts, rs, es, ws, rfl, R8.W, R8.hw, lw, tg.1, tg.2, R8.T, fun H9 k9 _ => ?_⟩
        rw [flatB_nil ho hp na8 nb8]
        exact ⟨true, true, rfl, rfl, _, rfl, q _ (k8.trans k9)⟩
      · rw [decide_eq_false ho]
        exact q _ k5
end
theorem Tabs.kp {Ps : List Addr} {H H' : Hp} {d : Addr} (T : Tabs Ps H) (dn : ∀ P ∈ Ps, P ≠ d) (k : Kp d d H H') : Tabs Ps H' := fun P hP => by
  obtain ⟨ps, e, t⟩ := T P hP
  exact ⟨ps, k _ _ (dn P hP) (dn P hP) e, t⟩
theorem FDk.kt {Ps : List Addr} {H H' : Hp} {d : Addr} (D : FDk H d) (k : Kt Ps H H') (T : Tabs Ps H) : FDk H' d := by
  obtain ⟨ns, h1, h2⟩ := D
  exact ⟨ns, k.lst T h1, h2⟩
theorem webOk_of {ts : List Tie} {es : List (Int × Int)} {rs : List (List Int)} (od : Ord rs es) (tw : TwE ts es) (r1 : 1 ≤ rs.length) (r40 : rs.length ≤ 40) (le : es.length ≤ 120) : WebOk rs.length ts :=
  ⟨by omega, by omega, by rw [tw.1]; omega, fun t ht => by
    obtain ⟨k, ek⟩ := List.getElem?_of_mem ht
    have hk : k < es.length := by rw [← tw.1]; exact (List.getElem?_eq_some_iff.mp ek).1
    have en := od.ends _ (List.getElem_mem hk)
    rcases tw.2 k t _ ek (List.getElem?_eq_getElem hk) with z | z
    · exact ⟨by omega, by omega, by omega, by omega, by omega⟩
    · exact ⟨by omega, by omega, by omega, by omega, by omega⟩⟩
def spLaw (K : PySem.W.Frag) (Ps : List Addr) : Sp := fun vs H Q _ => ∃ (a : Addr) (ns : List Int), vs = [.ref a] ∧ SqL K H a (ns.map V.int) ∧ ns.length ≤ 63 ∧ Tabs Ps H ∧ ∀ H', Q (.bl true) H'
def rLstK (K : PySem.W.Frag) : List V → Hp → VK → Prop := fun xs H Q => ∃ p ys, xs = [.ref p] ∧ (SqL K H p ys ∨ SqT K H p ys) ∧ ∀ l, H l = none → Q (.ref l) (upd H l (.lst ys))
section
variable {P : Program} {w : World} {K : PySem.W.Frag} {mg : Str → Option Value} {base : Heap}
set_option maxHeartbeats 4000000 in
theorem ok_law {f : Addr} {fd : FuncData} {Ps : List Addr} (F : Fun K "law" "law" s_law f fd) (M : Free mg) (D_l_deck : Df P w K mg base 2 "_law_deck" ["_law_script"] (spDeckF K)) (D_l_side_by_side : Df P w K mg base 3 "_law_side_by_side" ["_law_deck_here"] spSide) (D_l_turned : Df P w K mg base 3 "_law_turned" ["_law_deck_here", "_law_orders"] spTurnedO) (D_l_weights : Df P w K mg base 3 "_law_weights" ["_law_deck_here", "_law_web_here"] spWeightsL) (D_l_right : Df P w K mg base 10 "_law_right" ["_law_web_here", "_law_orders", "_law_weights_here"] (spRight61 Ps)) (D_l_take : Df P w K mg base 2 "_law_take" ["_law_deck_here", "_law_most"] spTake) (D_l_grown : Df P w K mg base 3 "_law_grown" ["_law_deck_here", "_law_most", "_law_many_ties"] spGrown) (D_l_web : Df P w K mg base 3 "_law_web" ["_law_deck_here", "_law_ties", "_law_places"] spWebF) (D_l_few_foes : Df P w K mg base 3 "_law_few_foes" ["_law_deck_here", "_law_web_here"] spFewFoes) : FnOk P w K mg base CX0 11 f fd ["_law_script"] (spLaw K Ps) := by
  obtain ⟨f_l_deck, fd_l_deck, G_l_deck, g_l_deck, k_l_deck, b_l_deck⟩ := D_l_deck
  obtain ⟨f_l_side_by_side, fd_l_side_by_side, G_l_side_by_side, g_l_side_by_side, k_l_side_by_side, b_l_side_by_side⟩ := D_l_side_by_side
  obtain ⟨f_l_turned, fd_l_turned, G_l_turned, g_l_turned, k_l_turned, b_l_turned⟩ := D_l_turned
  obtain ⟨f_l_weights, fd_l_weights, G_l_weights, g_l_weights, k_l_weights, b_l_weights⟩ := D_l_weights
  obtain ⟨f_l_right, fd_l_right, G_l_right, g_l_right, k_l_right, b_l_right⟩ := D_l_right
  obtain ⟨f_l_take, fd_l_take, G_l_take, g_l_take, k_l_take, b_l_take⟩ := D_l_take
  obtain ⟨f_l_grown, fd_l_grown, G_l_grown, g_l_grown, k_l_grown, b_l_grown⟩ := D_l_grown
  obtain ⟨f_l_web, fd_l_web, G_l_web, g_l_web, k_l_web, b_l_web⟩ := D_l_web
  obtain ⟨f_l_few_foes, fd_l_few_foes, G_l_few_foes, g_l_few_foes, k_l_few_foes, b_l_few_foes⟩ := D_l_few_foes
  refine F.ok sc_law (fun vs H Q E h => ?_) (fun cdv A outer s H vs Q E hr h => ?_)
  · obtain ⟨sc, ns, rfl, _⟩ := h
    rfl
  · obtain ⟨sc, ns, rfl, hS, few63, TT, q⟩ := h
    refine ⟨_, (pss_cons (ps_set (i := 1) sc_law.nd rfl (.inl rfl) (pe_call G_l_deck (hr.mono (by decide)) (by rfl) g_l_deck k_l_deck b_l_deck .nil pass0 (pa_cons (pv 0) pa_nil)))
      (pss_cons (ps_for PassesOwn.never rfl (pi_range1 (by rfl) M.range (pa_cons pe_int pa_nil)) (pg_name (i := 2) sc_law.nd rfl (.inl rfl))
        (pss_cons (ps_asg (pe_call G_l_side_by_side (hr.mono (by decide)) (by rfl) g_l_side_by_side k_l_side_by_side b_l_side_by_side .nil pass0 (pa_cons (pv 1) pa_nil)) (pg_tup rfl (pgs_cons (pg_name (i := 3) sc_law.nd rfl (.inl rfl)) (pgs_cons (pg_name (i := 4) sc_law.nd rfl (.inl rfl)) pgs_nil))))
        (pss_cons (ps_set (i := 4) sc_law.nd rfl (.inl rfl) (pe_call G_l_turned (hr.mono (by decide)) (by rfl) g_l_turned k_l_turned b_l_turned .nil pass0 (pa_cons (pv 1) (pa_cons (pe_lc (own := [("_law_order", 5)]) (g := (gName 5)) (tt := tYes) rfl sc_law.nd (pi_tup (pv 4)) (blkOk_by (N := N_law) (sc := defScope s_law) (own := [("_law_order", 5)]) (by decide +kernel)) (fun _ _ _ _ _ => (pg_name (i := 5) sc_law.nd rfl (.inl rfl))) (fun _ _ _ _ _ => pts_nil) (fun _ _ _ _ _ => (pe_callTy (r := rLstK K) (T := "list") call_list_of (by rfl) M.list (by decide +kernel) (pa_cons (pv 5) pa_nil)))) pa_nil))))
        (pss_cons (ps_set (i := 6) sc_law.nd rfl (.inl rfl) (pe_call G_l_weights (hr.mono (by decide)) (by rfl) g_l_weights k_l_weights b_l_weights .nil pass0 (pa_cons (pv 1) (pa_cons (pv 3) pa_nil))))
        (pss_one (ps_if (pt_not (pt_val (pe_call G_l_right (hr.mono (by decide)) (by rfl) g_l_right k_l_right b_l_right .nil pass0 (pa_cons (pv 3) (pa_cons (pv 4) (pa_cons (pv 6) pa_nil))))))
          (pss_one (ps_ret pe_bl))
          pss_nil))))))
      (pss_cons (ps_asg (pe_call G_l_grown (hr.mono (by decide)) (by rfl) g_l_grown k_l_grown b_l_grown .nil pass0 (pa_cons (pv 1) (pa_cons (pe_op op_add pe_int (pe_call G_l_take (hr.mono (by decide)) (by rfl) g_l_take k_l_take b_l_take .nil pass0 (pa_cons (pv 1) (pa_cons pe_int pa_nil)))) (pa_cons (pe_call G_l_take (hr.mono (by decide)) (by rfl) g_l_take k_l_take b_l_take .nil pass0 (pa_cons (pv 1) (pa_cons pe_int pa_nil))) pa_nil)))) (pg_tup rfl (pgs_cons (pg_name (i := 7) sc_law.nd rfl (.inl rfl)) (pgs_cons (pg_name (i := 4) sc_law.nd rfl (.inl rfl)) pgs_nil))))
      (pss_cons (ps_set (i := 3) sc_law.nd rfl (.inl rfl) (pe_call G_l_few_foes (hr.mono (by decide)) (by rfl) g_l_few_foes k_l_few_foes b_l_few_foes .nil pass0 (pa_cons (pv 1) (pa_cons (pe_call G_l_web (hr.mono (by decide)) (by rfl) g_l_web k_l_web b_l_web .nil pass0 (pa_cons (pv 1) (pa_cons (pv 7) (pa_cons (pe_callB call_len_seq (by rfl) M.len PySem.boot_len (pa_cons (pv 4) pa_nil)) pa_nil)))) pa_nil))))
      (pss_one (ps_ret (pe_call G_l_right (hr.mono (by decide)) (by rfl) g_l_right k_l_right b_l_right .nil pass0 (pa_cons (pv 3) (pa_cons (pe_call G_l_turned (hr.mono (by decide)) (by rfl) g_l_turned k_l_turned b_l_turned .nil pass0 (pa_cons (pv 1) (pa_cons (pv 4) pa_nil))) (pa_cons (pe_call G_l_weights (hr.mono (by decide)) (by rfl) g_l_weights k_l_weights b_l_weights .nil pass0 (pa_cons (pv 1) (pa_cons (pv 3) pa_nil))) pa_nil)))))))))), ?_⟩
    refine ⟨.ref sc, rfl, sc, ns, rfl, hS, few63, fun d H1 s1 nd D1 => ?_⟩
    have dn : ∀ P ∈ Ps, P ≠ d := fun P hP e => by
      obtain ⟨ps, h1, _⟩ := TT P hP
      rw [e, nd] at h1
      cases h1
    refine ⟨2, rfl, by decide, by decide, ?_⟩
    refine for_range (lo := 0) (n := 2) (fun i σ' H' => ∃ y2 y3 y4 y5 y6 y7 : Option V, σ' = [some (.ref sc), some (.ref d), y2, y3, y4, y5, y6, y7] ∧ FDk H' d ∧ Tabs Ps H') ⟨_, _, _, _, _, _, rfl, D1, (Kt.same TT s1).tab⟩ ?_ ?_
    · clear D1 s1 nd
      rintro i σ' H2 hi ⟨y2, y3, y4, y5, y6, y7, rfl, D2, T2⟩
      refine ⟨.ref d, rfl, d, rfl, D2, fun r wv o oa ob m ts H3 hr m2 m21 hW tw ho hoa hob D3 K3 => ?_⟩
      have T3 := T2.kp dn K3
      refine ⟨r, _, rfl, SqT.of hr, rfl, _, _, rfl, _, _, rfl, rfl, ?_⟩
      refine ⟨.ref d, rfl, .ref o, rfl, o, rfl, ⟨_, SqT.of ho⟩, fun Z nZ => ?_⟩
      refine lc_tup (K := K) (xs := [.ref oa, .ref ob]) (fun j H' => ∃ A : List Addr, H' Z = some (.lst (A.map V.ref)) ∧ Rw H' A ((sideR m).take j) ∧ (∀ a ∈ A, a ≠ Z ∧ a ≠ d) ∧ Same H3 H') ⟨[], upd_same, ⟨by simp, rfl, fun j a e => by simp at e⟩, fun a ha => (by cases ha), same_new nZ⟩ (fun j H' _ h => by
        obtain ⟨A, _, _, _, s⟩ := h
        exact SqT.of (s _ _ ho)) ?_ ?_
      · rintro j x H4 ex ⟨A, hZ, rw4, hA, s4⟩
        obtain ⟨xa, row, rfl, er, hx⟩ : ∃ xa row, x = .ref xa ∧ (sideR m)[j]? = some row ∧ H3 xa = some (.tup (row.map V.int)) := by
          match j, ex with
          | 0, ex => cases ex; exact ⟨oa, _, rfl, rfl, hoa⟩
          | 1, ex => cases ex; exact ⟨ob, _, rfl, rfl, hob⟩
          | j + 2, ex => simp at ex
        refine ⟨rfl, .ref xa, rfl, xa, _, rfl, .inr (SqT.of (s4 _ _ hx)), fun p np => ?_⟩
        have s5 := same_new (o := .lst (row.map V.int)) np
        have rw5 := rw4.more np row
        have hZ5 := s5 _ _ hZ
        have pZ : p ≠ Z := fun e => by rw [e, hZ] at np; cases np
        have pd : p ≠ d := (D3.same s4).ned np
        have lA : A.length ≤ 2 := by rw [rw4.len, List.length_take]; exact Nat.min_le_right _ _
        generalize upd H4 p (.lst (row.map V.int)) = H5 at s5 rw5 hZ5
        have hA' : ∀ a ∈ A ++ [p], a ≠ Z ∧ a ≠ d := fun a ha => by
          rcases List.mem_append.mp ha with h | h
          · exact hA a h
          · rw [List.mem_singleton.mp h]
            exact ⟨pZ, pd⟩
        refine ⟨A.map V.ref, hZ5, small1000 (by rw [List.length_map]; omega), A ++ [p], by rw [upd_same, List.map_append]; rfl, ?_, hA', Same.mut (s4.trans s5) nZ⟩
        have e2 : (sideR m).take (j + 1) = (sideR m).take j ++ [row] := by
          rw [List.take_add_one, er]
          rfl
        rw [e2]
        exact rw5.ext fun a ha z h => by
          rw [upd_ne (hA' a ha).1]
          exact h
      · rintro H4 ⟨A, hZ, rw4, hA, s4⟩
        have rw4 : Rw H4 A (sideR m) := rw4
        have lm := tw.1
        rw [sideE_len] at lm
        refine ⟨d, Z, sideE m, A, sideR m, rfl, ⟨hZ, rw4, D3.ned nZ, fun a ha => (hA a ha).2, D3.same s4⟩, side_ord m, by show 2 ≤ 100; decide, by rw [sideE_len]; omega, fun o2 vs2 rs2 H5 ho2 hp2 od2 l2 rot D5 K5 => ?_⟩
        have T5 := Tabs.kp (Kt.same T3 s4).tab dn K5
        have hW5 := (hW.tk (Same.tk s4)).tk ((D3.same s4).tk K5)
        have ok : WebOk 2 ts := webOk_of (rs := sideR m) (side_ord m) tw (by show 1 ≤ 2; decide) (by show 2 ≤ 40; decide) (by rw [sideE_len]; omega)
        have an := (AnsF.rot ok tw (side_ord m) od2 rot).mp (side_flat ok tw)
        refine ⟨.ref d, rfl, wv, rfl, d, wv, 2, ts, rfl, hW5, D5, by omega, fun wts ws H6 hw lw _ D6 K6 => ?_⟩
        have tk6 := D5.tk K6
        refine ⟨wv, rfl, .ref o2, rfl, wts, rfl, wv, o2, wts, 2, ts, rs2, sideE m, ws, rfl, ⟨hW5.tk tk6, ok, ⟨vs2, tk6 _ _ ho2, Paired.mono (fun _ _ x => x.tk tk6) hp2⟩, od2, tw, l2, by rw [sideE_len]; omega, an⟩, hw, lw, T5.kp dn K6, fun H7 k7 => ⟨_, rfl, ?_⟩⟩
        exact ⟨_, _, _, _, _, _, rfl, D6.kt k7 (T5.kp dn K6), k7.tab⟩
    · clear D1 s1 nd
      rintro σ' H2 ⟨y2, y3, y4, y5, y6, y7, rfl, D2, T2⟩
      refine ⟨.ref d, rfl, .ref d, rfl, d, 6, rfl, D2, by decide, by decide, fun a H3 a0 a1 D3 K3 => ⟨_, _, rfl, rfl, .ref d, rfl, d, 9, rfl, D3, by decide, by decide, fun b H4 b0 b1 D4 K4 => ?_⟩⟩
      have T4 := (T2.kp dn K3).kp dn K4
      refine ⟨d, 1 + a, b, rfl, D4, by omega, by omega, by omega, by omega, fun r T O us es A rs H5 hr g od ue r1 r50 le => ?_⟩
      have T5 := T4.kp dn g.kp
      have lA : (A.map V.ref).length = rs.length := by rw [List.length_map]; exact g.rw'.len
      refine ⟨r, _, rfl, SqT.of hr, rfl, _, _, rfl, _, _, rfl, rfl, ?_⟩
      refine ⟨.ref d, rfl, .ref d, rfl, .ref T, rfl, .ref O, rfl, O, _, rfl, .inl (SqL.of g.hO), H4, d, T, O, us, es, A, rs, _, rfl, g, by omega, fun v' ts0 H6 hW0 tw0 g6 K6 => ?_⟩
      rw [lA] at hW0
      have lt0 := tw0.1
      refine ⟨d, v', _, ts0, rfl, hW0, g6.dk, by omega, by omega, by omega, fun wv fl ps H7 _ hW7 D7 K7 => ?_⟩
      have tw := tw0.kinds (flips_same (few_same ts0 fl) ps)
      generalize flips ps (fewT ts0 fl) = ts at hW7 tw
      have g7 := g6.take K7 D7
      have T7 := (T5.kp dn K6).kp dn K7
      have lt := tw.1
      refine ⟨wv, rfl, .ref d, rfl, .ref O, rfl, d, O, es, A, rs, rfl, g7.orL, od, by omega, by omega, fun o vs2 rs2 H8 ho hp od2 l2 rot D8 K8 => ?_⟩
      have hW8 := hW7.tk (D7.tk K8)
      refine ⟨.ref d, rfl, wv, rfl, d, wv, _, ts, rfl, hW8, D8, by omega, fun wts ws H9 hw lw _ D9 K9 => ?_⟩
      have tk9 := D8.tk K9
      have ok : WebOk rs.length ts := webOk_of od tw r1 (by omega) (by omega)
      exact ⟨wv, o, wts, rs.length, ts, rs2, es, ws, rfl, ⟨hW8.tk tk9, ok, ⟨vs2, tk9 _ _ ho, Paired.mono (fun _ _ x => x.tk tk9) hp⟩, od2, tw, l2, by omega, (AnsF.rot ok tw od od2 rot).mp (AnsF.grown ok tw ue rfl)⟩, hw, lw, (T7.kp dn K8).kp dn K9, fun H10 _ => q _⟩
end
/-! ### the end of a law whose defs hold generator expressions: their tables are empty behind the top -/
theorem walk_tabs {l : PySem.W.OpenLaw} {n k : Nat} {q : Program} {loose : List Str} {XP : (Str → Option Value) → Heap → Prop} {YP : World → Heap → Prop} {d : DefRec} {K : Params → PySem.W.Frag} {x : Str}
    (hn : l.most = some n) (hn2 : n ≤ sizeLine) (hdf : d.params.defaults = []) (hr : Room k callerA) (hY : ∀ (w : World) (h : Heap), YP w h → (K w.params).In h)
    (F : ∀ (w : World) (mg : Str → Option Value) (fa : Addr) (h : Heap), (K w.params).In h → h.Ns mainGlobals mg → mg d.name = some (.ref fa) →
      (∀ (y : Str) (fy : Addr), ((recsOf q).any fun e => e.name == y) = true → mg y = some (.ref fy) → LamX.OwnTab (K w.params) fy h) → LamX.LawAtS l w (K w.params) CX0 k n x mg fa h) :
    PySem.W.WalkO q loose XP YP l.row.toRowW d [] (fun f vs => PySem.call f vs) := by
  refine Att.attach_callB hn hdf fun w s₀ s₁ mg mb fa o pm cd doc a vs ns G Y ho hd hcd hmg hobj hints hlen hbits hg => ?_
  have KX := hY w _ Y
  have tabs : ∀ (y : Str) (fy : Addr), ((recsOf q).any fun e => e.name == y) = true → mg y = some (.ref fy) → LamX.OwnTab (K w.params) fy s₁.heap := fun y fy hy hm c P o1 fd1 e dd vs1 sl k1 k2 k3 k4 k5 => by
    obtain ⟨dL, hmem, hnm⟩ := List.any_eq_true.mp hy
    have hnm : dL.name = y := beq_iff_eq.mp hnm
    obtain ⟨a', o', fd', c', P', h1, h2, h3, h4, h5, h6⟩ := G.T.tab dL hmem
    rw [hnm, hm] at h1
    cases h1
    rw [KX _ _ k1] at h2
    cases h2
    rw [k2] at h3
    cases h3
    rw [k3] at h4
    cases h4
    obtain ⟨⟨oc, vc, e1, _, e3, e4⟩, hP⟩ := h6
    rw [KX _ _ k4] at e1
    cases e1
    cases e3
    rw [k5] at e4
    cases e4
    exact hP
  obtain ⟨fd, cs, sp, hT, nT, C, hb, hsp, hF⟩ := F w mg fa _ KX G.T.g hmg tabs
  exact LamX.law_callTs KX G.T.g G.T.b G.T.builtins G.T.nolimit hg hT nT C G.T.bmain hobj hints (Nat.le_trans hlen hn2) hr hF hb (fun H hH hS => hsp H a ns hlen hbits hH hS) fun H e s' z => z
/-- where a def stands, and where its code object does -/
structure At (K : PySem.W.Frag) (x : Str) (st : Stmt) (f : Addr) : Prop where
  ns : PySem.W.nsIn K mainGlobals x = some (some (.ref f))
  ex : ∃ (oc : Value) (od : Option Addr) (kV doc pm : Value) (an : Option Addr) (cdv ct : Value) (osl : Array (Option Value)),
    K.lookup f = some ⟨oc, od, .func (PySem.W.fnOf x x (defArgs st) (defBody st) (defScope st) .none kV doc pm an cdv ct), osl⟩ ∧ PySem.W.codeIn K cdv x = true
  kp : PySem.W.keepIn K (.ref f) = true
theorem at_mk {K : PySem.W.Frag} {x : Str} {st : Stmt} {f : Addr} {oc : Value} {od an : Option Addr} {osl : Array (Option Value)} {kV doc pm cdv ct : Value} (a : PySem.W.nsIn K mainGlobals x = some (some (.ref f)))
    (l : K.lookup f = some ⟨oc, od, .func (PySem.W.fnOf x x (defArgs st) (defBody st) (defScope st) .none kV doc pm an cdv ct), osl⟩) (c : PySem.W.codeIn K cdv x = true) (k : PySem.W.keepIn K (.ref f) = true) : At K x st f := ⟨a, ⟨oc, od, kV, doc, pm, an, cdv, ct, osl, l, c⟩, k⟩
theorem At.fn {K : PySem.W.Frag} {x : Str} {st : Stmt} {f : Addr} (h : At K x st f) : ∃ fd, Fun K x x st f fd := by
  obtain ⟨oc, od, kV, doc, pm, an, cdv, ct, osl, l, c⟩ := h.ex
  exact ⟨_, fun_mk l c h.kp⟩
structure AtC (K : PySem.W.Frag) (x : Str) (st : Stmt) (f c Pt : Addr) : Prop where
  ns : PySem.W.nsIn K mainGlobals x = some (some (.ref f))
  ex : ∃ (oc : Value) (od : Option Addr) (kV doc pm : Value) (an : Option Addr) (ct : Value) (osl : Array (Option Value)),
    K.lookup f = some ⟨oc, od, .func (PySem.W.fnOf x x (defArgs st) (defBody st) (defScope st) .none kV doc pm an (.ref c) ct), osl⟩ ∧ PySem.W.codeIn K (.ref c) x = true
  kp : PySem.W.keepIn K (.ref f) = true
  co : ∃ (dd : Option Addr) (vs : Array Value) (sl : Array (Option Value)) (file : Str) (tf : Tok) (flags : Int) (tg : Tok) (inF : Bool) (text : Int) (tt : Tok), K.lookup c = some ⟨.type "code", dd, .fields vs, sl⟩ ∧ vs[11]? = some (.ref Pt) ∧ vs.getD 11 .none = .ref Pt ∧ vs.getD 18 .none = .str file tf ∧
    vs.getD 7 .none = .int flags tg ∧ vs.getD 9 .none = .bool inF ∧ vs.getD 10 .none = .int text tt ∧ c ≠ Pt
  nP : K.lookup Pt = none
theorem atC_mk {K : PySem.W.Frag} {x : Str} {st : Stmt} {f c Pt : Addr} {oc : Value} {od an dd : Option Addr} {osl sl : Array (Option Value)} {kV doc pm ct : Value} {vs : Array Value} {file : Str} {tf tg tt : Tok} {flags text : Int} {inF : Bool} (a : PySem.W.nsIn K mainGlobals x = some (some (.ref f)))
    (l : K.lookup f = some ⟨oc, od, .func (PySem.W.fnOf x x (defArgs st) (defBody st) (defScope st) .none kV doc pm an (.ref c) ct), osl⟩) (cc : PySem.W.codeIn K (.ref c) x = true) (k : PySem.W.keepIn K (.ref f) = true)
    (lc : K.lookup c = some ⟨.type "code", dd, .fields vs, sl⟩) (v11 : vs[11]? = some (.ref Pt)) (w11 : vs.getD 11 .none = .ref Pt) (v18 : vs.getD 18 .none = .str file tf) (v7 : vs.getD 7 .none = .int flags tg) (v9 : vs.getD 9 .none = .bool inF) (v10 : vs.getD 10 .none = .int text tt) (ne : c ≠ Pt)
    (nP : K.lookup Pt = none) : AtC K x st f c Pt := ⟨a, ⟨oc, od, kV, doc, pm, an, ct, osl, l, cc⟩, k, ⟨dd, vs, sl, file, tf, flags, tg, inF, text, tt, lc, v11, w11, v18, v7, v9, v10, ne⟩, nP⟩
theorem AtC.fn {K : PySem.W.Frag} {x : Str} {st : Stmt} {f c Pt : Addr} (h : AtC K x st f c Pt) : ∃ fd, FunC K x x st f fd c := by
  obtain ⟨oc, od, kV, doc, pm, an, ct, osl, l, cc⟩ := h.ex
  exact ⟨_, ⟨oc, od, kV, doc, pm, an, ct, osl, rfl, l, cc⟩, h.kp⟩
theorem AtC.hd {K : PySem.W.Frag} {h : Heap} {x : Str} {st : Stmt} {f c Pt : Addr} (a : AtC K x st f c Pt) (X : K.In h) : PySem.W.CodeHd h c Pt := by
  obtain ⟨dd, vs, sl, file, tf, flags, tg, inF, text, tt, lc, v11, w11, v18, v7, v9, v10, ne⟩ := a.co
  exact ⟨_, vs, file, tf, flags, tg, inF, text, tt, X _ _ lc, rfl, rfl, v11, w11, v18, v7, v9, v10, ne⟩
theorem AtC.tab {K : PySem.W.Frag} {h : Heap} {x : Str} {st : Stmt} {f c Pt : Addr} (a : AtC K x st f c Pt) (o : LamX.OwnTab K f h) : h.get? Pt = some { cls := .none, data := .fields #[] } := by
  obtain ⟨oc, od, kV, doc, pm, an, ct, osl, l, cc⟩ := a.ex
  obtain ⟨dd, vs, sl, file, tf, flags, tg, inF, text, tt, lc, v11, w11, v18, v7, v9, v10, ne⟩ := a.co
  exact o c Pt _ _ _ _ _ _ l rfl rfl lc v11
section
variable {P : Program} {w : World} {K : PySem.W.Frag} {mg : Str → Option Value} {base : Heap}
theorem Df.of {x : Str} {st : Stmt} {f : Addr} {fd : FuncData} {k : Nat} {ps : List Str} {sp : Sp} (g : mg x = some (.ref f)) (F : Fun K x x st f fd) (G : FnOk P w K mg base CX0 k f fd ps sp)
    (h : ∀ (kV doc pm : Value) (an : Option Addr) (cdv ct : Value) (us : List Value), us.length = ps.length → bindArgs (PySem.W.fnOf x x (defArgs st) (defBody st) (defScope st) .none kV doc pm an cdv ct) ⟨us, []⟩ = pure (ps.zip us)) : Df P w K mg base k x ps sp :=
  ⟨f, fd, G, g, F.kp, F.binds h⟩
end
/-! ### what the top has written -/
section
variable {P : Program} {w : World} {K : PySem.W.Frag} {mg : Str → Option Value} {base : Heap}
set_option maxHeartbeats 0 in
theorem law_at {l : PySem.W.OpenLaw} {w : World} {K : PySem.W.Frag} {h : Heap} {mg : Str → Option Value} {fa f0 f1 f2 f3 f4 f5 f6 f7 f8 f9 f10 f11 f12 f13 f14 f15 f16 f17 f18 f19 f20 f21 f22 f23 f24 f25 f26 f27 f28 f29 f30 f31 f32 f33 f34 f35 f36 f37 f38 f39 f40 f41 f42 f43 f44 f45 f46 f47 f48 c8 P8 c19 P19 c20 P20 c21 P21 c22 P22 : Addr} {nt0 : Tok} (X : K.In h) (G : h.Ns mainGlobals mg) (hfa : mg "law" = some (.ref fa))
    (t8 : ∀ (fy : Addr), mg "are_rising_below" = some (.ref fy) → LamX.OwnTab K fy h)
    (t19 : ∀ (fy : Addr), mg "layer_holds" = some (.ref fy) → LamX.OwnTab K fy h)
    (t20 : ∀ (fy : Addr), mg "is_table" = some (.ref fy) → LamX.OwnTab K fy h)
    (t21 : ∀ (fy : Addr), mg "row_holds" = some (.ref fy) → LamX.OwnTab K fy h)
    (t22 : ∀ (fy : Addr), mg "number_shown" = some (.ref fy) → LamX.OwnTab K fy h)
    (a0 : At K "neighbours" s_neighbours f0)
    (a1 : At K "sides_from" s_sides_from f1)
    (a2 : At K "parts_of" s_parts_of f2)
    (a3 : At K "ties_within" s_ties_within f3)
    (a4 : At K "is_whole" s_is_whole f4)
    (a5 : At K "is_whole_from" s_is_whole_from f5)
    (a6 : At K "is_whole_below" s_is_whole_below f6)
    (a7 : At K "is_tuple_of" s_is_tuple_of f7)
    (a8 : AtC K "are_rising_below" s_are_rising_below f8 c8 P8)
    (a9 : At K "steps_behind" s_steps_behind f9)
    (a10 : At K "face_from" s_face_from f10)
    (a11 : At K "faces_of" s_faces_of f11)
    (a12 : At K "are_flat_faces" s_are_flat_faces f12)
    (a13 : At K "flat_faces" s_flat_faces f13)
    (a14 : At K "odd_among" s_odd_among f14)
    (a15 : At K "faces_beside" s_faces_beside f15)
    (a16 : At K "weight_of" s_weight_of f16)
    (a17 : At K "even_choices" s_even_choices f17)
    (a18 : At K "without_pair" s_without_pair f18)
    (a19 : AtC K "layer_holds" s_layer_holds f19 c19 P19)
    (a20 : AtC K "is_table" s_is_table f20 c20 P20)
    (a21 : AtC K "row_holds" s_row_holds f21 c21 P21)
    (a22 : AtC K "number_shown" s_number_shown f22 c22 P22)
    (a23 : At K "flat_paper_holds" s_flat_paper_holds f23)
    (a24 : At K "_law_mixed" s_l_mixed f24)
    (a25 : At K "_law_deck" s_l_deck f25)
    (a26 : At K "_law_take" s_l_take f26)
    (a27 : At K "_law_corners" s_l_corners f27)
    (a28 : At K "_law_grown" s_l_grown f28)
    (a29 : At K "_law_turned" s_l_turned f29)
    (a30 : At K "_law_web" s_l_web f30)
    (a31 : At K "_law_behind" s_l_behind f31)
    (a32 : At K "_law_due" s_l_due f32)
    (a33 : At K "_law_turned_at" s_l_turned_at f33)
    (a34 : At K "_law_odd" s_l_odd f34)
    (a35 : At K "_law_weights" s_l_weights f35)
    (a36 : At K "_law_few_foes" s_l_few_foes f36)
    (a37 : At K "_law_whole" s_l_whole f37)
    (a38 : At K "_law_weight_at" s_l_weight_at f38)
    (a39 : At K "_law_where" s_l_where f39)
    (a40 : At K "_law_layers_are" s_l_layers_are f40)
    (a41 : At K "_law_choices" s_l_choices f41)
    (a42 : At K "_law_table_is" s_l_table_is f42)
    (a43 : At K "_law_is_paper" s_l_is_paper f43)
    (a44 : At K "_law_side_by_side" s_l_side_by_side f44)
    (a45 : At K "_law_plain" s_l_plain f45)
    (a46 : At K "_law_things" s_l_things f46)
    (a47 : At K "_law_right" s_l_right f47)
    (a48 : At K "law" s_law f48)
    (z0 : PySem.W.nsIn K mainGlobals "len" = some none)
    (z1 : PySem.W.nsIn K mainGlobals "int" = some none)
    (z2 : PySem.W.nsIn K mainGlobals "bool" = some none)
    (z3 : PySem.W.nsIn K mainGlobals "str" = some none)
    (z4 : PySem.W.nsIn K mainGlobals "list" = some none)
    (z5 : PySem.W.nsIn K mainGlobals "tuple" = some none)
    (z6 : PySem.W.nsIn K mainGlobals "range" = some none)
    (z7 : PySem.W.nsIn K mainGlobals "isinstance" = some none)
    (z8 : PySem.W.nsIn K mainGlobals "sum" = some none)
    (z9 : PySem.W.nsIn K mainGlobals "abs" = some none)
    (z10 : PySem.W.nsIn K mainGlobals "all" = some none)
    (z11 : PySem.W.nsIn K mainGlobals "dict" = some none)
    (z12 : PySem.W.nsIn K mainGlobals "enumerate" = some none)
    (z13 : PySem.W.nsIn K mainGlobals "min" = some none)
    (z14 : PySem.W.nsIn K mainGlobals "sorted" = some none)
    (z15 : PySem.W.nsIn K mainGlobals "zip" = some none)
    (n0 : PySem.W.nsIn K mainGlobals "MOST_ODD" = some (some (.int 8 nt0))) :
    LamX.LawAtS l w K CX0 11 63 "_law_script" mg fa h := by
  have efa := hfa.symm.trans (PySem.W.mg_of X G a48.ns)
  cases efa
  have M : Free mg := ⟨PySem.W.mg_none_of X G z0, PySem.W.mg_none_of X G z1, PySem.W.mg_none_of X G z2, PySem.W.mg_none_of X G z3, PySem.W.mg_none_of X G z4, PySem.W.mg_none_of X G z5, PySem.W.mg_none_of X G z6, PySem.W.mg_none_of X G z7, PySem.W.mg_none_of X G z8⟩
  have m_abs := PySem.W.mg_none_of X G z9
  have m_all := PySem.W.mg_none_of X G z10
  have m_dict := PySem.W.mg_none_of X G z11
  have m_enumerate := PySem.W.mg_none_of X G z12
  have m_min := PySem.W.mg_none_of X G z13
  have m_sorted := PySem.W.mg_none_of X G z14
  have m_zip := PySem.W.mg_none_of X G z15
  obtain ⟨d0, F0⟩ := a0.fn
  obtain ⟨d1, F1⟩ := a1.fn
  obtain ⟨d2, F2⟩ := a2.fn
  obtain ⟨d3, F3⟩ := a3.fn
  obtain ⟨d4, F4⟩ := a4.fn
  obtain ⟨d5, F5⟩ := a5.fn
  obtain ⟨d6, F6⟩ := a6.fn
  obtain ⟨d7, F7⟩ := a7.fn
  obtain ⟨d8, F8⟩ := a8.fn
  obtain ⟨d9, F9⟩ := a9.fn
  obtain ⟨d10, F10⟩ := a10.fn
  obtain ⟨d11, F11⟩ := a11.fn
  obtain ⟨d12, F12⟩ := a12.fn
  obtain ⟨d13, F13⟩ := a13.fn
  obtain ⟨d14, F14⟩ := a14.fn
  obtain ⟨d15, F15⟩ := a15.fn
  obtain ⟨d16, F16⟩ := a16.fn
  obtain ⟨d17, F17⟩ := a17.fn
  obtain ⟨d18, F18⟩ := a18.fn
  obtain ⟨d19, F19⟩ := a19.fn
  obtain ⟨d20, F20⟩ := a20.fn
  obtain ⟨d21, F21⟩ := a21.fn
  obtain ⟨d22, F22⟩ := a22.fn
  obtain ⟨d23, F23⟩ := a23.fn
  obtain ⟨d24, F24⟩ := a24.fn
  obtain ⟨d25, F25⟩ := a25.fn
  obtain ⟨d26, F26⟩ := a26.fn
  obtain ⟨d27, F27⟩ := a27.fn
  obtain ⟨d28, F28⟩ := a28.fn
  obtain ⟨d29, F29⟩ := a29.fn
  obtain ⟨d30, F30⟩ := a30.fn
  obtain ⟨d31, F31⟩ := a31.fn
  obtain ⟨d32, F32⟩ := a32.fn
  obtain ⟨d33, F33⟩ := a33.fn
  obtain ⟨d34, F34⟩ := a34.fn
  obtain ⟨d35, F35⟩ := a35.fn
  obtain ⟨d36, F36⟩ := a36.fn
  obtain ⟨d37, F37⟩ := a37.fn
  obtain ⟨d38, F38⟩ := a38.fn
  obtain ⟨d39, F39⟩ := a39.fn
  obtain ⟨d40, F40⟩ := a40.fn
  obtain ⟨d41, F41⟩ := a41.fn
  obtain ⟨d42, F42⟩ := a42.fn
  obtain ⟨d43, F43⟩ := a43.fn
  obtain ⟨d44, F44⟩ := a44.fn
  obtain ⟨d45, F45⟩ := a45.fn
  obtain ⟨d46, F46⟩ := a46.fn
  obtain ⟨d47, F47⟩ := a47.fn
  obtain ⟨d48, F48⟩ := a48.fn
  have g0 := PySem.W.mg_of X G a0.ns
  have g1 := PySem.W.mg_of X G a1.ns
  have g2 := PySem.W.mg_of X G a2.ns
  have g3 := PySem.W.mg_of X G a3.ns
  have g4 := PySem.W.mg_of X G a4.ns
  have g5 := PySem.W.mg_of X G a5.ns
  have g6 := PySem.W.mg_of X G a6.ns
  have g7 := PySem.W.mg_of X G a7.ns
  have g8 := PySem.W.mg_of X G a8.ns
  have g9 := PySem.W.mg_of X G a9.ns
  have g10 := PySem.W.mg_of X G a10.ns
  have g11 := PySem.W.mg_of X G a11.ns
  have g12 := PySem.W.mg_of X G a12.ns
  have g13 := PySem.W.mg_of X G a13.ns
  have g14 := PySem.W.mg_of X G a14.ns
  have g15 := PySem.W.mg_of X G a15.ns
  have g16 := PySem.W.mg_of X G a16.ns
  have g17 := PySem.W.mg_of X G a17.ns
  have g18 := PySem.W.mg_of X G a18.ns
  have g19 := PySem.W.mg_of X G a19.ns
  have g20 := PySem.W.mg_of X G a20.ns
  have g21 := PySem.W.mg_of X G a21.ns
  have g22 := PySem.W.mg_of X G a22.ns
  have g23 := PySem.W.mg_of X G a23.ns
  have g24 := PySem.W.mg_of X G a24.ns
  have g25 := PySem.W.mg_of X G a25.ns
  have g26 := PySem.W.mg_of X G a26.ns
  have g27 := PySem.W.mg_of X G a27.ns
  have g28 := PySem.W.mg_of X G a28.ns
  have g29 := PySem.W.mg_of X G a29.ns
  have g30 := PySem.W.mg_of X G a30.ns
  have g31 := PySem.W.mg_of X G a31.ns
  have g32 := PySem.W.mg_of X G a32.ns
  have g33 := PySem.W.mg_of X G a33.ns
  have g34 := PySem.W.mg_of X G a34.ns
  have g35 := PySem.W.mg_of X G a35.ns
  have g36 := PySem.W.mg_of X G a36.ns
  have g37 := PySem.W.mg_of X G a37.ns
  have g38 := PySem.W.mg_of X G a38.ns
  have g39 := PySem.W.mg_of X G a39.ns
  have g40 := PySem.W.mg_of X G a40.ns
  have g41 := PySem.W.mg_of X G a41.ns
  have g42 := PySem.W.mg_of X G a42.ns
  have g43 := PySem.W.mg_of X G a43.ns
  have g44 := PySem.W.mg_of X G a44.ns
  have g45 := PySem.W.mg_of X G a45.ns
  have g46 := PySem.W.mg_of X G a46.ns
  have g47 := PySem.W.mg_of X G a47.ns
  have hb0 : ∀ (s : Shared) (u : Value), BindsTo s d48 ⟨[u], []⟩ [("_law_script", u)] := by
    obtain ⟨oc, od, kV, doc, pm, an, cdv, ct, osl, rfl, _⟩ := F48.ex
    exact fun s u => .of_eq rfl
  refine ⟨d48, [(c8, P8), (c19, P19), (c20, P20), (c21, P21), (c22, P22)], (spLaw K [P8, P19, P20, P21, P22]), (List.forall_mem_cons.mpr ⟨a8.tab (t8 _ g8), (List.forall_mem_cons.mpr ⟨a19.tab (t19 _ g19), (List.forall_mem_cons.mpr ⟨a20.tab (t20 _ g20), (List.forall_mem_cons.mpr ⟨a21.tab (t21 _ g21), (List.forall_mem_cons.mpr ⟨a22.tab (t22 _ g22), (fun p hp => by simp at hp)⟩)⟩)⟩)⟩)⟩), (List.forall_mem_cons.mpr ⟨a8.nP, (List.forall_mem_cons.mpr ⟨a19.nP, (List.forall_mem_cons.mpr ⟨a20.nP, (List.forall_mem_cons.mpr ⟨a21.nP, (List.forall_mem_cons.mpr ⟨a22.nP, (fun p hp => by simp at hp)⟩)⟩)⟩)⟩)⟩), (List.forall_mem_cons.mpr ⟨a8.hd X, (List.forall_mem_cons.mpr ⟨a19.hd X, (List.forall_mem_cons.mpr ⟨a20.hd X, (List.forall_mem_cons.mpr ⟨a21.hd X, (List.forall_mem_cons.mpr ⟨a22.hd X, (fun p hp => by simp at hp)⟩)⟩)⟩)⟩)⟩), hb0, fun H a ns hl _ hT hS => ⟨a, ns, rfl, hS, hl, (List.forall_mem_cons.mpr ⟨⟨#[], hT (c8, P8) (by simp), by trivial⟩, (List.forall_mem_cons.mpr ⟨⟨#[], hT (c19, P19) (by simp), by trivial⟩, (List.forall_mem_cons.mpr ⟨⟨#[], hT (c20, P20) (by simp), by trivial⟩, (List.forall_mem_cons.mpr ⟨⟨#[], hT (c21, P21) (by simp), by trivial⟩, (List.forall_mem_cons.mpr ⟨⟨#[], hT (c22, P22) (by simp), by trivial⟩, (fun p hp => by simp at hp)⟩)⟩)⟩)⟩)⟩), fun _ => rfl⟩, fun base KB GB TB => ?_⟩
  have tb8 := TB (c8, P8) (by simp)
  have tb19 := TB (c19, P19) (by simp)
  have tb20 := TB (c20, P20) (by simp)
  have tb21 := TB (c21, P21) (by simp)
  have tb22 := TB (c22, P22) (by simp)
  have D0 : Df l.prog w K mg base 1 "neighbours" ["web"] spNeighbours := .of g0 F0 (ok_neighbours F0 M) fun _ _ _ _ _ _ us hl => match us, hl with | [_], _ => rfl
  have D1 : Df l.prog w K mg base 1 "sides_from" ["start", "around"] spSidesFrom := .of g1 F1 (ok_sides_from F1 M) fun _ _ _ _ _ _ us hl => match us, hl with | [_, _], _ => rfl
  have D2 : Df l.prog w K mg base 2 "parts_of" ["web"] spPartsOf := .of g2 F2 (ok_parts_of F2 M m_sorted D0 D1) fun _ _ _ _ _ _ us hl => match us, hl with | [_], _ => rfl
  have D3 : Df l.prog w K mg base 1 "ties_within" ["web", "part"] spTiesWithin := .of g3 F3 (ok_ties_within F3 M m_enumerate) fun _ _ _ _ _ _ us hl => match us, hl with | [_, _], _ => rfl
  have D4 : Df l.prog w K mg base 1 "is_whole" ["thing"] spWhole := .of g4 F4 (ok_is_whole F4 M) fun _ _ _ _ _ _ us hl => match us, hl with | [_], _ => rfl
  have D5 : Df l.prog w K mg base 2 "is_whole_from" ["low", "thing"] spFrom := .of g5 F5 (ok_is_whole_from F5 D4) fun _ _ _ _ _ _ us hl => match us, hl with | [_, _], _ => rfl
  have D6 : Df l.prog w K mg base 2 "is_whole_below" ["limit", "thing"] spBelow := .of g6 F6 (ok_is_whole_below F6 D4) fun _ _ _ _ _ _ us hl => match us, hl with | [_, _], _ => rfl
  have D7 : Df l.prog w K mg base 1 "is_tuple_of" ["length", "thing"] spTupleOf := .of g7 F7 (ok_is_tuple_of F7 M) fun _ _ _ _ _ _ us hl => match us, hl with | [_, _], _ => rfl
  have D8 : Df l.prog w K mg base 4 "are_rising_below" ["limit", "thing"] (spRising [P8, P19, P20, P21, P22]) := .of g8 F8.fn (ok_are_rising_below F8 ⟨tb8.code, tb8.bm, tb8.gP⟩ (show P8 ∈ [P8, P19, P20, P21, P22] by simp) M m_all m_zip D6) fun _ _ _ _ _ _ us hl => match us, hl with | [_, _], _ => rfl
  have D9 : Df l.prog w K mg base 1 "steps_behind" ["web", "orders"] spSteps := .of g9 F9 (ok_steps_behind F9 m_enumerate m_zip) fun _ _ _ _ _ _ us hl => match us, hl with | [_, _], _ => rfl
  have D10 : Df l.prog w K mg base 1 "face_from" ["first", "behind"] spFace := .of g10 F10 (ok_face_from F10 M) fun _ _ _ _ _ _ us hl => match us, hl with | [_, _], _ => rfl
  have D11 : Df l.prog w K mg base 2 "faces_of" ["web", "orders"] spFaces := .of g11 F11 (ok_faces_of F11 M m_sorted D9 D10) fun _ _ _ _ _ _ us hl => match us, hl with | [_, _], _ => rfl
  have D12 : Df l.prog w K mg base 3 "are_flat_faces" ["web", "faces"] spFlatF := .of g12 F12 (ok_are_flat_faces F12 M D2 D3) fun _ _ _ _ _ _ us hl => match us, hl with | [_, _], _ => rfl
  have D13 : Df l.prog w K mg base 4 "flat_faces" ["web", "orders"] spFlatFaces := .of g13 F13 (ok_flat_faces F13 D11 D12) fun _ _ _ _ _ _ us hl => match us, hl with | [_, _], _ => rfl
  have D14 : Df l.prog w K mg base 1 "odd_among" ["web", "faces"] spOddAmong := .of g14 F14 (ok_odd_among F14 M m_enumerate) fun _ _ _ _ _ _ us hl => match us, hl with | [_, _], _ => rfl
  have D15 : Df l.prog w K mg base 1 "faces_beside" ["web", "faces"] spFacesBeside := .of g15 F15 (ok_faces_beside F15 m_enumerate) fun _ _ _ _ _ _ us hl => match us, hl with | [_, _], _ => rfl
  have D16 : Df l.prog w K mg base 1 "weight_of" ["weights", "tie"] spWeightF := .of g16 F16 (ok_weight_of F16) fun _ _ _ _ _ _ us hl => match us, hl with | [_, _], _ => rfl
  have D17 : Df l.prog w K mg base 1 "even_choices" ["faces"] spEvenChoices := .of g17 F17 (ok_even_choices F17 M m_sorted) fun _ _ _ _ _ _ us hl => match us, hl with | [_], _ => rfl
  have D18 : Df l.prog w K mg base 1 "without_pair" ["choice", "other"] spWithoutPair := .of g18 F18 (ok_without_pair F18 M) fun _ _ _ _ _ _ us hl => match us, hl with | [_, _], _ => rfl
  have D19 : Df l.prog w K mg base 4 "layer_holds" ["start", "gaps", "many", "thing"] (spLayerH [P8, P19, P20, P21, P22]) := .of g19 F19.fn (ok_layer_holds F19 ⟨tb19.code, tb19.bm, tb19.gP⟩ (show P19 ∈ [P8, P19, P20, P21, P22] by simp) m_abs m_all D5 D7) fun _ _ _ _ _ _ us hl => match us, hl with | [_, _, _, _], _ => rfl
  have D20 : Df l.prog w K mg base 6 "is_table" ["choices", "many", "thing"] (spIsTable [P8, P19, P20, P21, P22]) := .of g20 F20.fn (ok_is_table F20 ⟨tb20.code, tb20.bm, tb20.gP⟩ (show P20 ∈ [P8, P19, P20, P21, P22] by simp) M m_all D7 D5 D8) fun _ _ _ _ _ _ us hl => match us, hl with | [_, _, _], _ => rfl
  have D21 : Df l.prog w K mg base 3 "row_holds" ["choice", "layers", "numbers"] (spRowH [P8, P19, P20, P21, P22]) := .of g21 F21.fn (ok_row_holds F21 ⟨tb21.code, tb21.bm, tb21.gP⟩ (show P21 ∈ [P8, P19, P20, P21, P22] by simp) m_all D18) fun _ _ _ _ _ _ us hl => match us, hl with | [_, _, _], _ => rfl
  have D22 : Df l.prog w K mg base 8 "number_shown" ["odd", "many", "gaps", "thing"] (spNumShown [P8, P19, P20, P21, P22]) := .of g22 F22.fn (ok_number_shown F22 ⟨tb22.code, tb22.bm, tb22.gP⟩ (show P22 ∈ [P8, P19, P20, P21, P22] by simp) M m_all m_zip D17 D20 D7 D19 D21) fun _ _ _ _ _ _ us hl => match us, hl with | [_, _, _, _], _ => rfl
  have D23 : Df l.prog w K mg base 9 "flat_paper_holds" ["web", "orders", "weights", "number", "thing"] (spFlatPaper [P8, P19, P20, P21, P22]) := .of g23 F23 (ok_flat_paper_holds F23 M (PySem.W.mg_of X G n0) m_enumerate D13 D14 D15 D16 D22) fun _ _ _ _ _ _ us hl => match us, hl with | [_, _, _, _, _], _ => rfl
  have D24 : Df l.prog w K mg base 1 "_law_mixed" ["_law_number"] spMixed := .of g24 F24 (ok_l_mixed F24) fun _ _ _ _ _ _ us hl => match us, hl with | [_], _ => rfl
  have D25 : Df l.prog w K mg base 2 "_law_deck" ["_law_script"] (spDeckF K) := .of g25 F25 (ok_l_deck F25 M D24) fun _ _ _ _ _ _ us hl => match us, hl with | [_], _ => rfl
  have D26 : Df l.prog w K mg base 2 "_law_take" ["_law_deck_here", "_law_most"] spTake := .of g26 F26 (ok_l_take F26 D24) fun _ _ _ _ _ _ us hl => match us, hl with | [_, _], _ => rfl
  have D27 : Df l.prog w K mg base 1 "_law_corners" ["_law_ties", "_law_orders", "_law_place", "_law_at"] spCorners := .of g27 F27 (ok_l_corners F27 M) fun _ _ _ _ _ _ us hl => match us, hl with | [_, _, _, _], _ => rfl
  have D28 : Df l.prog w K mg base 3 "_law_grown" ["_law_deck_here", "_law_most", "_law_many_ties"] spGrown := .of g28 F28 (ok_l_grown F28 M D26 D27) fun _ _ _ _ _ _ us hl => match us, hl with | [_, _, _], _ => rfl
  have D29 : Df l.prog w K mg base 3 "_law_turned" ["_law_deck_here", "_law_orders"] spTurnedO := .of g29 F29 (ok_l_turnedO F29 M D26) fun _ _ _ _ _ _ us hl => match us, hl with | [_, _], _ => rfl
  have D30 : Df l.prog w K mg base 3 "_law_web" ["_law_deck_here", "_law_ties", "_law_places"] spWebF := .of g30 F30 (ok_l_web F30 M D26) fun _ _ _ _ _ _ us hl => match us, hl with | [_, _, _], _ => rfl
  have D31 : Df l.prog w K mg base 1 "_law_behind" ["_law_web_here", "_law_orders", "_law_step"] spBehindL := .of g31 F31 (ok_l_behind F31 M) fun _ _ _ _ _ _ us hl => match us, hl with | [_, _, _], _ => rfl
  have D32 : Df l.prog w K mg base 2 "_law_due" ["_law_web_here", "_law_orders"] spDueF := .of g32 F32 (ok_l_due F32 M m_enumerate m_sorted D31) fun _ _ _ _ _ _ us hl => match us, hl with | [_, _], _ => rfl
  have D33 : Df l.prog w K mg base 1 "_law_turned_at" ["_law_web_here", "_law_place"] spTurnAt := .of g33 F33 (ok_l_turned_at F33 M) fun _ _ _ _ _ _ us hl => match us, hl with | [_, _], _ => rfl
  have D34 : Df l.prog w K mg base 3 "_law_odd" ["_law_web_here", "_law_orders"] spOddL := .of g34 F34 (ok_l_odd F34 M m_enumerate D32) fun _ _ _ _ _ _ us hl => match us, hl with | [_, _], _ => rfl
  have D35 : Df l.prog w K mg base 3 "_law_weights" ["_law_deck_here", "_law_web_here"] spWeightsL := .of g35 F35 (ok_l_weights F35 M D26) fun _ _ _ _ _ _ us hl => match us, hl with | [_, _], _ => rfl
  have D36 : Df l.prog w K mg base 3 "_law_few_foes" ["_law_deck_here", "_law_web_here"] spFewFoes := .of g36 F36 (ok_l_few_foes F36 M m_enumerate D26 D33) fun _ _ _ _ _ _ us hl => match us, hl with | [_, _], _ => rfl
  have D37 : Df l.prog w K mg base 1 "_law_whole" ["_law_thing"] spWhole := .of g37 F37 (ok_l_whole F37 M) fun _ _ _ _ _ _ us hl => match us, hl with | [_], _ => rfl
  have D38 : Df l.prog w K mg base 1 "_law_weight_at" ["_law_weights_here", "_law_number"] spWeightF := .of g38 F38 (ok_l_weight_at F38) fun _ _ _ _ _ _ us hl => match us, hl with | [_, _], _ => rfl
  have D39 : Df l.prog w K mg base 3 "_law_where" ["_law_web_here", "_law_orders"] spWhere := .of g39 F39 (ok_l_where F39 m_enumerate D32) fun _ _ _ _ _ _ us hl => match us, hl with | [_, _], _ => rfl
  have D40 : Df l.prog w K mg base 4 "_law_layers_are" ["_law_web_here", "_law_orders", "_law_weights_here", "_law_odd_here", "_law_thing"] (spLayersAre K) := .of g40 F40 (ok_l_layers_are F40 M m_enumerate m_zip D39 D32 D37 D38) fun _ _ _ _ _ _ us hl => match us, hl with | [_, _, _, _, _], _ => rfl
  have D41 : Df l.prog w K mg base 1 "_law_choices" ["_law_odd_here"] (spChoicesL K) := .of g41 F41 (ok_l_choices F41 M m_enumerate m_sorted) fun _ _ _ _ _ _ us hl => match us, hl with | [_], _ => rfl
  have D42 : Df l.prog w K mg base 2 "_law_table_is" ["_law_odd_here", "_law_layers", "_law_thing"] (spTableIs K) := .of g42 F42 (ok_l_table_is F42 M m_zip D41 D37) fun _ _ _ _ _ _ us hl => match us, hl with | [_, _, _], _ => rfl
  have D43 : Df l.prog w K mg base 5 "_law_is_paper" ["_law_web_here", "_law_orders", "_law_weights_here", "_law_number", "_law_thing"] spIsPaper := .of g43 F43 (ok_l_is_paper F43 M m_dict D34 D42 D40) fun _ _ _ _ _ _ us hl => match us, hl with | [_, _, _, _, _], _ => rfl
  have D44 : Df l.prog w K mg base 3 "_law_side_by_side" ["_law_deck_here"] spSide := .of g44 F44 (ok_l_side_by_side F44 M m_min D26) fun _ _ _ _ _ _ us hl => match us, hl with | [_], _ => rfl
  have D45 : Df l.prog w K mg base 2 "_law_plain" ["_law_odd_here", "_law_many"] (spPlainL K) := .of g45 F45 (ok_l_plain F45 M D41) fun _ _ _ _ _ _ us hl => match us, hl with | [_, _], _ => rfl
  have D46 : Df l.prog w K mg base 3 "_law_things" ["_law_odd_here", "_law_many"] spThingsL := .of g46 F46 (ok_l_things F46 M m_dict D45) fun _ _ _ _ _ _ us hl => match us, hl with | [_, _], _ => rfl
  have D47 : Df l.prog w K mg base 10 "_law_right" ["_law_web_here", "_law_orders", "_law_weights_here"] (spRight61 [P8, P19, P20, P21, P22]) := .of g47 F47 (ok_l_right F47 M D34 D32 D46 D23 D43) fun _ _ _ _ _ _ us hl => match us, hl with | [_, _, _], _ => rfl
  exact ok_law F48 M D25 D44 D29 D35 D47 D26 D28 D30 D36
end
end FF
open PySem PySem.W PyProof.Rows
set_option maxRecDepth 100000 in
set_option maxHeartbeats 0 in
theorem PySem.Challenge.cw_friendfoe_k61_no_flat_papers_holds : PySem.Challenge.rw_friendfoe_k61_no_flat_papers.Holds := by
  w_on; o_law; k_head; (case hw => w_witness2)
  k_fill
  refine FF.walk_tabs (l := PySem.Challenge.rw_friendfoe_k61_no_flat_papers) (n := 63) (k := 11) (x := "_law_script") rfl (by decide) rfl ⟨rfl, by decide, by decide⟩ (fun w h Y => PySem.W.kIn_of Y) ?F
  case F =>
    intro w mg fa h KX G hmg tabs
    refine' FF.law_at KX G hmg (fun fy => tabs "are_rising_below" fy ?r8) (fun fy => tabs "layer_holds" fy ?r19) (fun fy => tabs "is_table" fy ?r20) (fun fy => tabs "row_holds" fy ?r21) (fun fy => tabs "number_shown" fy ?r22) ?a0 ?a1 ?a2 ?a3 ?a4 ?a5 ?a6 ?a7 ?a8 ?a9 ?a10 ?a11 ?a12 ?a13 ?a14 ?a15 ?a16 ?a17 ?a18 ?a19 ?a20 ?a21 ?a22 ?a23 ?a24 ?a25 ?a26 ?a27 ?a28 ?a29 ?a30 ?a31 ?a32 ?a33 ?a34 ?a35 ?a36 ?a37 ?a38 ?a39 ?a40 ?a41 ?a42 ?a43 ?a44 ?a45 ?a46 ?a47 ?a48 ?z0 ?z1 ?z2 ?z3 ?z4 ?z5 ?z6 ?z7 ?z8 ?z9 ?z10 ?z11 ?z12 ?z13 ?z14 ?z15 ?n0
    (case r8 => rfl)
    (case r19 => rfl)
    (case r20 => rfl)
    (case r21 => rfl)
    (case r22 => rfl)
    (case a0 => refine' FF.at_mk ?p1 ?p2 ?p3 ?p4; (case p1 => k_is); (case p2 => k_is); (case p3 => k_is); (case p4 => k_is))
    (case a1 => refine' FF.at_mk ?p1 ?p2 ?p3 ?p4; (case p1 => k_is); (case p2 => k_is); (case p3 => k_is); (case p4 => k_is))
    (case a2 => refine' FF.at_mk ?p1 ?p2 ?p3 ?p4; (case p1 => k_is); (case p2 => k_is); (case p3 => k_is); (case p4 => k_is))
    (case a3 => refine' FF.at_mk ?p1 ?p2 ?p3 ?p4; (case p1 => k_is); (case p2 => k_is); (case p3 => k_is); (case p4 => k_is))
    (case a4 => refine' FF.at_mk ?p1 ?p2 ?p3 ?p4; (case p1 => k_is); (case p2 => k_is); (case p3 => k_is); (case p4 => k_is))
    (case a5 => refine' FF.at_mk ?p1 ?p2 ?p3 ?p4; (case p1 => k_is); (case p2 => k_is); (case p3 => k_is); (case p4 => k_is))
    (case a6 => refine' FF.at_mk ?p1 ?p2 ?p3 ?p4; (case p1 => k_is); (case p2 => k_is); (case p3 => k_is); (case p4 => k_is))
    (case a7 => refine' FF.at_mk ?p1 ?p2 ?p3 ?p4; (case p1 => k_is); (case p2 => k_is); (case p3 => k_is); (case p4 => k_is))
    (case a8 => refine' FF.atC_mk ?p1 ?p2 ?p3 ?p4 ?p5 ?p6 ?p7 ?p8 ?p9 ?p10 ?p11 ?p12 ?p13; (case p1 => k_is); (case p2 => k_is); (case p3 => k_is); (case p4 => k_is); (case p5 => k_is); (case p6 => rfl); (case p7 => rfl); (case p8 => rfl); (case p9 => rfl); (case p10 => rfl); (case p11 => rfl); (case p12 => decide); (case p13 => rfl))
    (case a9 => refine' FF.at_mk ?p1 ?p2 ?p3 ?p4; (case p1 => k_is); (case p2 => k_is); (case p3 => k_is); (case p4 => k_is))
    (case a10 => refine' FF.at_mk ?p1 ?p2 ?p3 ?p4; (case p1 => k_is); (case p2 => k_is); (case p3 => k_is); (case p4 => k_is))
    (case a11 => refine' FF.at_mk ?p1 ?p2 ?p3 ?p4; (case p1 => k_is); (case p2 => k_is); (case p3 => k_is); (case p4 => k_is))
    (case a12 => refine' FF.at_mk ?p1 ?p2 ?p3 ?p4; (case p1 => k_is); (case p2 => k_is); (case p3 => k_is); (case p4 => k_is))
    (case a13 => refine' FF.at_mk ?p1 ?p2 ?p3 ?p4; (case p1 => k_is); (case p2 => k_is); (case p3 => k_is); (case p4 => k_is))
    (case a14 => refine' FF.at_mk ?p1 ?p2 ?p3 ?p4; (case p1 => k_is); (case p2 => k_is); (case p3 => k_is); (case p4 => k_is))
    (case a15 => refine' FF.at_mk ?p1 ?p2 ?p3 ?p4; (case p1 => k_is); (case p2 => k_is); (case p3 => k_is); (case p4 => k_is))
    (case a16 => refine' FF.at_mk ?p1 ?p2 ?p3 ?p4; (case p1 => k_is); (case p2 => k_is); (case p3 => k_is); (case p4 => k_is))
    (case a17 => refine' FF.at_mk ?p1 ?p2 ?p3 ?p4; (case p1 => k_is); (case p2 => k_is); (case p3 => k_is); (case p4 => k_is))
    (case a18 => refine' FF.at_mk ?p1 ?p2 ?p3 ?p4; (case p1 => k_is); (case p2 => k_is); (case p3 => k_is); (case p4 => k_is))
    (case a19 => refine' FF.atC_mk ?p1 ?p2 ?p3 ?p4 ?p5 ?p6 ?p7 ?p8 ?p9 ?p10 ?p11 ?p12 ?p13; (case p1 => k_is); (case p2 => k_is); (case p3 => k_is); (case p4 => k_is); (case p5 => k_is); (case p6 => rfl); (case p7 => rfl); (case p8 => rfl); (case p9 => rfl); (case p10 => rfl); (case p11 => rfl); (case p12 => decide); (case p13 => rfl))
    (case a20 => refine' FF.atC_mk ?p1 ?p2 ?p3 ?p4 ?p5 ?p6 ?p7 ?p8 ?p9 ?p10 ?p11 ?p12 ?p13; (case p1 => k_is); (case p2 => k_is); (case p3 => k_is); (case p4 => k_is); (case p5 => k_is); (case p6 => rfl); (case p7 => rfl); (case p8 => rfl); (case p9 => rfl); (case p10 => rfl); (case p11 => rfl); (case p12 => decide); (case p13 => rfl))
    (case a21 => refine' FF.atC_mk ?p1 ?p2 ?p3 ?p4 ?p5 ?p6 ?p7 ?p8 ?p9 ?p10 ?p11 ?p12 ?p13; (case p1 => k_is); (case p2 => k_is); (case p3 => k_is); (case p4 => k_is); (case p5 => k_is); (case p6 => rfl); (case p7 => rfl); (case p8 => rfl); (case p9 => rfl); (case p10 => rfl); (case p11 => rfl); (case p12 => decide); (case p13 => rfl))
    (case a22 => refine' FF.atC_mk ?p1 ?p2 ?p3 ?p4 ?p5 ?p6 ?p7 ?p8 ?p9 ?p10 ?p11 ?p12 ?p13; (case p1 => k_is); (case p2 => k_is); (case p3 => k_is); (case p4 => k_is); (case p5 => k_is); (case p6 => rfl); (case p7 => rfl); (case p8 => rfl); (case p9 => rfl); (case p10 => rfl); (case p11 => rfl); (case p12 => decide); (case p13 => rfl))
    (case a23 => refine' FF.at_mk ?p1 ?p2 ?p3 ?p4; (case p1 => k_is); (case p2 => k_is); (case p3 => k_is); (case p4 => k_is))
    (case a24 => refine' FF.at_mk ?p1 ?p2 ?p3 ?p4; (case p1 => k_is); (case p2 => k_is); (case p3 => k_is); (case p4 => k_is))
    (case a25 => refine' FF.at_mk ?p1 ?p2 ?p3 ?p4; (case p1 => k_is); (case p2 => k_is); (case p3 => k_is); (case p4 => k_is))
    (case a26 => refine' FF.at_mk ?p1 ?p2 ?p3 ?p4; (case p1 => k_is); (case p2 => k_is); (case p3 => k_is); (case p4 => k_is))
    (case a27 => refine' FF.at_mk ?p1 ?p2 ?p3 ?p4; (case p1 => k_is); (case p2 => k_is); (case p3 => k_is); (case p4 => k_is))
    (case a28 => refine' FF.at_mk ?p1 ?p2 ?p3 ?p4; (case p1 => k_is); (case p2 => k_is); (case p3 => k_is); (case p4 => k_is))
    (case a29 => refine' FF.at_mk ?p1 ?p2 ?p3 ?p4; (case p1 => k_is); (case p2 => k_is); (case p3 => k_is); (case p4 => k_is))
    (case a30 => refine' FF.at_mk ?p1 ?p2 ?p3 ?p4; (case p1 => k_is); (case p2 => k_is); (case p3 => k_is); (case p4 => k_is))
    (case a31 => refine' FF.at_mk ?p1 ?p2 ?p3 ?p4; (case p1 => k_is); (case p2 => k_is); (case p3 => k_is); (case p4 => k_is))
    (case a32 => refine' FF.at_mk ?p1 ?p2 ?p3 ?p4; (case p1 => k_is); (case p2 => k_is); (case p3 => k_is); (case p4 => k_is))
    (case a33 => refine' FF.at_mk ?p1 ?p2 ?p3 ?p4; (case p1 => k_is); (case p2 => k_is); (case p3 => k_is); (case p4 => k_is))
    (case a34 => refine' FF.at_mk ?p1 ?p2 ?p3 ?p4; (case p1 => k_is); (case p2 => k_is); (case p3 => k_is); (case p4 => k_is))
    (case a35 => refine' FF.at_mk ?p1 ?p2 ?p3 ?p4; (case p1 => k_is); (case p2 => k_is); (case p3 => k_is); (case p4 => k_is))
    (case a36 => refine' FF.at_mk ?p1 ?p2 ?p3 ?p4; (case p1 => k_is); (case p2 => k_is); (case p3 => k_is); (case p4 => k_is))
    (case a37 => refine' FF.at_mk ?p1 ?p2 ?p3 ?p4; (case p1 => k_is); (case p2 => k_is); (case p3 => k_is); (case p4 => k_is))
    (case a38 => refine' FF.at_mk ?p1 ?p2 ?p3 ?p4; (case p1 => k_is); (case p2 => k_is); (case p3 => k_is); (case p4 => k_is))
    (case a39 => refine' FF.at_mk ?p1 ?p2 ?p3 ?p4; (case p1 => k_is); (case p2 => k_is); (case p3 => k_is); (case p4 => k_is))
    (case a40 => refine' FF.at_mk ?p1 ?p2 ?p3 ?p4; (case p1 => k_is); (case p2 => k_is); (case p3 => k_is); (case p4 => k_is))
    (case a41 => refine' FF.at_mk ?p1 ?p2 ?p3 ?p4; (case p1 => k_is); (case p2 => k_is); (case p3 => k_is); (case p4 => k_is))
    (case a42 => refine' FF.at_mk ?p1 ?p2 ?p3 ?p4; (case p1 => k_is); (case p2 => k_is); (case p3 => k_is); (case p4 => k_is))
    (case a43 => refine' FF.at_mk ?p1 ?p2 ?p3 ?p4; (case p1 => k_is); (case p2 => k_is); (case p3 => k_is); (case p4 => k_is))
    (case a44 => refine' FF.at_mk ?p1 ?p2 ?p3 ?p4; (case p1 => k_is); (case p2 => k_is); (case p3 => k_is); (case p4 => k_is))
    (case a45 => refine' FF.at_mk ?p1 ?p2 ?p3 ?p4; (case p1 => k_is); (case p2 => k_is); (case p3 => k_is); (case p4 => k_is))
    (case a46 => refine' FF.at_mk ?p1 ?p2 ?p3 ?p4; (case p1 => k_is); (case p2 => k_is); (case p3 => k_is); (case p4 => k_is))
    (case a47 => refine' FF.at_mk ?p1 ?p2 ?p3 ?p4; (case p1 => k_is); (case p2 => k_is); (case p3 => k_is); (case p4 => k_is))
    (case a48 => refine' FF.at_mk ?p1 ?p2 ?p3 ?p4; (case p1 => k_is); (case p2 => k_is); (case p3 => k_is); (case p4 => k_is))
    (case z0 => k_is)
    (case z1 => k_is)
    (case z2 => k_is)
    (case z3 => k_is)
    (case z4 => k_is)
    (case z5 => k_is)
    (case z6 => k_is)
    (case z7 => k_is)
    (case z8 => k_is)
    (case z9 => k_is)
    (case z10 => k_is)
    (case z11 => k_is)
    (case z12 => k_is)
    (case z13 => k_is)
    (case z14 => k_is)
    (case z15 => k_is)
    (case n0 => first | k_is | rfl | kernel_rfl)
