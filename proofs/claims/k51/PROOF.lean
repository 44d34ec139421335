import PyProof.Rows.All
import Wide.All
import OpenK.AllK
import Wide.FinOn
import HandS.ForMost
import HandS.IsInst
import HandS.TupAny
import HandS.TupLe
import HandS.Wide
import HandS.Style
import HandS.SortInts
import HandS.Conv
import HandS.More
import HandS.EndTab
import HandS.EndOwn
import HandS.AnyAll
import HandS.GenOver
import HandS.Evl
import HandS.Walk
import HandS.NoneIn
import HandS.Zip
import HandS.DictComp
import HandS.SetFor
import KE.GoesEnum
import HandS.TupMul
import HandS.Strs
import KE.DataMinMax
import HandS.ForExc
import HandS.ExcIs
import HandS.SetKeys
import KE.DatumOrd
import HandS.Remove
import HandS.SortRule
import KE.KDictCopyH
import KE.KDictSum
import PySem.Challenge.RW_friendfoe_k51_what_is_orders
set_option Elab.async false
set_option linter.all false
set_option maxRecDepth 100000
namespace FF
open PySem PySem.Spec PyProof.Rows L2
/-! ### heaps: what is kept -/
/-- all that is tracked, but at d and c, is as it was -/
def Kp (d c : Addr) (H H' : Hp) : Prop := ∀ b o, b ≠ d → b ≠ c → H b = some o → H' b = some o
theorem Kp.refl {d c : Addr} {H : Hp} : Kp d c H H := fun _ _ _ _ h => h
theorem Kp.trans {d c : Addr} {H H1 H2 : Hp} (a : Kp d c H H1) (b : Kp d c H1 H2) : Kp d c H H2 := fun x o h1 h2 h => b x o h1 h2 (a x o h1 h2 h)
theorem Kp.at_d {d c : Addr} {H : Hp} {o : HO} : Kp d c H (upd H d o) := fun b u h1 _ h => by rw [upd_ne h1]; exact h
theorem Kp.at_c {d c : Addr} {H : Hp} {o : HO} : Kp d c H (upd H c o) := fun b u _ h2 h => by rw [upd_ne h2]; exact h
theorem Kp.new {d c p : Addr} {H : Hp} {o : HO} (hp : H p = none) : Kp d c H (upd H p o) := fun b u _ _ h => by rw [upd_ne (ne_of_none h hp)]; exact h
theorem same_new {H : Hp} {p : Addr} {o : HO} (h : H p = none) : Same H (upd H p o) := fun b x e => by
  rw [upd_ne (ne_of_none e h)]
  exact e
theorem Same.kp {d c : Addr} {H H' : Hp} (s : Same H H') : Kp d c H H' := fun b o _ _ h => s b o h
/-! ### defs as they are called -/
def Df (P : Program) (w : World) (K : PySem.W.Frag) (mg : Str → Option Value) (base : Heap) (k : Nat) (x : Str) (ps : List Str) (sp : Sp) : Prop :=
  ∃ (f : Addr) (fd : FuncData), FnOk P w K mg base CX0 k f fd ps sp ∧ mg x = some (.ref f) ∧ PySem.W.keepIn K (.ref f) = true ∧ Binds K fd ps []
/-- built-in names that the module has not taken -/
structure Free (mg : Str → Option Value) : Prop where
  len : mg "len" = none
  int : mg "int" = none
  bool : mg "bool" = none
  str : mg "str" = none
  list : mg "list" = none
  tuple : mg "tuple" = none
  range : mg "range" = none
  isinstance : mg "isinstance" = none
  sum : mg "sum" = none
theorem mod_rng {a m : Int} (h : 0 < m) : 0 ≤ a % m ∧ a % m < m := ⟨Int.emod_nonneg a (by omega), Int.emod_lt_of_pos a h⟩
/-! ### a generator expression's own frame -/
/-- the context of a generator's turns: its frame cenv stands over the def's -/
abbrev gX (X : Cx) (s : Shared) (H : Hp) (A' : Around) (cenv : Env) (fp : List Addr) : Cx :=
  { X with A := A', s_0 := s, H_0 := H, env := cenv, outer := X.stack, stack := cenv :: X.stack, ex := fp, fn := fun _ => false, pn := [], xe := fun _ _ => False }
/-- what is asked of the expression's own scope -/
structure GnOk (scope : Scope) : Prop where
  co : scope.isCoroutine = false
  nocell : ∀ y ∈ scope.names, y.2 ≠ .cell
  dot : scope.names.lookup (".0" : Str) = some NameKind.local
section
variable {X : Cx} {pins : List (Addr × Obj)} {σ : L2.St} {H : Hp} {s : Shared}
theorem gen_start {scope : Scope} {own : List (Str × Nat)} {fp : List Addr} {A' : Around} {code : Value} {m0 : Str → Option Value} {h5 : Heap} {g5 : Array GenState} {t5 : Nat} {a : Addr} {go : Obj}
    (I : Inv X pins σ H s) (ok : BlkOk X.N X.env.scope scope own) (gk : GnOk scope) (hN : X.N.Nodup) (hfp : ∀ b ∈ fp, FpOk X pins H b ∧ b < s.heap.objs.size)
    (hA : A'.handled = none) (hF : A'.frames = some (genEnv scope (cloFrom X.env.cells scope.names []) s.heap.objs.size code builtinsNs X.env :: X.stack))
    (kp : ∀ b o, s.heap.get? b = some o → h5.get? b = some o) (hn : h5.Ns s.heap.objs.size m0) (hm0 : ∀ x, x ≠ (".0" : Str) → m0 x = none) (hdN : (".0" : Str) ∉ X.N) (hb5 : AllBare g5)
    (ha : s.heap.objs.size < a) (hgo : h5.get? a = some go) (hgd : ∀ v, go.data ≠ .cell v) :
    Inv (gX X s H A' (genEnv scope (cloFrom X.env.cells scope.names []) s.heap.objs.size code builtinsNs X.env) fp) [(a, go)] (wipe σ (own.map (·.2))) H { s with heap := h5, gens := g5, toks := t5 } := by
  have hfree : ∀ y ∈ scope.names, y.2 = .free → ∃ c, X.env.cells.lookup y.1 = some c := fun y hy e =>
    (ok.free y hy e).elim (fun k => I.ok.has _ (.inl k)) fun k => I.ok.has _ (.inr k)
  have cm : ∀ {y c}, (y, c) ∈ cloFrom X.env.cells scope.names [] → X.env.cells.lookup y = some c ∧ c < s.heap.objs.size := fun {y c} q => by
    rcases cloFrom_mem q with q | ⟨h1, e1⟩
    · cases q
    · obtain ⟨c1, hc1⟩ := hfree _ h1 rfl
      rw [hc1] at e1
      cases e1
      obtain ⟨w1, z1⟩ := I.cell _ _ hc1
      exact ⟨hc1, z1.lt⟩
  have cl : ∀ {y c}, (cloFrom X.env.cells scope.names []).lookup y = some c → X.env.cells.lookup y = some c ∧ c < s.heap.objs.size := fun {y c} e => cm (PySem.mem_of_lookup e)
  have look : ∀ {y}, scope.names.lookup y = some .free → ∃ c, (cloFrom X.env.cells scope.names []).lookup y = some c := fun {y} e =>
    mem_lookup (cloFrom_has (cells := X.env.cells) (acc := []) (PySem.mem_of_lookup e))
  generalize hce : genEnv scope (cloFrom X.env.cells scope.names []) s.heap.objs.size code builtinsNs X.env = ce at hF
  have cL : ce.locals = s.heap.objs.size := by rw [← hce]; rfl
  have cC : ce.cells = cloFrom X.env.cells scope.names [] := by rw [← hce]; rfl
  have cS : ce.scope = scope := by rw [← hce]; rfl
  have cF : ce.frame = some ce.locals := by rw [← hce]; rfl
  have okG : (gX X s H A' ce fp).Ok := by
    refine ⟨I.ok.mod, ?_, ?_, ?_, ?_, fun y z c e1 e2 => ?_, fun y hy => ?_, fun y c z e => ?_, fun _ => hA, hF, .inr ⟨rfl, cF⟩, fun b hb => ⟨?_, fun y c e z => ?_⟩, I.bs, Nat.le_trans I.ok.bsz I.sz, fun b o e hb => ?_, fun b hb z => ?_, I.stack, I.stkFree⟩
    · show ce.scope.kind = _
      rw [cS]
      exact ok.kind
    · show ce.globals = _
      rw [← hce]
      exact I.ok.glob
    · show ce.builtins = _
      rw [← hce]
      rfl
    · show s.heap.objs.size ≤ ce.locals
      rw [cL]
      exact Nat.le_refl _
    · have e1 : ce.cells.lookup y = some c := e1
      have e2 : ce.cells.lookup z = some c := e2
      rw [cC] at e1 e2
      exact I.ok.inj y z c (cl e1).1 (cl e2).1
    · show ∃ c, ce.cells.lookup y = some c
      rw [cC]
      have hy : scope.names.lookup y = some .cell ∨ scope.names.lookup y = some .free := by
        have hy' : ce.scope.names.lookup y = some .cell ∨ ce.scope.names.lookup y = some .free := hy
        rw [cS] at hy'
        exact hy'
      rcases hy with k | k
      · exact absurd rfl (gk.nocell _ (PySem.mem_of_lookup k))
      · exact look k
    · exact absurd (show false = true from z) Bool.false_ne_true
    · show b ≠ ce.locals
      rw [cL]
      exact Nat.ne_of_lt (hfp b hb).2
    · have e : ce.cells.lookup y = some c := e
      rw [cC] at e
      exact (hfp b hb).1.2.2.2.2.1 y c (cl e).1 z
    · rcases (hfp b hb).1.2.2.2.1 with q | q
      · exact I.ok.noex b o e q
      · exact absurd (Nat.lt_of_lt_of_le (Heap.lt_size e) (Nat.le_trans I.ok.bsz q)) (Nat.lt_irrefl _)
    · rcases List.mem_cons.mp (I.stkSub b z) with q | q
      · exact (hfp b hb).1.2.1 q
      · exact (hfp b hb).1.2.2.1 q
  refine ⟨okG, rfl, hb5, Un.kept kp, ⟨m0, ?_, fun i y av e1 e2 e3 => ?_⟩, fun y c e => ?_, ?_, fun y c e => ?_, fun p hp => ?_, I.hok.kept kp, by rw [wipe_length]; exact I.len⟩
  · show Heap.Ns _ ce.locals _
    rw [cL]
    exact hn
  · obtain ⟨e2, hne⟩ := wipe_some e2
    have e3 : Vis ce.scope y := e3
    rw [cS] at e3
    have hfr : scope.names.lookup y = some .free := by
      have no : ∀ k, scope.names.lookup y = some k → ¬ (k = .local ∨ k = .cell) := fun k hk hh => by
        rcases ok.own _ (PySem.mem_of_lookup hk) hh with q | q
        · obtain ⟨p, hp, hpy⟩ := List.mem_map.mp q
          have e4 := ok.ix p hp
          have hpy : p.1 = y := hpy
          rw [hpy] at e4
          exact hne (List.mem_map.mpr ⟨p, hp, nodup_ix hN e4 e1⟩)
        · exact q (List.mem_of_getElem? e1)
      rcases e3 with e3 | e3 | e3
      · exact absurd (.inl rfl) (no _ e3)
      · exact absurd (.inr rfl) (no _ e3)
      · exact e3
    obtain ⟨m, _, hl⟩ := I.loc
    have hvis : Vis X.env.scope y := (ok.free _ (PySem.mem_of_lookup hfr) rfl).elim (fun k => .inr (.inl k)) fun k => .inr (.inr k)
    obtain ⟨w1, r1, q1⟩ := hl i y av e1 e2 hvis
    obtain ⟨c, hc⟩ := look hfr
    refine ⟨w1, r1, .inr ⟨.inr (by show ce.scope.names.lookup y = _; rw [cS]; exact hfr), c, by show ce.cells.lookup y = _; rw [cC]; exact hc, ?_⟩⟩
    rcases q1 with ⟨k, _⟩ | ⟨_, c', e', z⟩
    · have k : X.env.scope.names.lookup y = some .local := k
      rcases ok.free _ (PySem.mem_of_lookup hfr) rfl with k' | k' <;> (have k' : X.env.scope.names.lookup y = _ := k'; rw [k'] at k; cases k)
    · rw [(cl hc).1] at e'
      cases e'
      exact z.keeps kp
  · have e : ce.cells.lookup y = some c := e
    rw [cC] at e
    obtain ⟨w1, z1⟩ := I.cell y c (cl e).1
    exact ⟨w1, z1.keeps kp⟩
  · show H ce.locals = none
    rw [cL]
    exact I.hok.fresh (Nat.le_refl _)
  · have e : ce.cells.lookup y = some c := e
    rw [cC] at e
    exact I.freeC y c (cl e).1
  · have hp : p = (a, go) := by simpa using hp
    subst hp
    refine ⟨hgo, I.hok.fresh (Nat.le_of_lt ha), ?_, fun z => ?_, hgd⟩
    · show a ≠ ce.locals
      rw [cL]
      exact Nat.ne_of_gt ha
    · have z : a ∈ frs X.stack := z
      obtain ⟨_, o, ho, _⟩ := I.stack.mem z
      exact absurd (Nat.lt_trans (Heap.lt_size ho) ha) (Nat.lt_irrefl _)
end
/-! ### all(..), any(..) of a generator, told by what each turn does -/
/-- between a yield and the next turn -/
structure Rs (s s' : Shared) : Prop where
  heap : s'.heap = s.heap
  os : s'.os = s.os
  bare : AllBare s'.gens
  size : s.gens.size ≤ s'.gens.size
theorem inv_gens {X : Cx} {pins : List (Addr × Obj)} {σ : L2.St} {H : Hp} {s s' : Shared} (I : Inv X pins σ H s) (h1 : s'.heap = s.heap) (h2 : s'.os = s.os) (h3 : AllBare s'.gens) : Inv X pins σ H s' := by
  obtain ⟨hh, g, d, t, o⟩ := s'
  have e1 : hh = s.heap := h1
  have e2 : o = s.os := h2
  subst e1 e2
  exact ⟨I.ok, I.os, h3, I.base, I.loc, I.cell, I.free, I.freeC, I.pin, I.hok, I.len⟩
theorem Rs.inv {X : Cx} {pins : List (Addr × Obj)} {σ : L2.St} {H : Hp} {s s' : Shared} (r : Rs s s') (I : Inv X pins σ H s) : Inv X pins σ H s' := by
  obtain ⟨h1, h2, h3, _⟩ := r
  obtain ⟨hh, g, d, t, o⟩ := s'
  have e1 : hh = s.heap := h1
  have e2 : o = s.os := h2
  subst e1 e2
  exact ⟨I.ok, I.os, h3, I.base, I.loc, I.cell, I.free, I.freeC, I.pin, I.hok, I.len⟩
theorem bare_set {gens : Array GenState} (h : AllBare gens) {g : Nat} {x : GenState} (hx : x.bare = true) : AllBare (gens.setIfInBounds g x) := fun y hy => by
  obtain ⟨i, hi, rfl⟩ := Array.mem_iff_getElem.mp hy
  rw [Array.size_setIfInBounds] at hi
  rw [Array.getElem_setIfInBounds hi]
  split
  · exact hx
  · exact h _ (Array.getElem_mem hi)
theorem Rs.set {s : Shared} (hb : AllBare s.gens) {g : Nat} {x : GenState} (hx : x.bare = true) : Rs s (s.setGen g x) :=
  ⟨rfl, rfl, bare_set hb hx, Nat.le_of_eq (GenW.setGen_size s g x).symm⟩
theorem Rs.trans {s s1 s2 : Shared} (a : Rs s s1) (b : Rs s1 s2) : Rs s s2 := ⟨b.heap.trans a.heap, b.os.trans a.os, b.bare, Nat.le_trans a.size b.size⟩
/-- the protocol of a generator whose items are truths: T b: what holds where b comes out -/
def gY (gi : Nat) (a : Addr) (stop : Bool) (Fin : Shared → Prop) : Protocol := fun n s₀ v s kap =>
  ∃ b, v = .bool b ∧ s.heap.IsGen a gi ∧ s.heap.NoLimit ∧ AllBare s.gens ∧ gi < s.gens.size ∧ (b = stop → Fin s) ∧ (b ≠ stop → ∀ s', Rs s s' → kap (.send .none) s')
def gR (End : Shared → Prop) : Nat → Shared → Shared → Prop := fun _ _ s => AllBare s.gens ∧ End s
/-- the generator waits -/
def Waits (prog : Program) (w : World) (A : Around) (gi : Nat) (a : Addr) (stop : Bool) (End Fin : Shared → Prop) (n : Nat) (s : Shared) : Prop :=
  s.heap.IsGen a gi ∧ s.heap.NoLimit ∧ AllBare s.gens ∧ ∃ gs, s.gens[gi]? = some gs ∧
    ∀ s', Rs s s' → gs.Goes (model prog w) A.in1 (fun n s₀ r s₁ => r = .ok .next ∧ gR End n s₀ s₁) (gY gi a stop Fin) n (.send .none) s'
section
variable {prog : Program} {w : World} {A : Around} {gi : Nat} {a : Addr} {stop : Bool} {End Fin : Shared → Prop}
theorem waits_next {n : Nat} {s : Shared} {Q : Option Value → Shared → Prop} {E : Value → Shared → Prop} (hh : A.handled = none) (hroom : A.depth < recursionLimit)
    (hE : ∀ s s' : Shared, End s → s'.os = s.os → AllBare s'.gens → (∀ b o, s.heap.get? b = some o → s'.heap.get? b = some o) → End s')
    (hF : ∀ s s' : Shared, Fin s → s'.os = s.os → AllBare s'.gens → (∀ b o, s.heap.get? b = some o → s'.heap.get? b = some o) → Fin s')
    (W : Waits prog w A gi a stop End Fin n s) (hN : ∀ s', End s' → Q none s') (hS : ∀ s', Fin s' → Q (some (.bool stop)) s')
    (hG : ∀ s' m, m < n → Waits prog w A gi a stop End Fin m s' → Q (some (.bool (!stop))) s') : wpAny (model prog w) A (pyNext (.ref a)) Q E s := by
  obtain ⟨hg, hl, hb, gs, hgs, hgo⟩ := W
  refine wpAny_pyNext_genexpQ (P := gR End) (Y := gY gi a stop Fin) hh hl hroom hg hgs (hgo _ (Rs.set hb rfl)) (fun v s₁ gs' hb' hv => ?_) fun s₁ hp h' hk => ?_
  · obtain ⟨b, rfl, g1, l1, b1, z1, f1, k1⟩ := hv
    by_cases e : b = stop
    · subst e
      exact hS _ (hF _ _ (f1 rfl) rfl (bare_set b1 hb') fun _ _ q => q)
    · have eb : b = !stop := by cases b <;> cases stop <;> first | rfl | exact absurd rfl e
      subst eb
      cases n with
      | zero => exact False.elim (k1 e s₁ ⟨rfl, rfl, b1, Nat.le_refl _⟩)
      | succ m =>
        refine hG _ m (Nat.lt_succ_self m) ⟨g1, l1, bare_set b1 hb', gs', ?_, fun s' r => k1 e s' ((Rs.set b1 hb').trans r)⟩
        show (s₁.gens.setIfInBounds gi gs')[gi]? = some gs'
        rw [Array.getElem?_setIfInBounds_self_of_lt z1]
  · obtain ⟨b1, e1⟩ := hp
    exact hN _ (hE _ _ e1 rfl (bare_set b1 rfl) fun b o q => hk b o q)
end
section
variable {prog : Program} {w : World} {A : Around} {gi : Nat} {a : Addr} {End Fin : Shared → Prop}
theorem all_loop (hh : A.handled = none) (hroom : A.depth < recursionLimit)
    (hE : ∀ s s' : Shared, End s → s'.os = s.os → AllBare s'.gens → (∀ b o, s.heap.get? b = some o → s'.heap.get? b = some o) → End s')
    (hF : ∀ s s' : Shared, Fin s → s'.os = s.os → AllBare s'.gens → (∀ b o, s.heap.get? b = some o → s'.heap.get? b = some o) → Fin s') :
    ∀ (n : Nat) (s : Shared), Waits prog w A.in1 gi a false End Fin n s →
      codeAny (model prog w) A (.builtin "all.loop" ⟨[.ref a], []⟩) (fun r s' => (r = .ok (.ret (.bool true)) ∧ End s') ∨ (r = .ok (.ret (.bool false)) ∧ Fin s')) s := by
  intro n
  induction n using Nat.strongRecOn with
  | ind n ih =>
    intro s W
    refine codeAny_builtin PySem.F.entry_all_loop ?_
    rw [Around.under_plainId PySem.F.plain_all_loop]
    show wpAny (model prog w) A.in1 (pyNext (.ref a) >>= _) _ _ s
    refine wpAny_bind (waits_next (A := A.in1) hh hroom hE hF W (fun s' e => ?_) (fun s' e => ?_) fun s' m hm W' => ?_)
    · exact wpAny_bind (wpAny_rule (wpAny_pure (.inl ⟨rfl, e⟩)))
    · refine wpAny_bind (wpAny_holding (wpAny_truthy_bool ?_))
      refine wpAny_bind (wpAny_letGo ?_)
      exact wpAny_bind (wpAny_rule (wpAny_pure (.inr ⟨rfl, e⟩)))
    · refine wpAny_bind (wpAny_holding (wpAny_truthy_bool ?_))
      refine wpAny_bind (wpAny_letGo ?_)
      exact wpAny_pure ⟨plainId_quiet PySem.F.plain_all_loop _, ih m hm s' W'⟩
end
/-! ### all(elt for target in iter) -/
/-- the reading: W by the turn and a measure; P: the def's table, which may grow -/
def tAll (P : Addr) (wi : TI) (g : TG) (te : TE) (vs : List Nat) : TE := fun σ H Q => wi σ H fun J H1 => GxR.TabG H1 P ∧ ∃ W : Nat → Nat → Hp → Prop, (∀ H2, GxR.Tabbed P H1 H2 → ∃ m, W 0 m H2) ∧ ∀ i m H, W i m H →
  (J.stop i H ∧ Q (.bl true) H) ∨ (J.go i H ∧ ∃ Nx : Hp → Prop, (∀ H', Nx H' → ∃ m', m' < m ∧ W (i + 1) m' H') ∧ ∀ x H', J.yld i H x H' → g x (wipe σ vs) H' fun σ2 H2 => wipe σ2 vs = wipe σ vs ∧
    te σ2 H2 fun y H3 => ∃ b, y = .bl b ∧ if b = true then Nx H3 else Q (.bl false) H3)
section
variable {X : Cx}
theorem pe_all {k : Nat} {c P : Addr} {elt tg iter : Expr} {scope : Scope} {own : List (Str × Nat)} {p pos gpos : Pos} {wi : TI} {g : TG} {te : TE}
    (hr : Room (k + 1) X.A) (TB : GxR.TabB X.base X.mg c P) (hcode : X.env.code = .ref c) (hc : X.calm = true) (hN : X.N.Nodup) (hG : Gl X "all") (hM : X.mg "all" = none) (hi : PI X tg iter wi) (ok : BlkOk X.N X.env.scope scope own) (gk : GnOk scope) (hdN : (".0" : Str) ∉ X.N)
    (hg : ∀ (s : Shared) (H : Hp) (A' : Around) (C : Addr) (cl : List (Str × Addr)) (code : Value) (fp : List Addr), PG (gX X s H A' (genEnv scope cl C code builtinsNs X.env) fp) tg g)
    (he : ∀ (s : Shared) (H : Hp) (A' : Around) (C : Addr) (cl : List (Str × Addr)) (code : Value) (fp : List Addr), Room k A' → PE (gX X s H A' (genEnv scope cl C code builtinsNs X.env) fp) elt te)
    (hs : ∀ v, genFold iter X.env v = pure v := by intro _; rfl)
    (hst : starEach [.GeneratorExp elt [⟨tg, iter, [], 0⟩] scope gpos] X.env = (false, eval (.GeneratorExp elt [⟨tg, iter, [], 0⟩] scope gpos) X.env) :: starEach [] X.env := by rfl) :
    PE X (.Call (.Name "all" p) [.GeneratorExp elt [⟨tg, iter, [], 0⟩] scope gpos] [] pos) (tAll P wi g te (own.map (·.2))) := by
  refine ⟨fun pins s σ H Q I h => ?_⟩
  have hh : X.A.handled = none := hr.hd
  refine wpAny_Call_Name_kw (ld_blt I hG hM PyProof.Rows.boot_all ?_)
  refine PyProof.Rows.callWith_builtin1 ?_ hst (by rfl)
  rw [hst]
  show wpAny _ _ (spliced ((false, eval (.GeneratorExp elt [⟨tg, iter, [], 0⟩] scope gpos) X.env) :: backTo pos (starEach [] X.env))) _ _ s
  have hfree : ∀ y ∈ scope.names, y.2 = .free → ∃ c, X.env.cells.lookup y.1 = some c := fun y hy e =>
    (ok.free y hy e).elim (fun k => I.ok.has _ (.inl k)) fun k => I.ok.has _ (.inr k)
  refine Calls.spliced_cons (wpAny_GeneratorExp_make gk.co (closure_ok hfree) gk.nocell gk.dot ok.kind (by have := hr.dp; omega) (thn (hi.run pins s σ H _ I h) fun xv s1 hx => thn hx fun itv s2 h2 => ?_) hs)
  obtain ⟨it, fp, tn, J, H2, e, I2, T, st2, f2, ⟨ps, hP, ht⟩, W, w0, turn⟩ := h2
  subst e
  refine ⟨I2.nolimit, ?_⟩
  have hPs : s2.heap.get? P = some { cls := .none, data := .fields ps } := I2.hok P _ hP
  have cd : PySem.W.CodeHd s2.heap c P := TB.code.keeps fun b u e => I2.bk b u e
  have sz2 : ∀ b ∈ fp, b < s2.heap.objs.size := fun b hb => by
    obtain ⟨o, e, _⟩ := T.obj _ _ st2 b hb
    exact Heap.lt_size e
  have nfP : ∀ b ∈ fp, b ≠ P := fun b hb z => by
    have q := (f2 b hb).1
    rw [z, hP] at q
    cases q
  -- behind the table
  have cont : ∀ (code : Value) (h3 : Heap) (tk : Nat) (more : Array Value), s2.heap.objs.size ≤ h3.objs.size → (∀ b o, b ≠ P → s2.heap.get? b = some o → h3.get? b = some o) → h3.get? P = some { cls := .none, data := .fields (ps ++ more) } → TriplesOk (ps ++ more).toList →
      wpAny (model X.prog X.w) X.A (builtinsFor X.env.globals X.env.builtins) (fun bi s4 => ∀ h', h'.Ns s4.heap.objs.size (fun y => if y = ".0" then some (.ref it) else none) → Heap.SameBut s4.heap.objs.size (s4.heap.push { cls := .type "frame", data := .dict #[] }) h' →
        wpAny (model X.prog X.w) X.A (spliced (backTo pos (starEach [] X.env))) (fun vs s5 => wpAny (model X.prog X.w) X.A (call (.builtin "all") (.ref h'.objs.size :: vs)) (EP X pins σ Q) X.xe s5) X.xe { s4 with
            gens := s4.gens.push (.fresh (.compStart (.GeneratorExp elt [⟨tg, iter, [], 0⟩] scope gpos) 0 (.ref it) .none (genEnv scope (cloFrom X.env.cells scope.names []) s4.heap.objs.size code bi X.env))), toks := s4.toks + 1 + 1 + 1,
            heap := h'.push { cls := .type "generator", data := .fields #[.int s4.gens.size 0, .str "<genexpr>" (s4.toks + 1), .str (X.env.qual ++ "<genexpr>") (s4.toks + 1 + 1)] } }) X.xe { s2 with heap := h3, toks := tk } := by
    intro code h3 tk more hle3 hk3 hP3 ht3
    have I3 : Inv X pins σ (upd H2 P (.tbl (ps ++ more))) { s2 with heap := h3, gens := s2.gens, drawn := s2.drawn, toks := tk } := GxR.inv_tab I2 hP hk3 hP3 I2.bare
    have tab3 : GxR.Tabbed P H2 (upd H2 P (.tbl (ps ++ more))) := ⟨⟨_, upd_same, ht3⟩, fun b hb => upd_ne hb⟩
    have st3 : tn 0 h3 := T.keep _ _ _ st2 fun b hb o e => hk3 b o (nfP b hb) e
    have f3 : ∀ b ∈ fp, FpOk X pins (upd H2 P (.tbl (ps ++ more))) b := fun b hb => ⟨by rw [upd_ne (nfP b hb)]; exact (f2 b hb).1, (f2 b hb).2⟩
    generalize upd H2 P (.tbl (ps ++ more)) = H3 at I3 tab3 f3
    obtain ⟨m0, hw0⟩ := w0 H3 tab3
    have sz3 : ∀ b ∈ fp, b < h3.objs.size := fun b hb => Nat.lt_of_lt_of_le (sz2 b hb) hle3
    have hs3 : ({ s2 with heap := h3, gens := s2.gens, drawn := s2.drawn, toks := tk } : Shared) = { s2 with heap := h3, toks := tk } := rfl
    rw [hs3] at I3
    generalize hsh : ({ s2 with heap := h3, toks := tk } : Shared) = s3 at I3 ⊢
    have eh : h3 = s3.heap := by rw [← hsh]
    rw [eh] at st3 sz3
    clear hsh hs3 eh hP3 hk3 hle3
    obtain ⟨bm, ob, e1, e2, e3, e4, e5, e6, e7, e8⟩ := TB.bm
    refine wpAny_builtinsFor (m := X.mg) (by rw [I3.ok.glob]; exact I3.mod.glob.keeps I3.bk) e1 e2 (I3.bk _ _ e5) e6 e7 e8 ?_
    intro h' hn' hs'
    refine Calls.spliced_nil ?_
    have hsz : h'.objs.size = s3.heap.objs.size + 1 := by rw [hs'.1, Heap.size_push]
    generalize hgo : ({ cls := .type "generator", data := .fields #[.int s3.gens.size 0, .str "<genexpr>" (s3.toks + 1), .str (X.env.qual ++ "<genexpr>") (s3.toks + 1 + 1)] } : Obj) = go
    have kp5 : ∀ b o, s3.heap.get? b = some o → (h'.push go).get? b = some o := fun b o e => Heap.get?_push_of_some _ (hs'.extBut b o (Nat.ne_of_lt (Heap.lt_size e)) (Heap.get?_push_of_some _ e))
    generalize hce : genEnv scope (cloFrom X.env.cells scope.names []) s3.heap.objs.size code builtinsNs X.env = ce
    have hhA : (X.A.in1.in1.over (.compLoop (.GeneratorExp elt [⟨tg, iter, [], 0⟩] scope gpos) 0 (.ref it) .none ce) []).handled = none := hh
    have hFr : (X.A.in1.in1.over (.compLoop (.GeneratorExp elt [⟨tg, iter, [], 0⟩] scope gpos) 0 (.ref it) .none ce) []).frames = some (ce :: X.stack) := by
      show pushEnvs [ce] (pushEnvs [] X.A.frames) = _
      rw [I3.ok.frames]
      rfl
    have hRm : Room k (X.A.in1.in1.over (.compLoop (.GeneratorExp elt [⟨tg, iter, [], 0⟩] scope gpos) 0 (.ref it) .none ce) []) := by
      have z1 := hr.dp
      have z2 := hr.un
      refine ⟨hhA, ?_, ?_⟩
      · show X.A.depth + 0 + 1 + 3 * k + 5 < recursionLimit
        omega
      · show X.A.units + 1 + 1 + 0 + 3 + 16 * k + 200 < cLine
        omega
    generalize hAg : X.A.in1.in1.over (.compLoop (.GeneratorExp elt [⟨tg, iter, [], 0⟩] scope gpos) 0 (.ref it) .none ce) [] = Ag at hhA hFr hRm
    have I5 : Inv (gX X s3 H3 Ag ce fp) [(h'.objs.size, go)] (wipe σ (own.map (·.2))) H3 { s3 with heap := h'.push go, gens := s3.gens.push (.fresh (.compStart (.GeneratorExp elt [⟨tg, iter, [], 0⟩] scope gpos) 0 (.ref it) .none ce)), toks := s3.toks + 1 + 1 + 1 } := by
      have q := gen_start (code := code) (A' := Ag) (h5 := h'.push go) (g5 := s3.gens.push (.fresh (.compStart (.GeneratorExp elt [⟨tg, iter, [], 0⟩] scope gpos) 0 (.ref it) .none ce))) (t5 := s3.toks + 1 + 1 + 1) (go := go) I3 ok gk hN (fun b hb => ⟨f3 b hb, sz3 b hb⟩) hhA (by rw [hce]; exact hFr) kp5 (hn'.push _)
        (fun x hx => if_neg hx) hdN (I3.bare.push rfl) (a := h'.objs.size) (by omega) (Heap.get?_push_size _ (by rw [← hgo]; rfl)) (by rw [← hgo]; intro v z; cases z)
      rw [hce] at q
      exact q
    have st5 : tn 0 (h'.push go) := T.keep _ _ _ st3 fun b _ o e => kp5 b o e
    have nfp : ∀ b ∈ fp, H3 b = none := fun b hb => (f3 b hb).1
    have pg := hg s3 H3 Ag s3.heap.objs.size (cloFrom X.env.cells scope.names []) code fp
    have pe := he s3 H3 Ag s3.heap.objs.size (cloFrom X.env.cells scope.names []) code fp hRm
    rw [hce] at pg pe
    have cCo : ce.scope.isCoroutine = false := by rw [← hce]; exact gk.co
    clear hn' hs' kp5 w0 hce
    -- back in the def's context
    have back : ∀ {σ' : L2.St} {H' : Hp} {s' : Shared} {pl : List (Addr × Obj)}, Inv (gX X s3 H3 Ag ce fp) pl σ' H' s' → Inv X pins σ H' s' := fun {σ' H' s' pl} J => I3.call' (ch := fp) J.os J.base J.hok J.bare fun b hb =>
      ⟨(f3 b hb).2.2.2.1, (f3 b hb).2.1, (f3 b hb).2.2.2.2.1, (f3 b hb).2.2.2.2.2⟩
    have stat : ∀ {σ' : L2.St} {H' : Hp} {s' : Shared}, Inv (gX X s3 H3 Ag ce fp) [(h'.objs.size, go)] σ' H' s' → (∀ b ∈ fp, H' b = none) → ∀ b ∈ fp, FpOk (gX X s3 H3 Ag ce fp) [(h'.objs.size, go)] H' b := fun {σ' H' s'} J hn b hb =>
      ⟨hn b hb, (J.ok.exf b hb).1, J.ok.exfs b hb, .inl hb, fun x c e => (J.ok.exf b hb).2 x c e, fun p hp => by
        have hp : p = (h'.objs.size, go) := by simpa using hp
        rw [hp]
        exact Nat.ne_of_gt (Nat.lt_trans (sz3 b hb) (by rw [hsz]; exact Nat.lt_succ_self _))⟩
    have gen : ∀ {σ' : L2.St} {H' : Hp} {s' : Shared} {pl : List (Addr × Obj)}, Inv (gX X s3 H3 Ag ce fp) ([(h'.objs.size, go)] ++ pl) σ' H' s' → s'.heap.IsGen h'.objs.size s3.gens.size := fun {σ' H' s' pl} J => by
      have q := (J.pin (h'.objs.size, go) (by simp)).1
      exact ⟨go, _, _, q, by rw [← hgo], by rw [← hgo], by rw [← hgo]⟩
    -- the turns
    have loop : ∀ (m n i : Nat) (s₀ s : Shared) (H : Hp), m < n → W i m H → Inv (gX X s3 H3 Ag ce fp) [(h'.objs.size, go)] (wipe σ (own.map (·.2))) H s → tn i s.heap → (∀ b ∈ fp, H b = none) → s3.gens.size + 1 ≤ s.gens.size →
        Seg (model X.prog X.w) X.A.in1.in1 (fun n s₀ r s₁ => r = .ok .next ∧ gR (fun s => ∃ H', Inv X pins σ H' s ∧ Q (.bl true) H') n s₀ s₁) (gY s3.gens.size h'.objs.size false fun s => ∃ H', Inv X pins σ H' s ∧ Q (.bl false) H') n s₀
          (.compLoop (.GeneratorExp elt [⟨tg, iter, [], 0⟩] scope gpos) 0 (.ref it) .none ce) ((model X.prog X.w).den (.compLoop (.GeneratorExp elt [⟨tg, iter, [], 0⟩] scope gpos) 0 (.ref it) .none ce)) [] s := by
      intro m
      induction m using Nat.strongRecOn with
      | ind m ih =>
        intro n i s₀ s H hmn w J st nf hz
        show Seg (model X.prog X.w) _ _ _ n s₀ _ ((compTurn (.GeneratorExp elt [⟨tg, iter, [], 0⟩] scope gpos) 0 (.ref it) .none ce).onRaise (leaving ce)) [] s
        rw [compTurn_gen]
        rw [Sem.onRaise_eq_wrap]
        refine seg_bind_wrap (wpAny_standAt (seg_bind_wrap ?_))
        rw [hAg]
        rcases turn i m H w with ⟨stp, qq⟩ | ⟨go', Nx, hNx, step⟩
        · refine thnF (T.done (gX X s3 H3 Ag ce fp) rfl rfl rfl hc i _ s _ H (fun _ _ => False) J (stat J nf) st stp) fun r s6 ⟨hr6, J6⟩ => ?_
          subst hr6
          exact seg_end (.ok .next) ⟨rfl, J6.bare, H, back J6, qq⟩
        · refine GenW.wpAny_gsz hz (thnF (T.item (gX X s3 H3 Ag ce fp) rfl rfl rfl hc i _ s _ H (fun _ _ => False) J (stat J nf) st go') fun r s6 ⟨u, hr6, h6⟩ hz6 => ?_)
          subst hr6
          refine seg_bind_wrap ?_
          rw [hAg]
          refine GenW.wpAny_gsz hz6 (thnF h6 fun _ s7 ⟨x, H7, J7, r7, y7, st7, n7⟩ hz7 => ?_)
          have J7' := J7.pinned (stat J7 n7) (T.obj _ _ st7)
          refine seg_bind_wrap ?_
          rw [hAg]
          refine GenW.wpAny_gsz hz7 (thnF (pg.run _ s7 _ H7 x u _ J7' r7 (step x H7 y7)) fun _ s8 ⟨σ8, H8, J8, hw8, q8⟩ hz8 => ?_)
          simp only [List.forIn_nil]
          refine seg_bind_wrap (wpAny_pure ?_)
          simp only [if_true]
          have hy : ∀ v, yieldOut ce v = yieldValue v := fun v => by simp only [yieldOut, cCo, Bool.false_eq_true, if_false]
          simp only [hy]
          rw [Sem.bind_eq_wrap', Sem.bind_eq_wrap']
          rw [Sem.wrap_wrap, Sem.wrap_wrap]
          refine seg_wrap ?_
          rw [hAg]
          refine GenW.wpAny_gsz hz8 (thnF (pe.run _ s8 σ8 H8 _ J8 q8) fun z s9 ⟨yv, H9, J9, r9, b, eb, qb⟩ hz9 => ?_)
          subst eb
          obtain rfl : z = Value.bool b := r9
          obtain ⟨n', rfl⟩ : ∃ n', n = n' + 1 := ⟨n - 1, by omega⟩
          refine seg_at (seg_yield rfl rfl rfl ⟨b, rfl, gen J9, J9.nolimit, J9.bare, hz9, fun e => ?_, fun e s' r => ?_⟩)
          · subst e
            exact ⟨H9, back J9, qb⟩
          · have e : b = true := by
              cases b with
              | true => rfl
              | false => exact absurd rfl e
            subst e
            rw [if_pos rfl] at qb
            obtain ⟨m', hm', w'⟩ := hNx H9 qb
            have pin' : ∀ b ∈ fp, ∀ o, s7.heap.get? b = some o → s9.heap.get? b = some o ∧ H9 b = none := fun b hb o e =>
              let z := J9.pin (b, o) (List.mem_append_right _ (List.mem_append_right _ (mem_pinsAt hb e)))
              ⟨z.1, z.2.1⟩
            have hl : (wipe σ (own.map (·.2))).length = σ8.length := by rw [← hw8, wipe_length]
            have K9 : Inv (gX X s3 H3 Ag ce fp) [(h'.objs.size, go)] (wipe σ (own.map (·.2))) H9 s9 := J9.unpinned.weak hl fun j v e => by
              rw [← hw8] at e
              exact (wipe_some e).1
            refine seg_again rfl (ih m' hm' n' (i + 1) s' s' H9 (by omega) w' (r.inv K9) ?_ (fun b hb => ?_) (Nat.le_trans hz9 r.size))
            · rw [r.heap]
              exact T.keep _ _ _ st7 fun b hb o e => (pin' b hb o e).1
            · obtain ⟨o, e, _⟩ := T.obj _ _ st7 b hb
              exact (pin' b hb o e).2
    have mono : ∀ (b : Bool) (s s' : Shared), (∃ H', Inv X pins σ H' s ∧ Q (.bl b) H') → s'.os = s.os → AllBare s'.gens → (∀ b o, s.heap.get? b = some o → s'.heap.get? b = some o) → ∃ H', Inv X pins σ H' s' ∧ Q (.bl b) H' := fun b s s' ⟨H', J, q⟩ h1 h2 h3 =>
      ⟨H', inv_gens (J.kept (t' := s'.toks) h3) rfl h1 h2, q⟩
    generalize hs5 : ({ s3 with heap := h'.push go, gens := s3.gens.push (.fresh (.compStart (.GeneratorExp elt [⟨tg, iter, [], 0⟩] scope gpos) 0 (.ref it) .none ce)), toks := s3.toks + 1 + 1 + 1 } : Shared) = s5 at I5
    have hg5 : s5.gens[s3.gens.size]? = some (.fresh (.compStart (.GeneratorExp elt [⟨tg, iter, [], 0⟩] scope gpos) 0 (.ref it) .none ce)) := by
      rw [← hs5]
      exact Array.getElem?_push_size ..
    have hz5 : s3.gens.size + 1 ≤ s5.gens.size := by
      rw [← hs5]
      exact Nat.le_of_eq (Array.size_push ..).symm
    have ht5 : tn 0 s5.heap := by rw [← hs5]; exact st5
    have wt : Waits X.prog X.w X.A.in1 s3.gens.size h'.objs.size false (fun s => ∃ H', Inv X pins σ H' s ∧ Q (.bl true) H') (fun s => ∃ H', Inv X pins σ H' s ∧ Q (.bl false) H') (m0 + 1) s5 := by
      refine ⟨gen (pl := []) I5, I5.nolimit, I5.bare, _, hg5, fun s' r => ⟨rfl, ?_⟩⟩
      have lp := loop m0 (m0 + 1) 0 s' s' H3 (Nat.lt_succ_self _) hw0 (r.inv I5) (by rw [r.heap]; exact ht5) nfp (Nat.le_trans hz5 r.size)
      show Seg (model X.prog X.w) _ _ _ _ s' _ ((compStart (.GeneratorExp elt [⟨tg, iter, [], 0⟩] scope gpos) 0 (.ref it) .none ce).onRaise (leaving ce)) [] s'
      unfold compStart
      rw [Sem.onRaise_eq_wrap]
      show Seg (model X.prog X.w) _ _ _ _ s' _ ((ask >>= _).wrap _ _ _ _) [] s'
      refine seg_bind_wrap (wpAny_askSetting ?_)
      have ts : tn 0 s'.heap := by rw [r.heap]; exact ht5
      split
      · exact seg_again rfl lp
      · first
          | exact seg_bind_wrap (wpAny_rule (seg_bind_wrap (wpAny_standAt (seg_bind_wrap (T.self _ 0 s' _ _ ts (seg_again rfl lp))))))
          | (refine seg_bind_wrap (wpAny_rule ?_); show Seg (model X.prog X.w) _ _ _ _ s' _ ((standAt iter.pos >>= _).wrap _ _ _ _) [] s'; exact seg_bind_wrap (wpAny_standAt (seg_bind_wrap (T.self _ 0 s' _ _ ts (seg_again rfl lp)))))
    refine call_function_tree PySem.F.kind_all PySem.F.plain_all PySem.F.entry_all (PySem.F.args_all1 _) ?_
    unfold Builtin.«all»
    refine wpAny_bind (m := oneArg "all" _) (wpAny_pure ?_)
    refine wpAny_bind (wpAny_pyIter_gen (gen (pl := []) I5) ?_)
    refine wpAny_pure ⟨plainId_quiet PySem.F.plain_all_loop _, codeAny_mono (all_loop hh hr.depth (mono true) (mono false) (m0 + 1) s5 wt) fun r s' hq => ?_⟩
    rcases hq with ⟨rfl, H', J, q⟩ | ⟨rfl, H', J, q⟩
    · exact ⟨.bl true, H', J, rfl, q⟩
    · exact ⟨.bl false, H', J, rfl, q⟩
  cases hf : codeAmong gpos ps.toList with
  | none =>
    refine wpAny_genexprCodeX hcode (cd.code hPs ht) (cd.tab hPs) hf fun c' h' tk hx hge hlt hco' _ htab' _ => ?_
    obtain ⟨o1, vs, f1, tf, fl, tg1, inF, tx, tt, op, _, _, _, _, _, _, _, _, _, htr, _⟩ := hco'
    exact cont _ h' tk _ (Nat.le_trans hge (Nat.le_of_lt hlt)) (fun b o hb e => hx b o hb e) htab'.2 htr
  | some cv =>
    refine wpAny_genexprCode_hit hcode (cd.code hPs ht) hf ?_
    have := cont cv s2.heap s2.toks #[] (Nat.le_refl _) (fun _ _ _ e => e) (by rw [hPs]; simp) (by simpa using ht)
    exact this
end
def topS (i : Nat) : Stmt := PySem.Challenge.pw_friendfoe_k51_what_is_orders.main.body.getD i (.Pass ⟨0, 0, 0, 0⟩)
abbrev s_is_whole : Stmt := topS 1
abbrev N_is_whole : List Str := ["thing"]
theorem sc_is_whole : FnScope N_is_whole ["thing"] (defScope s_is_whole) := ⟨rfl, rfl, rfl, by decide +kernel, rfl, by decide +kernel, by decide +kernel⟩
abbrev s_is_whole_below : Stmt := topS 2
abbrev N_is_whole_below : List Str := ["limit", "thing"]
theorem sc_is_whole_below : FnScope N_is_whole_below ["limit", "thing"] (defScope s_is_whole_below) := ⟨rfl, rfl, rfl, by decide +kernel, rfl, by decide +kernel, by decide +kernel⟩
abbrev s_is_tuple_of : Stmt := topS 3
abbrev N_is_tuple_of : List Str := ["length", "thing"]
theorem sc_is_tuple_of : FnScope N_is_tuple_of ["length", "thing"] (defScope s_is_tuple_of) := ⟨rfl, rfl, rfl, by decide +kernel, rfl, by decide +kernel, by decide +kernel⟩
abbrev s_are_unlike_below : Stmt := topS 5
abbrev N_are_unlike_below : List Str := ["limit", "thing", "number"]
theorem sc_are_unlike_below : FnScope N_are_unlike_below ["limit", "thing"] (defScope s_are_unlike_below) := ⟨rfl, rfl, rfl, by decide +kernel, rfl, by decide +kernel, by decide +kernel⟩
abbrev s_ties_at : Stmt := topS 7
abbrev N_ties_at : List Str := ["web", "rows", "place", "number", "one", "other", "kind"]
theorem sc_ties_at : FnScope N_ties_at ["web"] (defScope s_ties_at) := ⟨rfl, rfl, rfl, by decide +kernel, rfl, by decide +kernel, by decide +kernel⟩
abbrev s_is_orders : Stmt := topS 8
abbrev N_is_orders : List Str := ["web", "thing", "row", "ties"]
theorem sc_is_orders : FnScope N_is_orders ["web", "thing"] (defScope s_is_orders) := ⟨rfl, rfl, rfl, by decide +kernel, rfl, by decide +kernel, by decide +kernel⟩
abbrev s_l_mixed : Stmt := topS 10
abbrev N_l_mixed : List Str := ["_law_number"]
theorem sc_l_mixed : FnScope N_l_mixed ["_law_number"] (defScope s_l_mixed) := ⟨rfl, rfl, rfl, by decide +kernel, rfl, by decide +kernel, by decide +kernel⟩
abbrev s_l_deck : Stmt := topS 11
abbrev N_l_deck : List Str := ["_law_script", "_law_deck_here", "_law_last", "_law_k"]
theorem sc_l_deck : FnScope N_l_deck ["_law_script"] (defScope s_l_deck) := ⟨rfl, rfl, rfl, by decide +kernel, rfl, by decide +kernel, by decide +kernel⟩
abbrev s_l_take : Stmt := topS 12
abbrev N_l_take : List Str := ["_law_deck_here", "_law_most", "_law_cell"]
theorem sc_l_take : FnScope N_l_take ["_law_deck_here", "_law_most"] (defScope s_l_take) := ⟨rfl, rfl, rfl, by decide +kernel, rfl, by decide +kernel, by decide +kernel⟩
abbrev s_l_corners : Stmt := topS 13
abbrev N_l_corners : List Str := ["_law_ties", "_law_orders", "_law_place", "_law_at", "_law_found", "_law_here", "_law_k", "_law_tie", "_law_there"]
theorem sc_l_corners : FnScope N_l_corners ["_law_ties", "_law_orders", "_law_place", "_law_at"] (defScope s_l_corners) := ⟨rfl, rfl, rfl, by decide +kernel, rfl, by decide +kernel, by decide +kernel⟩
abbrev s_l_grown : Stmt := topS 14
abbrev N_l_grown : List Str := ["_law_deck_here", "_law_most", "_law_many_ties", "_law_orders", "_law_ties", "_law_k", "_law_way", "_law_place", "_law_at", "_law_others", "_law_corner", "_law_other", "_law_there"]
theorem sc_l_grown : FnScope N_l_grown ["_law_deck_here", "_law_most", "_law_many_ties"] (defScope s_l_grown) := ⟨rfl, rfl, rfl, by decide +kernel, rfl, by decide +kernel, by decide +kernel⟩
abbrev s_l_turned : Stmt := topS 15
abbrev N_l_turned : List Str := ["_law_deck_here", "_law_orders", "_law_found", "_law_order", "_law_at"]
theorem sc_l_turned : FnScope N_l_turned ["_law_deck_here", "_law_orders"] (defScope s_l_turned) := ⟨rfl, rfl, rfl, by decide +kernel, rfl, by decide +kernel, by decide +kernel⟩
abbrev s_l_web : Stmt := topS 16
abbrev N_l_web : List Str := ["_law_deck_here", "_law_ties", "_law_places", "_law_found", "_law_one", "_law_other", "_law_kind"]
theorem sc_l_web : FnScope N_l_web ["_law_deck_here", "_law_ties", "_law_places"] (defScope s_l_web) := ⟨rfl, rfl, rfl, by decide +kernel, rfl, by decide +kernel, by decide +kernel⟩
abbrev s_l_mingled : Stmt := topS 17
abbrev N_l_mingled : List Str := ["_law_deck_here", "_law_orders", "_law_found", "_law_order", "_law_left", "_law_row"]
theorem sc_l_mingled : FnScope N_l_mingled ["_law_deck_here", "_law_orders"] (defScope s_l_mingled) := ⟨rfl, rfl, rfl, by decide +kernel, rfl, by decide +kernel, by decide +kernel⟩
abbrev s_l_judged : Stmt := topS 18
abbrev N_l_judged : List Str := ["_law_web_here", "_law_thing", "_law_place", "_law_order", "_law_due", "_law_number", "_law_tie", "_law_one"]
theorem sc_l_judged : FnScope N_l_judged ["_law_web_here", "_law_thing"] (defScope s_l_judged) := ⟨rfl, rfl, rfl, by decide +kernel, rfl, by decide +kernel, by decide +kernel⟩
abbrev s_l_bent_order : Stmt := topS 19
abbrev N_l_bent_order : List Str := ["_law_deck_here", "_law_web_here", "_law_order", "_law_at", "_law_some", "_law_odd"]
theorem sc_l_bent_order : FnScope N_l_bent_order ["_law_deck_here", "_law_web_here", "_law_order"] (defScope s_l_bent_order) := ⟨rfl, rfl, rfl, by decide +kernel, rfl, by decide +kernel, by decide +kernel⟩
abbrev s_l_bent : Stmt := topS 20
abbrev N_l_bent : List Str := ["_law_deck_here", "_law_web_here", "_law_orders", "_law_at", "_law_to", "_law_way", "_law_rows", "_law_some"]
theorem sc_l_bent : FnScope N_l_bent ["_law_deck_here", "_law_web_here", "_law_orders"] (defScope s_l_bent) := ⟨rfl, rfl, rfl, by decide +kernel, rfl, by decide +kernel, by decide +kernel⟩
abbrev s_l_right : Stmt := topS 21
abbrev N_l_right : List Str := ["_law_web_here", "_law_thing", "_law_due", "_law_turn", "_law_found"]
theorem sc_l_right : FnScope N_l_right ["_law_web_here", "_law_thing"] (defScope s_l_right) := ⟨rfl, rfl, rfl, by decide +kernel, rfl, by decide +kernel, by decide +kernel⟩
abbrev s_law : Stmt := topS 22
abbrev N_law : List Str := ["_law_script", "_law_deck_here", "_law_great", "_law_most", "_law_ties", "_law_orders", "_law_web_here", "_law_turn", "_law_thing"]
theorem sc_law : FnScope N_law ["_law_script"] (defScope s_law) := ⟨rfl, rfl, rfl, by decide +kernel, rfl, by decide +kernel, by decide +kernel⟩
/-! ### own rules: a list against [] -/
section
variable {X : Cx}
def rEqE (K : PySem.W.Frag) : R2 := fun x y H Q => ∃ (a b : Addr) (xs : List V), x = .ref a ∧ y = .ref b ∧ SqL K H a xs ∧ SqL K H b [] ∧ Q (.bl xs.isEmpty) H
def rNeE (K : PySem.W.Frag) : R2 := fun x y H Q => ∃ (a b : Addr) (xs : List V), x = .ref a ∧ y = .ref b ∧ SqL K H a xs ∧ SqL K H b [] ∧ Q (.bl (!xs.isEmpty)) H
theorem op_eqE (hu : X.A.units < cLine) : OpR X (compareOp .Eq) (rEqE X.K) := by
  intro pins s σ H x y v u Q I rx ry h
  obtain ⟨a, b, xs, rfl, rfl, ha, hb, q⟩ := h
  obtain rfl : v = Value.ref a := rx
  obtain rfl : u = Value.ref b := ry
  obtain ⟨its, r1, p1, _⟩ := I.list ha
  obtain ⟨its2, r2, p2, _⟩ := I.list hb
  cases r2
  cases xs with
  | nil =>
    cases r1
    exact SeqAt.eq_listAt (e := fun _ => true) p1.isList p2.isList rfl hu (fun j h1 _ => absurd h1 (by simp)) ⟨.bl true, H, I, rfl, q⟩
  | cons z zs =>
    cases r1 with
    | cons r t => exact SeqAt.eq_list_lengthsAt p1.isList p2.isList (by simp) hu ⟨.bl false, H, I, rfl, q⟩
theorem op_neE (hu : X.A.units < cLine) : OpR X (compareOp .NotEq) (rNeE X.K) := by
  intro pins s σ H x y v u Q I rx ry h
  obtain ⟨a, b, xs, rfl, rfl, ha, hb, q⟩ := h
  obtain rfl : v = Value.ref a := rx
  obtain rfl : u = Value.ref b := ry
  obtain ⟨its, r1, p1, _⟩ := I.list ha
  obtain ⟨its2, r2, p2, _⟩ := I.list hb
  cases r2
  cases xs with
  | nil =>
    cases r1
    exact SeqAt.RcNeAt.lists (e := fun _ => true) p1.isList p2.isList rfl hu (fun j h1 _ => absurd h1 (by simp)) _ _ _ _ ⟨.bl false, H, I, rfl, q⟩
  | cons z zs =>
    cases r1 with
    | cons r t => exact SeqAt.RcNeAt.lists_lengths p1.isList p2.isList (by simp) hu _ _ _ _ ⟨.bl true, H, I, rfl, q⟩
end
section
variable {P : Program} {w : World} {K : PySem.W.Frag} {mg : Str → Option Value} {base : Heap}
/-! ### webs -/
structure Tie where
  one : Int
  other : Int
  foe : Bool
def kindS : Bool → Str
  | true => "foe"
  | false => "friend"
def TieV (H : Hp) (v : V) (t : Tie) : Prop := ∃ a, v = .ref a ∧ H a = some (.tup [.int t.one, .int t.other, .str (kindS t.foe)])
def TieOk (n : Int) (t : Tie) : Prop := 0 ≤ t.one ∧ t.one < n ∧ 0 ≤ t.other ∧ t.other < n ∧ t.one ≠ t.other
def WebAt (H : Hp) (v : V) (n : Int) (ts : List Tie) : Prop := ∃ a b vs, v = .ref a ∧ H a = some (.tup [.int n, .ref b]) ∧ H b = some (.tup vs) ∧ Paired (TieV H) vs ts
structure WebOk (n : Int) (ts : List Tie) : Prop where
  lo : 1 ≤ n
  hi : n ≤ 40
  few : ts.length ≤ 120
  ok : ∀ t ∈ ts, TieOk n t
/-- tuples stay -/
def Tk (H H' : Hp) : Prop := ∀ b xs, H b = some (.tup xs) → H' b = some (.tup xs)
theorem Tk.trans {H H1 H2 : Hp} (a : Tk H H1) (b : Tk H1 H2) : Tk H H2 := fun x xs h => b x xs (a x xs h)
theorem Same.tk {H H' : Hp} (s : Same H H') : Tk H H' := fun b xs h => s b _ h
theorem tk_lst {H : Hp} {l : Addr} {xs ys : List V} (h : H l = some (.lst xs)) : Tk H (upd H l (.lst ys)) := fun b zs e => by
  rw [upd_ne (ne_of e h (by intro z; cases z))]
  exact e
theorem TieV.tk {H H' : Hp} (k : Tk H H') {v : V} {t : Tie} (h : TieV H v t) : TieV H' v t := by
  obtain ⟨a, rfl, e⟩ := h
  exact ⟨a, rfl, k _ _ e⟩
theorem ties_tk {H H' : Hp} (k : Tk H H') {vs : List V} {ts : List Tie} (h : Paired (TieV H) vs ts) : Paired (TieV H') vs ts := Paired.mono (fun _ _ x => x.tk k) h
theorem WebAt.tk {H H' : Hp} (k : Tk H H') {v : V} {n : Int} {ts : List Tie} (h : WebAt H v n ts) : WebAt H' v n ts := by
  obtain ⟨a, b, vs, rfl, h1, h2, h3⟩ := h
  exact ⟨a, b, vs, rfl, k _ _ h1, k _ _ h2, ties_tk k h3⟩
theorem Kp.mut {d c l : Addr} {H H' : Hp} {o : HO} (k : Kp d c H H') (h : H l = none) : Kp d c H (upd H' l o) := fun b u h1 h2 e => by
  rw [upd_ne (ne_of_none e h)]
  exact k b u h1 h2 e
theorem Paired.at {α β : Type} {F : α → β → Prop} : ∀ {l : List α} {m : List β} {i : Nat} {a : α}, Paired F l m → l[i]? = some a → ∃ b, m[i]? = some b ∧ F a b
  | _, _, _, _, .nil, e => by simp at e
  | _, _, 0, _, .cons r _, e => by simp at e; subst e; exact ⟨_, rfl, r⟩
  | _, _, i + 1, a, .cons _ t, e => by
    obtain ⟨u, h1, h2⟩ := Paired.at (i := i) (a := a) t (by simpa using e)
    exact ⟨u, by simpa using h1, h2⟩
theorem Paired.at' {α β : Type} {F : α → β → Prop} : ∀ {l : List α} {m : List β} {i : Nat} {b : β}, Paired F l m → m[i]? = some b → ∃ a, l[i]? = some a ∧ F a b
  | _, _, _, _, .nil, e => by simp at e
  | _, _, 0, _, .cons r _, e => by simp at e; subst e; exact ⟨_, rfl, r⟩
  | _, _, i + 1, b, .cons _ t, e => by
    obtain ⟨u, h1, h2⟩ := Paired.at' (i := i) (b := b) t (by simpa using e)
    exact ⟨u, by simpa using h1, h2⟩
theorem getI {α : Type} {xs : List α} {i : Int} (h0 : 0 ≤ i) (h1 : i < (xs.length : Int)) : ∃ v, atI xs i = some v ∧ xs[i.toNat]? = some v := by
  obtain ⟨j, rfl⟩ : ∃ j : Nat, i = (j : Int) := ⟨i.toNat, by omega⟩
  have h2 : j < xs.length := by omega
  exact ⟨xs[j], atI_nat (List.getElem?_eq_getElem h2), by rw [Int.toNat_natCast]; exact List.getElem?_eq_getElem h2⟩
theorem other_ne {n a b : Int} (h0 : 0 ≤ a) (h1 : a < n) (g0 : 0 ≤ b) (g1 : b < n - 1) : a ≠ (a + 1 + b) % n := by
  by_cases h : a + 1 + b < n
  · rw [Int.emod_eq_of_lt (by omega) h]
    omega
  · have e : a + 1 + b = (a + 1 + b - n) + 1 * n := by omega
    rw [e, Int.add_mul_emod_self_right, Int.emod_eq_of_lt (by omega) (by omega)]
    omega
theorem pick2 {α : Type} (a b : α) (k : Bool) : atI [a, b] (if k then 1 else 0) = some (if k then b else a) := by
  cases k <;> rfl
theorem Kp.free {d c l : Addr} {H H' : Hp} (k : Kp d c H H') (h : H' l = none) (h1 : l ≠ d) (h2 : l ≠ c) : H l = none := by
  cases e : H l with
  | none => rfl
  | some o =>
    rw [k l o h1 h2 e] at h
    cases h
theorem atI_of {xs : List V} {i : Int} {v : V} (h0 : 0 ≤ i) (e : xs[i.toNat]? = some v) : atI xs i = some v := by
  obtain ⟨j, rfl⟩ : ∃ j : Nat, i = (j : Int) := ⟨i.toNat, by omega⟩
  exact atI_nat (by rw [Int.toNat_natCast] at e; exact e)
theorem atI_ints {xs : List Int} {i : Int} (h0 : 0 ≤ i) (h1 : i < xs.length) : ∃ x ∈ xs, xs[i.toNat]? = some x ∧ atI (xs.map V.int) i = some (.int x) := by
  have h : i.toNat < xs.length := by omega
  exact ⟨xs[i.toNat], List.getElem_mem h, List.getElem?_eq_getElem h, atI_of h0 (by rw [List.getElem?_map, List.getElem?_eq_getElem h]; rfl)⟩
end
/-! ### tuples cut and put together -/
section
variable {X : Cx}
theorem cutV_whole {xs : List V} {lo hi : Option Int} (h : HT.sIx xs.length 0 lo = 0 ∧ HT.sIx xs.length xs.length hi = xs.length) : cutV xs lo hi = xs := by
  unfold cutV
  rw [h.1, h.2]
  simp
def rSlU : V → Option Int → Option Int → Hp → VK → Prop := fun x lo hi H Q => ∃ a xs, x = .ref a ∧ H a = some (.tup xs) ∧ ∀ r H', Same H H' → H' r = some (.tup (cutV xs lo hi)) → Q (.ref r) H'
theorem sl_tupU : SlR X rSlU := by
  intro pins s σ H x v vl vu lo hi sl Q I rx hs pl pu h
  obtain ⟨a, xs, rfl, hx, q⟩ := h
  refine sl_tupA pins s σ H _ v vl vu lo hi sl Q I rx hs pl pu ⟨a, xs, rfl, SqT.of hx, fun hw => ?_, fun _ p np => ?_⟩
  · exact q a H (Same.refl H) (by rw [cutV_whole hw]; exact hx)
  · exact q p _ (same_new np) upd_same
def rCatU : R2 := fun x y H Q => ∃ a b xs ys, x = .ref a ∧ y = .ref b ∧ H a = some (.tup xs) ∧ H b = some (.tup ys) ∧ xs.length + ys.length ≤ 100000 ∧ ∀ r H', Same H H' → H' r = some (.tup (xs ++ ys)) → Q (.ref r) H'
theorem op_catU : OpR X (binaryOp .Add) rCatU := by
  intro pins s σ H x y v u Q I rx ry h
  obtain ⟨a, b, xs, ys, rfl, rfl, ha, hb, hz, q⟩ := h
  refine op_catA pins s σ H _ _ v u Q I rx ry ⟨a, b, xs, ys, rfl, rfl, SqT.of ha, SqT.of hb, Evl.sz_of hz, fun e => ?_, fun _ e => ?_, fun _ _ p np => ?_⟩
  · subst e
    exact q b H (Same.refl H) hb
  · subst e
    exact q a H (Same.refl H) (by rw [List.append_nil]; exact ha)
  · exact q p _ (same_new np) upd_same
end
/-! ### things of any kind -/
/-- its kind is known -/
def Kn (H : Hp) : V → Prop
  | .non => True
  | .bl _ => True
  | .int _ => True
  | .str _ => True
  | .ref a => (∃ xs, H a = some (.lst xs)) ∨ (∃ xs, H a = some (.tup xs)) ∨ ∃ kvs, H a = some (.dK kvs)
  | _ => False
def isI : V → Bool
  | .int _ => true
  | .bl _ => true
  | _ => false
def isB : V → Bool
  | .bl _ => true
  | _ => false
def isW : V → Bool
  | .int _ => true
  | _ => false
def isT (H : Hp) : V → Bool
  | .ref a => match H a with
    | some (.tup _) => true
    | _ => false
  | _ => false
section
variable {K : PySem.W.Frag} {H : Hp}
theorem kn_int {v : V} (h : Kn H v) : ∃ t, TyX K H v t ∧ PySem.W.kitOne K t (.type "int") = some (isI v) := by
  cases v with
  | non => exact ⟨_, .base .non, kit_ty (r := false) (by decide +kernel)⟩
  | bl b => exact ⟨_, .base (.bl b), kit_ty (r := true) (by decide +kernel)⟩
  | int i => exact ⟨_, .base (.int i), kit_ty (r := true) (by decide +kernel)⟩
  | str x => exact ⟨_, .base (.str x), kit_ty (r := false) (by decide +kernel)⟩
  | ref a =>
    rcases h with ⟨xs, h⟩ | ⟨xs, h⟩ | ⟨xs, h⟩
    · exact ⟨_, .base (.lst h), kit_ty (r := false) (by decide +kernel)⟩
    · exact ⟨_, .base (.tup h), kit_ty (r := false) (by decide +kernel)⟩
    · exact ⟨_, .base (.dK h), kit_ty (r := false) (by decide +kernel)⟩
  | byt b => exact h.elim
  | flt b => exact h.elim
  | ty n => exact h.elim
theorem kn_bool {v : V} (h : Kn H v) : ∃ t, TyX K H v t ∧ PySem.W.kitOne K t (.type "bool") = some (isB v) := by
  cases v with
  | non => exact ⟨_, .base .non, kit_ty (r := false) (by decide +kernel)⟩
  | bl b => exact ⟨_, .base (.bl b), kit_ty (r := true) (by decide +kernel)⟩
  | int i => exact ⟨_, .base (.int i), kit_ty (r := false) (by decide +kernel)⟩
  | str x => exact ⟨_, .base (.str x), kit_ty (r := false) (by decide +kernel)⟩
  | ref a =>
    rcases h with ⟨xs, h⟩ | ⟨xs, h⟩ | ⟨xs, h⟩
    · exact ⟨_, .base (.lst h), kit_ty (r := false) (by decide +kernel)⟩
    · exact ⟨_, .base (.tup h), kit_ty (r := false) (by decide +kernel)⟩
    · exact ⟨_, .base (.dK h), kit_ty (r := false) (by decide +kernel)⟩
  | byt b => exact h.elim
  | flt b => exact h.elim
  | ty n => exact h.elim
theorem kn_tup {v : V} (h : Kn H v) : ∃ t, TyX K H v t ∧ PySem.W.kitOne K t (.type "tuple") = some (isT H v) := by
  cases v with
  | non => exact ⟨_, .base .non, kit_ty (r := false) (by decide +kernel)⟩
  | bl b => exact ⟨_, .base (.bl b), kit_ty (r := false) (by decide +kernel)⟩
  | int i => exact ⟨_, .base (.int i), kit_ty (r := false) (by decide +kernel)⟩
  | str x => exact ⟨_, .base (.str x), kit_ty (r := false) (by decide +kernel)⟩
  | ref a =>
    unfold isT
    rcases h with ⟨xs, h⟩ | ⟨xs, h⟩ | ⟨xs, h⟩
    · exact ⟨_, .base (.lst h), by simp only [h]; exact kit_ty (r := false) (by decide +kernel)⟩
    · exact ⟨_, .base (.tup h), by simp only [h]; exact kit_ty (r := true) (by decide +kernel)⟩
    · exact ⟨_, .base (.dK h), by simp only [h]; exact kit_ty (r := false) (by decide +kernel)⟩
  | byt b => exact h.elim
  | flt b => exact h.elim
  | ty n => exact h.elim
theorem isT_at {v : V} (h : isT H v = true) : ∃ a xs, v = .ref a ∧ H a = some (.tup xs) := by
  cases v with
  | ref a =>
    unfold isT at h
    cases e : H a with
    | none => simp only [e] at h; cases h
    | some o =>
      cases o with
      | tup xs => exact ⟨a, xs, rfl, e⟩
      | _ => simp only [e] at h; cases h
  | _ => cases h
theorem isT_of {a : Addr} {xs : List V} (h : H a = some (.tup xs)) : isT H (.ref a) = true := by
  unfold isT
  simp only [h]
end
section
variable {P : Program} {w : World} {K : PySem.W.Frag} {mg : Str → Option Value} {base : Heap}
def spWhole : Sp := fun vs H Q _ => ∃ v, vs = [v] ∧ Kn H v ∧ Q (.bl (isW v)) H
theorem and_whole {v : V} : (isI v && !isB v) = isW v := by cases v <;> rfl
theorem ok_is_whole {f : Addr} {fd : FuncData} (F : Fun K "is_whole" "is_whole" s_is_whole f fd) (M : Free mg) : FnOk P w K mg base CX0 1 f fd ["thing"] spWhole := by
  refine F.ok sc_is_whole (fun vs H Q E h => ?_) (fun cdv A outer s H vs Q E hr h => ?_)
  · obtain ⟨v, rfl, _⟩ := h
    rfl
  · obtain ⟨v, rfl, hk, q⟩ := h
    refine ⟨_, (pss_one (ps_ret (pe_and (pe_callB call_isi (by rfl) M.isinstance (by decide +kernel) (pa_cons (pv 0) (pa_cons (pe_bltn (v := .ty "int") (by rfl) M.int (by decide +kernel) rfl) pa_nil))) (pe_one (pe_not (pe_callB call_isi (by rfl) M.isinstance (by decide +kernel) (pa_cons (pv 0) (pa_cons (pe_bltn (v := .ty "bool") (by rfl) M.bool (by decide +kernel) rfl) pa_nil)))))))), ?_⟩
    obtain ⟨t1, h1, e1⟩ := kn_int (K := K) hk
    obtain ⟨t2, h2, e2⟩ := kn_bool (K := K) hk
    refine ⟨v, rfl, v, _, t1, _, _, rfl, .ty "int", h1, e1, _, rfl, ?_⟩
    rw [← and_whole] at q
    cases hi : isI v with
    | false =>
      rw [hi] at q
      exact q
    | true =>
      rw [hi] at q
      exact ⟨v, rfl, v, _, t2, _, _, rfl, .ty "bool", h2, e2, _, rfl, q⟩
def wfrom (lo : Int) : V → Bool
  | .int i => decide (lo ≤ i)
  | _ => false
def spFrom : Sp := fun vs H Q _ => ∃ lo v, vs = [.int lo, v] ∧ Kn H v ∧ Q (.bl (wfrom lo v)) H
/-- the parts of a tuple -/
def parts (H : Hp) : V → Option (List V)
  | .ref a => match H a with
    | some (.tup xs) => some xs
    | _ => none
  | _ => none
theorem parts_of' {H : Hp} {a : Addr} {xs : List V} (h : H a = some (.tup xs)) : parts H (.ref a) = some xs := by
  unfold parts
  simp only [h]
theorem parts_none {H : Hp} {v : V} (h : isT H v = false) : parts H v = none := by
  cases v with
  | ref a =>
    unfold isT at h
    unfold parts
    cases e : H a with
    | none => simp only [e]
    | some o =>
      cases o with
      | tup xs => simp only [e] at h; cases h
      | _ => simp only [e]
  | _ => rfl
def lenIs (H : Hp) (v : V) (n : Int) : Bool := match parts H v with
  | some xs => decide ((xs.length : Int) = n)
  | none => false
def spTupleOf : Sp := fun vs H Q _ => ∃ n v, vs = [.int n, v] ∧ Kn H v ∧ Q (.bl (lenIs H v n)) H
theorem dec_int (a b : Int) : decide (V.int a = V.int b) = decide (a = b) := by
  by_cases h : a = b
  · rw [decide_eq_true h, h, decide_eq_true rfl]
  · rw [decide_eq_false h, decide_eq_false (fun z => h (V.int.inj z))]
theorem ok_is_tuple_of {f : Addr} {fd : FuncData} (F : Fun K "is_tuple_of" "is_tuple_of" s_is_tuple_of f fd) (M : Free mg) : FnOk P w K mg base CX0 1 f fd ["length", "thing"] spTupleOf := by
  refine F.ok sc_is_tuple_of (fun vs H Q E h => ?_) (fun cdv A outer s H vs Q E hr h => ?_)
  · obtain ⟨n, v, rfl, _⟩ := h
    rfl
  · obtain ⟨n, v, rfl, hk, q⟩ := h
    refine ⟨_, (pss_one (ps_ret (pe_and (pe_callB call_isi (by rfl) M.isinstance (by decide +kernel) (pa_cons (pv 1) (pa_cons (pe_bltn (v := .ty "tuple") (by rfl) M.tuple (by decide +kernel) rfl) pa_nil))) (pe_one (pe_cmpR op_eq (pe_callB call_len_seq (by rfl) M.len PySem.boot_len (pa_cons (pv 1) pa_nil)) (pv 0) (nomark _)))))), ?_⟩
    obtain ⟨t1, h1, e1⟩ := kn_tup (K := K) hk
    refine ⟨v, rfl, v, _, t1, _, _, rfl, .ty "tuple", h1, e1, _, rfl, ?_⟩
    unfold lenIs at q
    cases hi : isT H v with
    | false =>
      rw [parts_none hi] at q
      exact q
    | true =>
      obtain ⟨a, xs, rfl, e⟩ := isT_at hi
      rw [parts_of' e] at q
      refine ⟨.ref a, rfl, a, xs, rfl, .inr (SqT.of e), .int n, rfl, rfl, ?_⟩
      rw [dec_int]
      exact q
/-! ### a def whose code object stands at c: its own table is at Pt -/
structure FunC (K : PySem.W.Frag) (x qual : Str) (st : Stmt) (f : Addr) (fd : FuncData) (c : Addr) : Prop where
  ex : ∃ (oc : Value) (od : Option Addr) (kV doc pm : Value) (an : Option Addr) (ct : Value) (osl : Array (Option Value)),
    fd = PySem.W.fnOf x qual (defArgs st) (defBody st) (defScope st) .none kV doc pm an (.ref c) ct ∧ K.lookup f = some ⟨oc, od, .func fd, osl⟩ ∧ PySem.W.codeIn K (.ref c) qual = true
  kp : PySem.W.keepIn K (.ref f) = true
theorem FunC.ok {x qual : Str} {st : Stmt} {f c : Addr} {fd : FuncData} {N ps : List Str} {k : Nat} {sp : Sp} (F : FunC K x qual st f fd c) (S : FnScope N ps (defScope st)) (len : ∀ vs H Q E, sp vs H Q E → vs.length = ps.length)
    (hbody : ∀ (A : Around) (outer : List Env) (s : Shared) (H : Hp) (vs : List V) (Q : VK) (E : XK), Room k (A.deeper (envOfC qual (defScope st) s.heap.objs.size f (.ref c))) → sp vs H Q E →
      ∃ t, PSs (cxOf CX0 P w K mg base N qual (defScope st) f (.ref c) A outer s H E).nox (defBody st) t ∧ t { nx := fun _ H' => Q .non H', rt := Q } (start N vs) H) : FnOk P w K mg base CX0 (k + 1) f fd ps sp := by
  obtain ⟨oc, od, kV, doc, pm, an, ct, osl, rfl, lk, hcd⟩ := F.ex
  refine fn_of lk hcd S len fun A outer s H vs Q E hr hsp => ?_
  obtain ⟨t, h, q⟩ := hbody A outer s H vs Q E hr hsp
  exact ⟨t, h.nox, q⟩
theorem FunC.fn {x qual : Str} {st : Stmt} {f c : Addr} {fd : FuncData} (F : FunC K x qual st f fd c) : Fun K x qual st f fd := by
  obtain ⟨oc, od, kV, doc, pm, an, ct, osl, rfl, lk, hcd⟩ := F.ex
  exact ⟨⟨oc, od, kV, doc, pm, an, _, ct, osl, rfl, lk, hcd⟩, F.kp⟩
theorem parts_at {H : Hp} {v : V} {xs : List V} (h : parts H v = some xs) : ∃ a, v = .ref a ∧ H a = some (.tup xs) := by
  cases v with
  | ref a =>
    unfold parts at h
    cases e : H a with
    | none => simp only [e] at h; cases h
    | some o =>
      cases o with
      | tup ys => simp only [e] at h; cases h; exact ⟨a, rfl, e⟩
      | _ => simp only [e] at h; cases h
  | _ => cases h
end
/-! ### all but the tables is kept -/
structure Kt (Ps : List Addr) (H H' : Hp) : Prop where
  tab : ∀ P ∈ Ps, GxR.TabG H' P
  keep : ∀ b o, b ∉ Ps → H b = some o → H' b = some o
def Tabs (Ps : List Addr) (H : Hp) : Prop := ∀ P ∈ Ps, GxR.TabG H P
theorem Kt.refl {Ps : List Addr} {H : Hp} (h : Tabs Ps H) : Kt Ps H H := ⟨h, fun _ _ _ e => e⟩
theorem Kt.trans {Ps : List Addr} {H H1 H2 : Hp} (a : Kt Ps H H1) (b : Kt Ps H1 H2) : Kt Ps H H2 := ⟨b.tab, fun x o h e => b.keep x o h (a.keep x o h e)⟩
theorem Kt.same {Ps : List Addr} {H H' : Hp} (h : Tabs Ps H) (s : Same H H') : Kt Ps H H' := ⟨fun P hP => by obtain ⟨ps, e, t⟩ := h P hP; exact ⟨ps, s _ _ e, t⟩, fun b o _ e => s b o e⟩
theorem Kt.tabbed {Ps : List Addr} {P : Addr} {H H' : Hp} (h : Tabs Ps H) (hP : P ∈ Ps) (t : GxR.Tabbed P H H') : Kt Ps H H' := by
  refine ⟨fun Q hQ => ?_, fun b o hb e => ?_⟩
  · by_cases e : Q = P
    · rw [e]
      exact t.1
    · obtain ⟨ps, e1, t1⟩ := h Q hQ
      exact ⟨ps, by rw [t.2 Q e]; exact e1, t1⟩
  · rw [t.2 b (fun z => hb (by rw [z]; exact hP))]
    exact e
theorem Tabs.out {Ps : List Addr} {H : Hp} {a : Addr} {o : HO} (t : Tabs Ps H) (h : H a = some o) (no : ∀ ps, o ≠ .tbl ps) : a ∉ Ps := fun z => by
  obtain ⟨ps, e, _⟩ := t a z
  rw [e] at h
  cases h
  exact no _ rfl
theorem Kt.tup {Ps : List Addr} {a : Addr} {H H' : Hp} {xs : List V} (k : Kt Ps H H') (t : Tabs Ps H) (h : H a = some (.tup xs)) : H' a = some (.tup xs) := k.keep a _ (t.out h fun _ z => by cases z) h
theorem Kt.lst {Ps : List Addr} {a : Addr} {H H' : Hp} {xs : List V} (k : Kt Ps H H') (t : Tabs Ps H) (h : H a = some (.lst xs)) : H' a = some (.lst xs) := k.keep a _ (t.out h fun _ z => by cases z) h
theorem Kt.dct {Ps : List Addr} {a : Addr} {H H' : Hp} {xs : List (Key × V)} (k : Kt Ps H H') (t : Tabs Ps H) (h : H a = some (.dK xs)) : H' a = some (.dK xs) := k.keep a _ (t.out h fun _ z => by cases z) h
theorem Kt.tk {Ps : List Addr} {H H' : Hp} (k : Kt Ps H H') (t : Tabs Ps H) : Tk H H' := fun _ _ e => k.tup t e
theorem Kt.kn {Ps : List Addr} {H H' : Hp} (k : Kt Ps H H') (t : Tabs Ps H) {v : V} (h : Kn H v) : Kn H' v := by
  cases v with
  | ref a =>
    rcases h with ⟨xs, h⟩ | ⟨xs, h⟩ | ⟨xs, h⟩
    · exact .inl ⟨xs, k.lst t h⟩
    · exact .inr (.inl ⟨xs, k.tup t h⟩)
    · exact .inr (.inr ⟨xs, k.dct t h⟩)
  | _ => exact h
/-! ### x in t of data of any depth -/
def rInT (K : PySem.W.Frag) : R2 := fun x y H Q => ∃ d ds, Dp K H x d ∧ Dp K H y (.tuple ds) ∧ SeqAt.shaped d = true ∧ SeqAt.shaped (.tuple ds) = true ∧ Q (.bl (ds.any fun z => PyData.eqv z d)) H
theorem op_inTup {X : Cx} (hu : X.A.units + 65 < cLine) : OpR X (compareOp .In) (rInT X.K) := by
  intro pins s σ H x y v u Q I rx ry want
  obtain ⟨d, ds, hd, he, sd, se, q⟩ := want
  obtain ⟨as, r1⟩ := Dp.reads I d x v hd rx
  obtain ⟨bs, r2⟩ := Dp.reads I (.tuple ds) y u he ry
  have lay : PyData.canLayAll0 ds = true := by
    have z := SeqAt.canLay_of_shaped se
    rw [PyData.canLay0] at z
    exact z
  have deep := SeqAt.depth_of_shaped sd
  exact SeqAt.in_tuple_reads r2 r1 lay (SeqAt.canLay_of_shaped sd) (by omega) ⟨.bl _, H, I, rfl, q⟩
/-! ### ties, walks, parts: the mathematics -/
def Adj (ts : List Tie) (a b : Int) (foe : Bool) : Prop := ∃ t ∈ ts, t.foe = foe ∧ ((t.one = a ∧ t.other = b) ∨ (t.one = b ∧ t.other = a))
theorem Adj.symm {ts : List Tie} {a b : Int} {k : Bool} (h : Adj ts a b k) : Adj ts b a k := by
  obtain ⟨t, ht, e, h⟩ := h
  exact ⟨t, ht, e, h.symm⟩
/-- a walk with so many foes, even or odd -/
inductive RP (ts : List Tie) (a : Int) : Int → Bool → Prop
  | nil : RP ts a a false
  | step {b c : Int} {p k : Bool} : RP ts a b p → Adj ts b c k → RP ts a c (p ^^ k)
def Rch (ts : List Tie) (a b : Int) : Prop := ∃ p, RP ts a b p
theorem RP.trans {ts : List Tie} {a b c : Int} {p q : Bool} (h : RP ts a b p) (g : RP ts b c q) : RP ts a c (p ^^ q) := by
  induction g with
  | nil =>
    rw [Bool.xor_false]
    exact h
  | step _ k ih =>
    rw [← Bool.xor_assoc]
    exact ih.step k
theorem RP.one {ts : List Tie} {a b : Int} {k : Bool} (h : Adj ts a b k) : RP ts a b k := by
  have q := RP.nil.step h
  rw [Bool.false_xor] at q
  exact q
theorem RP.symm {ts : List Tie} {a b : Int} {p : Bool} (h : RP ts a b p) : RP ts b a p := by
  induction h with
  | nil => exact .nil
  | step _ k ih =>
    have q := (RP.one k.symm).trans ih
    rw [Bool.xor_comm] at q
    exact q
theorem Rch.refl {ts : List Tie} {a : Int} : Rch ts a a := ⟨_, .nil⟩
theorem Rch.symm {ts : List Tie} {a b : Int} (h : Rch ts a b) : Rch ts b a := by
  obtain ⟨p, h⟩ := h
  exact ⟨p, h.symm⟩
theorem Rch.trans {ts : List Tie} {a b c : Int} (h : Rch ts a b) (g : Rch ts b c) : Rch ts a c := by
  obtain ⟨p, h⟩ := h
  obtain ⟨q, g⟩ := g
  exact ⟨_, h.trans g⟩
theorem Rch.adj {ts : List Tie} {a b : Int} {k : Bool} (h : Adj ts a b k) : Rch ts a b := ⟨_, RP.one h⟩
theorem Rch.ind {ts : List Tie} {a b : Int} (C : Int → Prop) (h : Rch ts a b) (h0 : C a) (hs : ∀ x y k, C x → Adj ts x y k → C y) : C b := by
  obtain ⟨p, h⟩ := h
  induction h with
  | nil => exact h0
  | step _ k ih => exact hs _ _ _ ih k
theorem Adj.rng {ts : List Tie} {n a b : Int} {k : Bool} (ok : ∀ t ∈ ts, TieOk n t) (h : Adj ts a b k) : 0 ≤ b ∧ b < n := by
  obtain ⟨t, ht, _, h⟩ := h
  obtain ⟨h1, h2, h3, h4, _⟩ := ok t ht
  rcases h with ⟨e1, e2⟩ | ⟨e1, e2⟩
  · omega
  · omega
theorem Rch.rng {ts : List Tie} {n a b : Int} (ok : ∀ t ∈ ts, TieOk n t) (ha : 0 ≤ a ∧ a < n) (h : Rch ts a b) : 0 ≤ b ∧ b < n := h.ind (fun x => 0 ≤ x ∧ x < n) ha fun _ _ _ _ k => k.rng ok
def leader (ts : List Tie) (s : Int) : Prop := ∀ q, Rch ts s q → s ≤ q
/-- rising lists of the same numbers are one -/
theorem rising_ext : ∀ {xs ys : List Int}, xs.Pairwise (· < ·) → ys.Pairwise (· < ·) → (∀ z, z ∈ xs ↔ z ∈ ys) → xs = ys
  | [], [], _, _, _ => rfl
  | [], y :: ys, _, _, h => by have := (h y).mpr (by simp); simp at this
  | x :: xs, [], _, _, h => by have := (h x).mp (by simp); simp at this
  | x :: xs, y :: ys, hx, hy, h => by
    rw [List.pairwise_cons] at hx hy
    have e : x = y := by
      have h1 := (h x).mp (by simp)
      have h2 := (h y).mpr (by simp)
      rcases List.mem_cons.mp h1 with e | e
      · exact e
      · rcases List.mem_cons.mp h2 with e' | e'
        · exact e'.symm
        · have := hx.1 y e'
          have := hy.1 x e
          omega
    subst e
    rw [rising_ext hx.2 hy.2 fun z => ?_]
    constructor
    · intro hz
      rcases List.mem_cons.mp ((h z).mp (List.mem_cons_of_mem _ hz)) with e | e
      · have := hx.1 z hz
        omega
      · exact e
    · intro hz
      rcases List.mem_cons.mp ((h z).mpr (List.mem_cons_of_mem _ hz)) with e | e
      · have := hy.1 z hz
        omega
      · exact e
/-- 0, 1, .., n - 1 -/
def rng (n : Nat) : List Int := (List.range n).map fun (i : Nat) => (i : Int)
theorem mem_rng {n : Nat} {z : Int} : z ∈ rng n ↔ 0 ≤ z ∧ z < n := by
  unfold rng
  rw [List.mem_map]
  constructor
  · rintro ⟨i, hi, rfl⟩
    have := List.mem_range.mp hi
    omega
  · rintro ⟨h1, h2⟩
    exact ⟨z.toNat, List.mem_range.mpr (by omega), by omega⟩
theorem rng_rising (n : Nat) : (rng n).Pairwise (· < ·) := by
  unfold rng
  rw [List.pairwise_map]
  exact List.pairwise_lt_range.imp (by intro a b h; omega)
theorem rng_succ (n : Nat) : rng (n + 1) = rng n ++ [(n : Int)] := by
  unfold rng
  rw [List.range_succ, List.map_append]
  rfl
theorem rng_length (n : Nat) : (rng n).length = n := by
  unfold rng
  rw [List.length_map, List.length_range]
open Classical in
/-- the part of s -/
noncomputable def partOf (ts : List Tie) (n : Nat) (s : Int) : List Int := (rng n).filter fun p => decide (Rch ts s p)
open Classical in
/-- the parts by their first places, below i -/
noncomputable def partsTo (ts : List Tie) (n i : Nat) : List (List Int) := ((rng i).filter fun s => decide (leader ts s)).map (partOf ts n)
open Classical in
theorem partsTo_succ (ts : List Tie) (n i : Nat) : partsTo ts n (i + 1) = partsTo ts n i ++ (if leader ts i then [partOf ts n i] else []) := by
  unfold partsTo
  rw [rng_succ, List.filter_append, List.map_append]
  congr 1
  by_cases h : leader ts (i : Int)
  · rw [if_pos h, List.filter_cons, if_pos (decide_eq_true h)]
    rfl
  · rw [if_neg h, List.filter_cons, if_neg (by simpa using h)]
    rfl
theorem part_rising (ts : List Tie) (n : Nat) (s : Int) : (partOf ts n s).Pairwise (· < ·) := (rng_rising n).filter _
theorem mem_part {ts : List Tie} {n : Nat} {s z : Int} : z ∈ partOf ts n s ↔ (0 ≤ z ∧ z < n) ∧ Rch ts s z := by
  unfold partOf
  rw [List.mem_filter, mem_rng]
  simp
/-! ### the least place that each comes to, gone over again and again -/
def relax (f : Int → Int) (t : Tie) : Int → Int := fun x => if x = t.one ∨ x = t.other then min (f t.one) (f t.other) else f x
def rounds (ts : List Tie) : Nat → Int → Int
  | 0 => fun x => x
  | r + 1 => ts.foldl relax (rounds ts r)
theorem relax_le (f : Int → Int) (t : Tie) (x : Int) : relax f t x ≤ f x := by
  unfold relax
  split
  · rename_i h
    rcases h with rfl | rfl <;> omega
  · exact Int.le_refl _
theorem fold_le : ∀ (l : List Tie) (f : Int → Int) (x : Int), l.foldl relax f x ≤ f x
  | [], _, _ => Int.le_refl _
  | t :: l, f, x => Int.le_trans (fold_le l (relax f t) x) (relax_le f t x)
theorem fold_tie : ∀ (l : List Tie) (f : Int → Int) (t : Tie), t ∈ l → l.foldl relax f t.one ≤ min (f t.one) (f t.other) ∧ l.foldl relax f t.other ≤ min (f t.one) (f t.other)
  | t' :: l, f, t, h => by
    rcases List.mem_cons.mp h with e | e
    · subst e
      have h1 := fold_le l (relax f t) t.one
      have h2 := fold_le l (relax f t) t.other
      have e1 : relax f t t.one = min (f t.one) (f t.other) := by unfold relax; rw [if_pos (.inl rfl)]
      have e2 : relax f t t.other = min (f t.one) (f t.other) := by unfold relax; rw [if_pos (.inr rfl)]
      rw [e1] at h1
      rw [e2] at h2
      exact ⟨h1, h2⟩
    · have ih := fold_tie l (relax f t') t e
      have h1 := relax_le f t' t.one
      have h2 := relax_le f t' t.other
      exact ⟨Int.le_trans ih.1 (by omega), Int.le_trans ih.2 (by omega)⟩
theorem fold_rch {ts : List Tie} : ∀ (l : List Tie) (f : Int → Int), (∀ t ∈ l, t ∈ ts) → (∀ x, Rch ts x (f x)) → ∀ x, Rch ts x (l.foldl relax f x)
  | [], _, _, h => h
  | t :: l, f, hl, h => fold_rch l (relax f t) (fun t' ht => hl t' (List.mem_cons_of_mem _ ht)) fun x => by
    have ad : Rch ts t.one t.other := Rch.adj (k := t.foe) ⟨t, hl t (by simp), rfl, .inl ⟨rfl, rfl⟩⟩
    unfold relax
    split
    · rename_i hx
      have key : Rch ts x t.one ∧ Rch ts x t.other := by
        rcases hx with e | e <;> subst e
        · exact ⟨Rch.refl, ad⟩
        · exact ⟨ad.symm, Rch.refl⟩
      rcases Int.le_total (f t.one) (f t.other) with q | q
      · rw [Int.min_eq_left q]
        exact key.1.trans (h _)
      · rw [Int.min_eq_right q]
        exact key.2.trans (h _)
    · exact h x
theorem rounds_rch (ts : List Tie) : ∀ (r : Nat) (x : Int), Rch ts x (rounds ts r x)
  | 0, _ => Rch.refl
  | r + 1, x => fold_rch ts _ (fun _ h => h) (rounds_rch ts r) x
theorem filter_lt {p q : Int → Bool} : ∀ {l : List Int}, (∀ x ∈ l, q x = true → p x = true) → (∃ x ∈ l, p x = true ∧ q x = false) → (l.filter q).length < (l.filter p).length
  | [], _, ⟨x, hx, _⟩ => by simp at hx
  | y :: l, hi, ⟨x, hx, hp, hq⟩ => by
    have mono : (l.filter q).length ≤ (l.filter p).length := by
      have hi' : ∀ x ∈ l, q x = true → p x = true := fun x h => hi x (List.mem_cons_of_mem _ h)
      clear hi hx hp hq
      induction l with
      | nil => exact Nat.le_refl _
      | cons z l ih =>
        have ih := ih fun x h => hi' x (List.mem_cons_of_mem _ h)
        rw [List.filter_cons, List.filter_cons]
        have hz := hi' z (by simp)
        cases h1 : q z <;> cases h2 : p z <;> simp_all <;> omega
    rw [List.filter_cons, List.filter_cons]
    rcases List.mem_cons.mp hx with e | e
    · subst e
      rw [hq, hp]
      simp
      omega
    · have ih := filter_lt (l := l) (fun x h => hi x (List.mem_cons_of_mem _ h)) ⟨x, e, hp, hq⟩
      have hy := hi y (by simp)
      cases h1 : q y <;> cases h2 : p y <;> simp_all <;> omega
open Classical in
/-- behind as many rounds as there are places each has its part's least place -/
theorem rounds_least {ts : List Tie} {n : Nat} (ok : ∀ t ∈ ts, TieOk n t) {m p : Int} (hm : leader ts m) (h0 : 0 ≤ m ∧ m < n) (hp : Rch ts m p) : rounds ts n p = m := by
  have ge : ∀ r x, Rch ts m x → m ≤ rounds ts r x := fun r x hx => hm _ (hx.trans (rounds_rch ts r x))
  have mono : ∀ r x, rounds ts (r + 1) x ≤ rounds ts r x := fun r x => fold_le ts _ x
  have atm : ∀ r, rounds ts r m = m := fun r => by
    have h1 := ge r m Rch.refl
    have h2 : rounds ts r m ≤ m := by
      induction r with
      | zero => exact Int.le_refl _
      | succ r ih => exact Int.le_trans (mono r m) (ih (ge r m Rch.refl))
    omega
  have cnt : ∀ r, ((rng n).filter fun x => decide (Rch ts m x ∧ rounds ts r x ≠ m)).length ≤ n - r := fun r => by
    induction r with
    | zero =>
      refine Nat.le_trans (List.length_filter_le _ _) ?_
      rw [rng_length]
      omega
    | succ r ih =>
      by_cases hex : ∃ x, Rch ts m x ∧ rounds ts r x ≠ m
      · obtain ⟨x, hx, hne⟩ := hex
        -- an edge over which it comes
        have edge : ∃ a b k, Rch ts m a ∧ rounds ts r a = m ∧ Adj ts a b k ∧ rounds ts r b ≠ m := by
          by_cases hn : ∃ a b k, Rch ts m a ∧ rounds ts r a = m ∧ Adj ts a b k ∧ rounds ts r b ≠ m
          · exact hn
          · exfalso
            refine hne (hx.ind (fun y => Rch ts m y ∧ rounds ts r y = m) ⟨Rch.refl, atm r⟩ fun a b k ha k' => ⟨ha.1.trans (Rch.adj k'), ?_⟩).2
            by_cases hb : rounds ts r b = m
            · exact hb
            · exact absurd ⟨a, b, k, ha.1, ha.2, k', hb⟩ hn
        obtain ⟨a, b, k, ha, ha2, hab, hb⟩ := edge
        have hmb : Rch ts m b := ha.trans (Rch.adj hab)
        have hb' : rounds ts (r + 1) b = m := by
          have h1 := ge (r + 1) b hmb
          obtain ⟨t, ht, _, h⟩ := hab
          have ft := fold_tie ts (rounds ts r) t ht
          have h2 : rounds ts (r + 1) b ≤ m := by
            rcases h with ⟨e1, e2⟩ | ⟨e1, e2⟩
            · have q := ft.2
              rw [e1, e2, ha2] at q
              exact Int.le_trans q (by omega)
            · have q := ft.1
              rw [e1, e2, ha2] at q
              exact Int.le_trans q (by omega)
          omega
        have lt := filter_lt (p := fun x => decide (Rch ts m x ∧ rounds ts r x ≠ m)) (q := fun x => decide (Rch ts m x ∧ rounds ts (r + 1) x ≠ m)) (l := rng n) (fun x _ hq => by
          have hq := of_decide_eq_true hq
          refine decide_eq_true ⟨hq.1, fun z => hq.2 ?_⟩
          have h1 := ge (r + 1) x hq.1
          have h2 := mono r x
          omega) ⟨b, mem_rng.mpr (hmb.rng ok h0), decide_eq_true ⟨hmb, hb⟩, decide_eq_false fun z => z.2 hb'⟩
        omega
      · have e : (rng n).filter (fun x => decide (Rch ts m x ∧ rounds ts (r + 1) x ≠ m)) = [] := by
          rw [List.filter_eq_nil_iff]
          intro x _ hq
          have hq := of_decide_eq_true hq
          refine hex ⟨x, hq.1, fun z => hq.2 ?_⟩
          have h1 := ge (r + 1) x hq.1
          have h2 := mono r x
          omega
        rw [e]
        exact Nat.zero_le _
  have c := cnt n
  rw [Nat.sub_self] at c
  have e := List.eq_nil_of_length_eq_zero (Nat.le_zero.mp c)
  by_cases hne : rounds ts n p = m
  · exact hne
  · rw [List.filter_eq_nil_iff] at e
    exact absurd (decide_eq_true ⟨hp, hne⟩) (e p (mem_rng.mpr (hp.rng ok h0)))
open Classical in
/-- each has a least place -/
theorem has_leader {ts : List Tie} {n : Nat} (ok : ∀ t ∈ ts, TieOk n t) {p : Int} (h0 : 0 ≤ p ∧ p < n) : ∃ m, leader ts m ∧ (0 ≤ m ∧ m < n) ∧ Rch ts m p := by
  have key : ∀ (k : Nat) (x : Int), x = k → Rch ts p x → ∃ m, leader ts m ∧ (0 ≤ m ∧ m < n) ∧ Rch ts m p := by
    intro k
    induction k using Nat.strongRecOn with
    | ind k ih =>
      intro x hx hr
      have hxr := hr.rng ok h0
      by_cases hl : leader ts x
      · exact ⟨x, hl, hxr, hr.symm⟩
      · have hl' : ∃ q, Rch ts x q ∧ q < x := by
          by_cases h : ∃ q, Rch ts x q ∧ q < x
          · exact h
          · exfalso
            refine hl fun q hq => ?_
            by_cases h' : q < x
            · exact absurd ⟨q, hq, h'⟩ h
            · omega
        obtain ⟨q, hq, hlt⟩ := hl'
        have hqr := hq.rng ok hxr
        exact ih q.toNat (by omega) q (by omega) (hr.trans hq)
  exact key p.toNat p (by omega) Rch.refl
/-! ### rows of numbers as data -/
def IntsV (H : Hp) (v : V) (xs : List Int) : Prop := ∃ b, v = .ref b ∧ H b = some (.tup (xs.map V.int))
theorem IntsV.tk {H H' : Hp} (k : Tk H H') {v : V} {xs : List Int} (h : IntsV H v xs) : IntsV H' v xs := by
  obtain ⟨a, rfl, e⟩ := h
  exact ⟨a, rfl, k _ _ e⟩
def intsD (xs : List Int) : PyData := .tuple (xs.map PyData.int)
section
variable {K : PySem.W.Frag} {H : Hp}
theorem dp_ints : ∀ (xs : List Int), DpAll K H (xs.map V.int) (xs.map PyData.int)
  | [] => .nil
  | x :: xs => .cons (.int x) (dp_ints xs)
theorem IntsV.dp {v : V} {xs : List Int} (h : IntsV H v xs) : Dp K H v (intsD xs) := by
  obtain ⟨b, rfl, e⟩ := h
  exact .tup (SqT.of e) (dp_ints xs)
end
theorem lay_ints : ∀ xs : List Int, PyData.canLayAll0 (xs.map PyData.int) = true
  | [] => by simp [PyData.canLayAll0]
  | x :: xs => by simp [PyData.canLayAll0, PyData.canLay0, lay_ints xs]
theorem deep_ints : ∀ xs : List Int, PyData.depthAll (xs.map PyData.int) = 0
  | [] => by simp [PyData.depthAll]
  | x :: xs => by simp [PyData.depthAll, PyData.depth, deep_ints xs]
theorem lay_intsD (xs : List Int) : (intsD xs).canLay0 = true := by
  unfold intsD
  rw [PyData.canLay0]
  exact lay_ints xs
theorem deep_intsD (xs : List Int) : (intsD xs).depth = 1 := by
  unfold intsD
  rw [PyData.depth, deep_ints]
theorem shaped_intsD (xs : List Int) : SeqAt.shaped (intsD xs) = true := by
  unfold SeqAt.shaped
  rw [lay_intsD, deep_intsD]
  rfl
theorem eqv_nil (xs : List Int) : PyData.eqv (intsD xs) (intsD []) = xs.isEmpty := by
  unfold intsD
  rw [PyData.eqv]
  cases xs <;> rfl
theorem Same.mut {H H' : Hp} {a : Addr} {o : HO} (s : Same H H') (h : H a = none) : Same H (upd H' a o) := fun b x e => by
  rw [upd_ne (ne_of_none e h)]
  exact s b x e
theorem at0 {α : Type} (x : α) (xs : List α) : atI (x :: xs) 0 = some x := atI_nat (j := 0) rfl
/-! ### stems (mathematics) -/
theorem Rch.mono {ts ts' : List Tie} (h : ∀ t ∈ ts, t ∈ ts') {a b : Int} (r : Rch ts a b) : Rch ts' a b :=
  r.ind (fun x => Rch ts' a x) .refl fun x y k hx ad => by
    obtain ⟨t, ht, e⟩ := ad
    exact hx.trans (Rch.adj (k := k) ⟨t, h t ht, e⟩)
theorem rch_pq {ts : List Tie} {t : Tie} {p q : Int} (h : (p = t.one ∧ q = t.other) ∨ (p = t.other ∧ q = t.one)) : Rch (ts ++ [t]) p q := by
  refine Rch.adj (k := t.foe) ⟨t, List.mem_append_right _ (by simp), rfl, ?_⟩
  rcases h with ⟨h1, h2⟩ | ⟨h1, h2⟩
  · exact .inl ⟨h1.symm, h2.symm⟩
  · exact .inr ⟨h2.symm, h1.symm⟩
theorem rch_snoc {ts : List Tie} {t : Tie} {p q : Int} (h : (p = t.one ∧ q = t.other) ∨ (p = t.other ∧ q = t.one)) {a b : Int} : Rch (ts ++ [t]) a b ↔ Rch ts a b ∨ (Rch ts a p ∧ Rch ts q b) ∨ (Rch ts a q ∧ Rch ts p b) := by
  have up : ∀ {x y : Int}, Rch ts x y → Rch (ts ++ [t]) x y := fun r => r.mono fun t ht => List.mem_append_left _ ht
  constructor
  · intro r
    refine r.ind (fun x => Rch ts a x ∨ (Rch ts a p ∧ Rch ts q x) ∨ (Rch ts a q ∧ Rch ts p x)) (.inl .refl) fun x y k hx ad => ?_
    obtain ⟨t', ht, e1, e2⟩ := ad
    rcases List.mem_append.mp ht with ht | ht
    · have st : Rch ts x y := Rch.adj (k := k) ⟨t', ht, e1, e2⟩
      rcases hx with h1 | ⟨h1, h2⟩ | ⟨h1, h2⟩
      · exact .inl (h1.trans st)
      · exact .inr (.inl ⟨h1, h2.trans st⟩)
      · exact .inr (.inr ⟨h1, h2.trans st⟩)
    · rw [List.mem_singleton] at ht
      subst ht
      have xy : (x = p ∧ y = q) ∨ (x = q ∧ y = p) := by
        rcases e2 with ⟨e2, e3⟩ | ⟨e2, e3⟩ <;> rcases h with ⟨h1, h2⟩ | ⟨h1, h2⟩
        · exact .inl ⟨by omega, by omega⟩
        · exact .inr ⟨by omega, by omega⟩
        · exact .inr ⟨by omega, by omega⟩
        · exact .inl ⟨by omega, by omega⟩
      rcases xy with ⟨rfl, rfl⟩ | ⟨rfl, rfl⟩
      · rcases hx with h1 | ⟨h1, h2⟩ | ⟨h1, h2⟩
        · exact .inr (.inl ⟨h1, .refl⟩)
        · exact .inr (.inl ⟨h1, .refl⟩)
        · exact .inl h1
      · rcases hx with h1 | ⟨h1, h2⟩ | ⟨h1, h2⟩
        · exact .inr (.inr ⟨h1, .refl⟩)
        · exact .inl h1
        · exact .inr (.inr ⟨h1, .refl⟩)
  · rintro (h1 | ⟨h1, h2⟩ | ⟨h1, h2⟩)
    · exact up h1
    · exact (up h1).trans ((rch_pq h).trans (up h2))
    · exact (up h1).trans ((rch_pq h).symm.trans (up h2))
theorem rch_nil {a b : Int} (h : Rch [] a b) : a = b := h.ind (fun x => a = x) rfl fun x y k _ ad => by
  obtain ⟨t, ht, _⟩ := ad
  simp at ht
def tieN (ts : List Tie) (k : Nat) : Tie := ts.getD k ⟨0, 0, false⟩
theorem tieN_of {ts : List Tie} {k : Nat} {t : Tie} (h : ts[k]? = some t) : tieN ts k = t := by
  unfold tieN
  rw [List.getD_eq_getElem?_getD, h]
  rfl
open Classical in
noncomputable def stemB (ts : List Tie) (k : Nat) : Bool := decide (¬ Rch (ts.take k) (tieN ts k).one (tieN ts k).other)
noncomputable def stemsTo (ts : List Tie) (k : Nat) : List Int := (rng k).filter fun i => stemB ts i.toNat
theorem stemsTo_succ (ts : List Tie) (k : Nat) : stemsTo ts (k + 1) = stemsTo ts k ++ (if stemB ts k = true then [(k : Int)] else []) := by
  unfold stemsTo
  rw [rng_succ, List.filter_append, List.filter_cons, Int.toNat_natCast]
  rfl
theorem stemsTo_len (ts : List Tie) (k : Nat) : (stemsTo ts k).length ≤ k := by
  unfold stemsTo
  have := List.length_filter_le (fun i => stemB ts i.toNat) (rng k)
  rw [rng_length] at this
  exact this
open Classical in
theorem stem_iff {ts : List Tie} {k : Nat} {t : Tie} (h : ts[k]? = some t) : stemB ts k = true ↔ ¬ Rch (ts.take k) t.one t.other := by
  unfold stemB
  rw [tieN_of h]
  exact decide_eq_true_iff
theorem take_snoc {α : Type} {ts : List α} {k : Nat} {t : α} (h : ts[k]? = some t) : ts.take (k + 1) = ts.take k ++ [t] := by
  rw [List.take_add_one, h]
  rfl
/-- labels: alike just where ties lead -/
def Lab (ts : List Tie) (n : Nat) (g : Int → Int) : Prop := ∀ i j : Int, 0 ≤ i → i < n → 0 ≤ j → j < n → (g i = g j ↔ Rch ts i j)
def mrg (g : Int → Int) (old new : Int) : Int → Int := fun x => if g x = old then new else g x
theorem lab_nil (n : Nat) : Lab [] n (fun i => i) := fun i j _ _ _ _ => ⟨fun h => by rw [show i = j from h]; exact .refl, fun h => rch_nil h⟩
theorem lab_same {ts : List Tie} {n : Nat} {g : Int → Int} {t : Tie} (h : Lab ts n g) (ok : TieOk n t) (e : g t.one = g t.other) : Lab (ts ++ [t]) n g := fun i j i0 i1 j0 j1 => by
  obtain ⟨o1, o2, o3, o4, _⟩ := ok
  have r : Rch ts t.one t.other := (h _ _ o1 o2 o3 o4).mp e
  rw [rch_snoc (.inl ⟨rfl, rfl⟩), h i j i0 i1 j0 j1]
  constructor
  · exact .inl
  · rintro (h1 | ⟨h1, h2⟩ | ⟨h1, h2⟩)
    · exact h1
    · exact h1.trans (r.trans h2)
    · exact h1.trans (r.symm.trans h2)
theorem lab_step {ts : List Tie} {n : Nat} {g : Int → Int} {t : Tie} {p q : Int} (h : Lab ts n g) (ok : TieOk n t) (e : (p = t.one ∧ q = t.other) ∨ (p = t.other ∧ q = t.one)) : Lab (ts ++ [t]) n (mrg g (g p) (g q)) := fun i j i0 i1 j0 j1 => by
  have pr : (0 ≤ p ∧ p < n) ∧ (0 ≤ q ∧ q < n) := by
    obtain ⟨o1, o2, o3, o4, _⟩ := ok
    rcases e with ⟨rfl, rfl⟩ | ⟨rfl, rfl⟩
    · exact ⟨⟨o1, o2⟩, o3, o4⟩
    · exact ⟨⟨o3, o4⟩, o1, o2⟩
  obtain ⟨⟨p0, p1⟩, q0, q1⟩ := pr
  rw [rch_snoc e]
  unfold mrg
  have ip := h i p i0 i1 p0 p1
  have jp := h j p j0 j1 p0 p1
  have iq := h i q i0 i1 q0 q1
  have jq := h j q j0 j1 q0 q1
  have ij := h i j i0 i1 j0 j1
  by_cases hi : g i = g p <;> by_cases hj : g j = g p
  · rw [if_pos hi, if_pos hj]
    exact ⟨fun _ => .inl (ij.mp (hi.trans hj.symm)), fun _ => rfl⟩
  · rw [if_pos hi, if_neg hj]
    constructor
    · intro z
      exact .inr (.inl ⟨ip.mp hi, (jq.mp z.symm).symm⟩)
    · rintro (z | ⟨_, z⟩ | ⟨_, z⟩)
      · exact absurd ((ij.mpr z).symm.trans hi) hj
      · exact (jq.mpr z.symm).symm
      · exact absurd (jp.mpr z.symm) hj
  · rw [if_neg hi, if_pos hj]
    constructor
    · intro z
      exact .inr (.inr ⟨iq.mp z, (jp.mp hj).symm⟩)
    · rintro (z | ⟨z, _⟩ | ⟨z, _⟩)
      · exact absurd ((ij.mpr z).trans hj) hi
      · exact absurd (ip.mpr z) hi
      · exact iq.mpr z
  · rw [if_neg hi, if_neg hj]
    constructor
    · intro z
      exact .inl (ij.mp z)
    · rintro (z | ⟨z, _⟩ | ⟨_, z⟩)
      · exact ij.mpr z
      · exact absurd (ip.mpr z) hi
      · exact absurd (jp.mpr z.symm) hj
/-- heads: labels that are places of their own; how many -/
structure Heads (ts : List Tie) (n i : Nat) (g : Int → Int) : Prop where
  lab : Lab (ts.take i) n g
  rng : ∀ x : Int, 0 ≤ x → x < n → 0 ≤ g x ∧ g x < n
  idem : ∀ x : Int, 0 ≤ x → x < n → g (g x) = g x
  cnt : ((FF.rng n).filter fun x => decide (g x = x)).length + (stemsTo ts i).length = n
theorem heads_nil (ts : List Tie) (n : Nat) : Heads ts n 0 (fun i => i) := by
  refine ⟨by rw [List.take_zero]; exact lab_nil n, fun x h0 h1 => ⟨h0, h1⟩, fun x _ _ => rfl, ?_⟩
  have e : ((FF.rng n).filter fun x => decide (x = x)) = FF.rng n := by
    rw [List.filter_eq_self]
    intro x _
    exact decide_eq_true rfl
  show ((FF.rng n).filter fun x => decide (x = x)).length + 0 = n
  rw [e, rng_length, Nat.add_zero]
theorem filter_drop {p q : Int → Bool} {h : Int} : ∀ {l : List Int}, l.Nodup → h ∈ l → p h = true → (∀ x ∈ l, q x = (p x && decide (x ≠ h))) → (l.filter q).length + 1 = (l.filter p).length
  | x :: l, nd, hm, hp, hq => by
    rw [List.nodup_cons] at nd
    have hx := hq x (by simp)
    rw [List.filter_cons, List.filter_cons, hx]
    by_cases e : x = h
    · subst e
      have same : l.filter q = l.filter p := List.filter_congr fun y hy => by
        rw [hq y (List.mem_cons_of_mem _ hy), decide_eq_true (show y ≠ x from fun z => nd.1 (by rw [← z]; exact hy)), Bool.and_true]
      rw [same, hp]
      simp
    · have hm' : h ∈ l := (List.mem_cons.mp hm).elim (fun z => absurd z.symm e) id
      have ih := filter_drop (l := l) nd.2 hm' hp fun y hy => hq y (List.mem_cons_of_mem _ hy)
      rw [decide_eq_true (show x ≠ h from e), Bool.and_true]
      cases p x
      · simpa using ih
      · simp
        omega
theorem heads_same {ts : List Tie} {n i : Nat} {g : Int → Int} {t : Tie} (h : Heads ts n i g) (et : ts[i]? = some t) (ok : TieOk n t) (e : g t.one = g t.other) : Heads ts n (i + 1) g := by
  refine ⟨by rw [take_snoc et]; exact lab_same h.lab ok e, h.rng, h.idem, ?_⟩
  have no : ¬ stemB ts i = true := fun z => (stem_iff et).mp z ((h.lab _ _ ok.1 ok.2.1 ok.2.2.1 ok.2.2.2.1).mp e)
  rw [stemsTo_succ, if_neg no, List.append_nil]
  exact h.cnt
theorem heads_step {ts : List Tie} {n i : Nat} {g : Int → Int} {t : Tie} {p q : Int} (h : Heads ts n i g) (et : ts[i]? = some t) (ok : TieOk n t) (e : (p = t.one ∧ q = t.other) ∨ (p = t.other ∧ q = t.one)) (ne : g p ≠ g q) : Heads ts n (i + 1) (mrg g (g p) (g q)) := by
  have pr : (0 ≤ p ∧ p < n) ∧ (0 ≤ q ∧ q < n) := by
    obtain ⟨o1, o2, o3, o4, _⟩ := ok
    rcases e with ⟨rfl, rfl⟩ | ⟨rfl, rfl⟩
    · exact ⟨⟨o1, o2⟩, o3, o4⟩
    · exact ⟨⟨o3, o4⟩, o1, o2⟩
  obtain ⟨⟨p0, p1⟩, q0, q1⟩ := pr
  have gp := h.rng p p0 p1
  have gq := h.rng q q0 q1
  have ip := h.idem p p0 p1
  have iq := h.idem q q0 q1
  refine ⟨by rw [take_snoc et]; exact lab_step h.lab ok e, fun x x0 x1 => ?_, fun x x0 x1 => ?_, ?_⟩
  · unfold mrg
    split
    · exact gq
    · exact h.rng x x0 x1
  · have ix := h.idem x x0 x1
    by_cases hx : g x = g p
    · have e1 : mrg g (g p) (g q) x = g q := if_pos hx
      rw [e1]
      show (if g (g q) = g p then g q else g (g q)) = g q
      rw [iq, if_neg (Ne.symm ne)]
    · have e1 : mrg g (g p) (g q) x = g x := if_neg hx
      rw [e1]
      show (if g (g x) = g p then g q else g (g x)) = g x
      rw [ix, if_neg hx]
  · have yes : stemB ts i = true := (stem_iff et).mpr fun z => by
      have hl := (h.lab _ _ ok.1 ok.2.1 ok.2.2.1 ok.2.2.2.1).mpr z
      rcases e with ⟨rfl, rfl⟩ | ⟨rfl, rfl⟩
      · exact ne hl
      · exact ne hl.symm
    have drop := filter_drop (p := fun x => decide (g x = x)) (q := fun x => decide (mrg g (g p) (g q) x = x)) (h := g p) (l := FF.rng n) ((rng_rising n).imp fun h => by omega) (mem_rng.mpr gp) (decide_eq_true ip) (fun x hx => ?_)
    · rw [stemsTo_succ, if_pos yes, List.length_append]
      have := h.cnt
      simp only [List.length_cons, List.length_nil]
      omega
    · have xr := mem_rng.mp hx
      rw [Bool.eq_iff_iff, Bool.and_eq_true, decide_eq_true_iff, decide_eq_true_iff, decide_eq_true_iff]
      show (if g x = g p then g q else g x) = x ↔ _
      by_cases hx : g x = g p
      · rw [if_pos hx]
        constructor
        · intro z
          exact absurd (by rw [← z, iq] at hx; exact hx.symm) ne
        · rintro ⟨z1, z2⟩
          exact absurd (z1.symm.trans hx) z2
      · rw [if_neg hx]
        exact ⟨fun z => ⟨z, fun y => hx (by rw [y]; exact ip)⟩, fun z => z.1⟩
/-- stems are told by the places of the ties alone -/
theorem rch_frames : ∀ {ts us : List Tie}, ts.length = us.length → (∀ (i : Nat) t u, ts[i]? = some t → us[i]? = some u → (u.one = t.one ∧ u.other = t.other) ∨ (u.one = t.other ∧ u.other = t.one)) → ∀ {a b : Int}, Rch ts a b → Rch us a b := by
  intro ts us hl h a b r
  refine r.ind (fun x => Rch us a x) .refl fun x y k hx ad => ?_
  obtain ⟨t, ht, _, e⟩ := ad
  obtain ⟨i, hi, rfl⟩ := List.getElem_of_mem ht
  have hu : us[i]? = some us[i] := List.getElem?_eq_getElem (by omega)
  have w := h i _ _ (List.getElem?_eq_getElem hi) hu
  refine hx.trans (Rch.adj (k := us[i].foe) ⟨us[i], List.getElem_mem _, rfl, ?_⟩)
  rcases w with ⟨w1, w2⟩ | ⟨w1, w2⟩ <;> rcases e with ⟨e1, e2⟩ | ⟨e1, e2⟩
  · exact .inl ⟨by omega, by omega⟩
  · exact .inr ⟨by omega, by omega⟩
  · exact .inr ⟨by omega, by omega⟩
  · exact .inl ⟨by omega, by omega⟩
def Framed (ts us : List Tie) : Prop := ts.length = us.length ∧ ∀ (i : Nat) t u, ts[i]? = some t → us[i]? = some u → (u.one = t.one ∧ u.other = t.other) ∨ (u.one = t.other ∧ u.other = t.one)
theorem Framed.symm {ts us : List Tie} (h : Framed ts us) : Framed us ts := ⟨h.1.symm, fun i u t e1 e2 => by
  rcases h.2 i t u e2 e1 with ⟨w1, w2⟩ | ⟨w1, w2⟩
  · exact .inl ⟨w1.symm, w2.symm⟩
  · exact .inr ⟨w2.symm, w1.symm⟩⟩
theorem Framed.take {ts us : List Tie} (h : Framed ts us) (k : Nat) : Framed (ts.take k) (us.take k) := by
  refine ⟨by rw [List.length_take, List.length_take, h.1], fun i t u e1 e2 => ?_⟩
  by_cases hk : i < k
  · rw [List.getElem?_take_of_lt hk] at e1 e2
    exact h.2 i t u e1 e2
  · rw [List.getElem?_take] at e1
    rw [if_neg hk] at e1
    cases e1
theorem Framed.map {ts : List Tie} {f : Tie → Tie} (h : ∀ t ∈ ts, ((f t).one = t.one ∧ (f t).other = t.other) ∨ ((f t).one = t.other ∧ (f t).other = t.one)) : Framed ts (ts.map f) := by
  refine ⟨by rw [List.length_map], fun i t u e1 e2 => ?_⟩
  rw [List.getElem?_map, e1] at e2
  cases e2
  exact h t (List.mem_of_getElem? e1)
theorem stems_framed {ts us : List Tie} (h : Framed ts us) : stemsTo us us.length = stemsTo ts ts.length := by
  unfold stemsTo
  rw [← h.1]
  refine List.filter_congr fun i hi => ?_
  have ir := mem_rng.mp hi
  have e1 : ts[i.toNat]? = some ts[i.toNat] := List.getElem?_eq_getElem (by omega)
  have l := h.1
  have e2 : us[i.toNat]? = some us[i.toNat] := List.getElem?_eq_getElem (by omega)
  have ht := h.take i.toNat
  rw [Bool.eq_iff_iff, stem_iff e1, stem_iff e2]
  have both : ∀ a b : Int, Rch (ts.take i.toNat) a b ↔ Rch (us.take i.toNat) a b := fun a b => ⟨fun r => rch_frames ht.1 ht.2 r, fun r => rch_frames ht.symm.1 ht.symm.2 r⟩
  rcases h.2 _ _ _ e1 e2 with ⟨w1, w2⟩ | ⟨w1, w2⟩
  · rw [w1, w2, both]
  · rw [w1, w2, both]
    exact ⟨fun z y => z y.symm, fun z y => z y.symm⟩
theorem stemsTo_rising (ts : List Tie) (k : Nat) : (stemsTo ts k).Pairwise (· < ·) := (rng_rising k).filter _
theorem stemsTo_mem {ts : List Tie} {k : Nat} {i : Int} : i ∈ stemsTo ts k ↔ (0 ≤ i ∧ i < k) ∧ stemB ts i.toNat = true := by
  unfold stemsTo
  rw [List.mem_filter, mem_rng]
theorem stems_own (ts : List Tie) : stemsTo ((stemsTo ts ts.length).map fun i => tieN ts i.toNat) (stemsTo ts ts.length).length = rng (stemsTo ts ts.length).length := by
  generalize hS : stemsTo ts ts.length = S
  unfold stemsTo
  rw [List.filter_eq_self]
  intro j hj
  have jr := mem_rng.mp hj
  have hjl : j.toNat < S.length := by omega
  have ej : (S.map fun i => tieN ts i.toNat)[j.toNat]? = some (tieN ts S[j.toNat].toNat) := by
    rw [List.getElem?_map, List.getElem?_eq_getElem hjl]
    rfl
  have hm : S[j.toNat] ∈ stemsTo ts ts.length := by rw [hS]; exact List.getElem_mem _
  obtain ⟨⟨m0, m1⟩, mb⟩ := stemsTo_mem.mp hm
  have et : ts[S[j.toNat].toNat]? = some (tieN ts S[j.toNat].toNat) := by
    have h : S[j.toNat].toNat < ts.length := by omega
    rw [List.getElem?_eq_getElem h, tieN_of (List.getElem?_eq_getElem h)]
  rw [stem_iff ej]
  rw [stem_iff et] at mb
  refine fun r => mb (r.mono fun t ht => ?_)
  rw [← List.map_take, List.mem_map] at ht
  obtain ⟨x, hx, rfl⟩ := ht
  obtain ⟨a, ha, rfl⟩ := List.getElem_of_mem hx
  rw [List.length_take] at ha
  rw [List.getElem_take]
  have hx' : S[a] ∈ stemsTo ts ts.length := by rw [hS]; exact List.getElem_mem _
  obtain ⟨⟨x0, x1⟩, _⟩ := stemsTo_mem.mp hx'
  have rise : S.Pairwise (· < ·) := by rw [← hS]; exact stemsTo_rising _ _
  have lt : S[a] < S[j.toNat] := List.pairwise_iff_getElem.mp rise a j.toNat (by omega) hjl (by omega)
  have h : S[a].toNat < ts.length := by omega
  rw [tieN_of (List.getElem?_eq_getElem h)]
  rw [List.mem_iff_getElem]
  exact ⟨S[a].toNat, by rw [List.length_take]; omega, by rw [List.getElem_take]⟩
/-! ### neighbours, and what a walk has come to (mathematics) -/
abbrev Nb := Int × Bool
def nb1 (t : Tie) (i : Int) : List Nb := (if i = t.one then [(t.other, t.foe)] else []) ++ (if i = t.other then [(t.one, t.foe)] else [])
def nbs (ts : List Tie) (i : Int) : List Nb := ts.flatMap fun t => nb1 t i
theorem nbs_snoc (ts : List Tie) (t : Tie) (i : Int) : nbs (ts ++ [t]) i = nbs ts i ++ nb1 t i := by
  unfold nbs
  rw [List.flatMap_append]
  simp
theorem nb1_len (t : Tie) (i : Int) : (nb1 t i).length ≤ 2 := by
  unfold nb1
  rw [List.length_append]
  split <;> split <;> simp
theorem nbs_len (ts : List Tie) (i : Int) : (nbs ts i).length ≤ 2 * ts.length := by
  induction ts with
  | nil => simp [nbs]
  | cons t ts ih =>
    have h := nb1_len t i
    unfold nbs at ih ⊢
    rw [List.flatMap_cons, List.length_append, List.length_cons]
    omega
theorem mem_nbs {ts : List Tie} {i : Int} {p : Nb} : p ∈ nbs ts i ↔ Adj ts i p.1 p.2 := by
  unfold nbs Adj nb1
  rw [List.mem_flatMap]
  constructor
  · rintro ⟨t, ht, h⟩
    refine ⟨t, ht, ?_⟩
    rcases List.mem_append.mp h with h | h
    · split at h
      · rename_i e
        rw [List.mem_singleton] at h
        subst h
        exact ⟨rfl, .inl ⟨e.symm, rfl⟩⟩
      · simp at h
    · split at h
      · rename_i e
        rw [List.mem_singleton] at h
        subst h
        exact ⟨rfl, .inr ⟨rfl, e.symm⟩⟩
      · simp at h
  · rintro ⟨t, ht, e, h⟩
    refine ⟨t, ht, List.mem_append.mpr ?_⟩
    obtain ⟨p1, p2⟩ := p
    simp only at e h
    rcases h with ⟨h1, h2⟩ | ⟨h1, h2⟩
    · left
      rw [if_pos h1.symm, List.mem_singleton, ← e, ← h2]
    · right
      rw [if_pos h2.symm, List.mem_singleton, ← e, ← h1]
theorem pigeon : ∀ (n : Nat) (xs : List Int), xs.Nodup → (∀ x ∈ xs, 0 ≤ x ∧ x < n) → xs.length ≤ n
  | 0, xs, _, h => by
    cases xs with
    | nil => simp
    | cons x r =>
      have := h x (by simp)
      omega
  | n + 1, xs, nd, h => by
    have q := pigeon n (xs.erase (n : Int)) (nd.erase _) fun x hx => by
      have h1 := h x (List.mem_of_mem_erase hx)
      have h2 : x ≠ n := (List.Nodup.mem_erase_iff nd).mp hx |>.1
      omega
    have l := List.length_erase (a := (n : Int)) (l := xs)
    split at l
    · omega
    · omega
structure SF (ts : List Tie) (s : Int) (ks : List Nb) (wl ex : List Int) : Prop where
  nd : (ks.map (·.1)).Nodup
  rp : ∀ p ∈ ks, RP ts s p.1 p.2
  st : s ∈ ks.map (·.1)
  sub : ∀ x ∈ wl, x ∈ ks.map (·.1)
  le : wl.length ≤ ks.length
  cl : ∀ x ∈ ks.map (·.1), x ∉ wl → x ∉ ex → ∀ y k, Adj ts x y k → y ∈ ks.map (·.1)
theorem SF.keys {ts : List Tie} {s : Int} {ks : List Nb} {wl ex : List Int} (h : SF ts s ks wl ex) {x : Int} (hx : x ∈ ks.map (·.1)) : ∃ b, (x, b) ∈ ks ∧ RP ts s x b := by
  obtain ⟨p, hp, rfl⟩ := List.mem_map.mp hx
  exact ⟨p.2, hp, h.rp p hp⟩
theorem SF.few {ts : List Tie} {n : Nat} {s : Int} {ks : List Nb} {wl ex : List Int} (h : SF ts s ks wl ex) (ok : ∀ t ∈ ts, TieOk n t) (hs : 0 ≤ s ∧ s < n) : ks.length ≤ n := by
  have q := pigeon n (ks.map (·.1)) h.nd fun x hx => by
    obtain ⟨b, _, hb⟩ := h.keys hx
    exact Rch.rng ok hs ⟨b, hb⟩
  rw [List.length_map] at q
  exact q
theorem SF.all {ts : List Tie} {s : Int} {ks : List Nb} (h : SF ts s ks [] []) (z : Int) : z ∈ ks.map (·.1) ↔ Rch ts s z := by
  constructor
  · intro hz
    obtain ⟨b, _, hb⟩ := h.keys hz
    exact ⟨b, hb⟩
  · intro hz
    exact hz.ind (fun x => x ∈ ks.map (·.1)) h.st fun x y k hx ad => h.cl x hx (by simp) (by simp) y k ad
theorem SF.pop {ts : List Tie} {s p : Int} {ks : List Nb} {wl : List Int} (h : SF ts s ks (wl ++ [p]) []) : SF ts s ks wl [p] :=
  ⟨h.nd, h.rp, h.st, fun x hx => h.sub x (List.mem_append_left _ hx), by have := h.le; rw [List.length_append] at this; omega, fun x hx h1 h2 => h.cl x hx (fun z => by
    rcases List.mem_append.mp z with z | z
    · exact h1 z
    · exact h2 z) (by simp)⟩
theorem SF.push {ts : List Tie} {s p y : Int} {b f : Bool} {ks : List Nb} {wl : List Int} (h : SF ts s ks wl [p]) (hp : RP ts s p b) (ad : Adj ts p y f) (hy : y ∉ ks.map (·.1)) : SF ts s (ks ++ [(y, b ^^ f)]) (wl ++ [y]) [p] := by
  have em : (ks ++ [(y, b ^^ f)]).map (·.1) = ks.map (·.1) ++ [y] := by rw [List.map_append]; rfl
  refine ⟨?_, fun q hq => ?_, ?_, fun x hx => ?_, ?_, fun x hx h1 h2 z k hz => ?_⟩
  · rw [em, List.nodup_append]
    refine ⟨h.nd, by simp, fun x hx z hz e => ?_⟩
    rw [List.mem_singleton] at hz
    subst hz
    subst e
    exact hy hx
  · rcases List.mem_append.mp hq with q1 | q1
    · exact h.rp q q1
    · rw [List.mem_singleton] at q1
      subst q1
      exact hp.step ad
  · rw [em]
    exact List.mem_append_left _ h.st
  · rw [em]
    rcases List.mem_append.mp hx with q1 | q1
    · exact List.mem_append_left _ (h.sub x q1)
    · exact List.mem_append_right _ q1
  · rw [List.length_append, List.length_append]
    have := h.le
    simp
    omega
  · rw [em] at hx ⊢
    rcases List.mem_append.mp hx with q1 | q1
    · exact List.mem_append_left _ (h.cl x q1 (fun q2 => h1 (List.mem_append_left _ q2)) h2 z k hz)
    · exact absurd (List.mem_append_right _ q1) h1
theorem SF.done {ts : List Tie} {s p : Int} {ks : List Nb} {wl : List Int} (h : SF ts s ks wl [p]) (hp : ∀ q ∈ nbs ts p, q.1 ∈ ks.map (·.1)) : SF ts s ks wl [] :=
  ⟨h.nd, h.rp, h.st, h.sub, h.le, fun x hx h1 _ y k ad => by
    by_cases e : x = p
    · subst e
      exact hp (y, k) (mem_nbs.mpr ad)
    · exact h.cl x hx h1 (fun z => e (List.mem_singleton.mp z)) y k ad⟩
theorem room1 {k : Nat} {A : PySem.Around} (r : Room k A) : A.units + 1 < cLine := by have := r.un; omega
/-! ### the law: the least place that each comes to -/
def lf (f : Int → Int) (n : Nat) : List V := (rng n).map fun i => V.int (f i)
theorem lf_len (f : Int → Int) (n : Nat) : (lf f n).length = n := by unfold lf; rw [List.length_map, rng_length]
theorem lf_get? (f : Int → Int) {n j : Nat} (h : j < n) : (lf f n)[j]? = some (.int (f j)) := by
  unfold lf rng
  rw [List.map_map, List.getElem?_map, List.getElem?_range h]
  rfl
theorem lf_at (f : Int → Int) {n : Nat} {i : Int} (h0 : 0 ≤ i) (h1 : i < n) : atI (lf f n) i = some (.int (f i)) := by
  have e : ((i.toNat : Nat) : Int) = i := by omega
  refine atI_of h0 ?_
  rw [lf_get? f (by omega), e]
theorem lf_set (f : Int → Int) {n : Nat} {i y : Int} (h0 : 0 ≤ i) (h1 : i < n) : (lf f n).set i.toNat (.int y) = lf (fun x => if x = i then y else f x) n := by
  refine List.ext_getElem? fun j => ?_
  rw [List.getElem?_set]
  by_cases hj : j < n
  · by_cases e : i.toNat = j
    · rw [if_pos e, if_pos (by rw [lf_len]; omega), lf_get? _ hj, if_pos (by omega)]
    · rw [if_neg e, lf_get? _ hj, lf_get? _ hj, if_neg (by omega)]
  · have e : i.toNat ≠ j := by omega
    rw [if_neg e, List.getElem?_eq_none (by rw [lf_len]; omega), List.getElem?_eq_none (by rw [lf_len]; omega)]
theorem ixN_of {n : Nat} {i : Int} (h0 : 0 ≤ i) (h1 : i < n) : ixN n i = some i.toNat := by
  unfold ixN
  rw [if_pos (by omega), if_pos (by omega)]
/-! ### enumerate of a tuple -/
set_option maxHeartbeats 1000000 in
theorem meets_enumOne {v : Value} {o : Obj} {S : Heap → Prop} (B : Begins v o S) : Meets (Builtin.«enumerate.__new__» ⟨[.type "enumerate", v], []⟩) (fun _ R s => S s.heap ∧
      R (.ok (.ret (.ref (s.heap.push o).objs.size))) { s with heap := (s.heap.push o).push { cls := .type "enumerate", data := .fields #[.none, .bool false, .ref s.heap.objs.size, rawInt 0, .none, .none] } }) :=
  .of_wp fun prog w A R s h => by
    obtain ⟨hp, g, d, tk, os⟩ := s
    obtain ⟨h1, h⟩ := h
    have sub0 := sub_enumerate
    have begun : ∀ {A' : PySem.Around} {E : Value → Shared → Prop} {Q : Value → Shared → Prop}, Q (.ref hp.objs.size) ⟨hp.push o, g, d, tk, os⟩ → wpAny (model prog w) A' (pyIter v) Q E ⟨hp, g, d, tk, os⟩ := fun q => B.iter prog w _ _ ⟨hp, g, d, tk, os⟩ _ h1 q
    wp_walk using begun
    refine wpAny_stack_any fun st => wpAny_pure ?_
    split
    · rename_i c _ _ _ _ _
      cases (c == Value.type "enumerate")
      all_goals
        wp_walk using begun
        exact ⟨_, rfl, h⟩
    · wp_walk using begun
      exact ⟨_, rfl, h⟩
theorem call_enumT {P : Program} {w : World} {A : PySem.Around} {E : Value → Shared → Prop} {s : Shared} {t : Addr} {items : Array Value} {Q : Value → Shared → Prop} (ht : s.heap.IsTuple t items)
    (h : ∀ h', IsEnum h' (s.heap.objs.size + 1) s.heap.objs.size 0 .none → h'.IsTupleIter s.heap.objs.size t 0 → (∀ b o, s.heap.get? b = some o → h'.get? b = some o) → Q (.ref (s.heap.objs.size + 1)) { s with heap := h' }) : wpAny (model P w) A (call (.type "enumerate") [.ref t]) Q E s := by
  refine callType_new PySem.F.called_enumerate (by decide) (PySem.F.typeCall_enumerate_1 _) (PySem.F.newCall_enumerate_1 _) (fun ob => PySem.F.args_object_init_2 ob _) PySem.F.entry_enumerate_new (meets_enumOne (begins_tuple t items)) ⟨ht, ?_⟩
  have size1 := Heap.size_push s.heap { cls := .type "tuple_iterator", data := .fields #[.ref t, .int 0 0] }
  have en := Heap.get?_push_size (s.heap.push { cls := .type "tuple_iterator", data := .fields #[.ref t, .int 0 0] }) (o := { cls := .type "enumerate", data := .fields #[.none, .bool false, .ref s.heap.objs.size, rawInt 0, .none, .none] }) rfl
  rw [size1] at en
  show _ ∧ _
  rw [size1]
  exact ⟨⟨_, en, rfl⟩, h _ en ⟨_, Heap.get?_push_of_some _ (Heap.get?_push_size _ rfl), rfl, rfl⟩ fun b o e => Heap.get?_push_of_some _ (Heap.get?_push_of_some _ e)⟩
/-- the turns: a new pair each, of the number and the part -/
def ItN (K : PySem.W.Frag) (a : Addr) : It where
  go := fun i H => ∃ (xs : List V) (x : V), SqT K H a xs ∧ xs[i]? = some x
  yld := fun i H v H' => ∃ T x, v = .ref T ∧ H T = none ∧ H' = upd H T (.tup [.int (i : Nat), x]) ∧ ∀ xs, SqT K H a xs → xs[i]? = some x
  stop := fun i H => ∃ xs : List V, SqT K H a xs ∧ xs.length ≤ i
theorem turn_enumT {P : Program} {w : World} {K : PySem.W.Frag} {elts : List Expr} {kk : Nat} {tpos : Pos} (a e it : Addr) (n1 : e ≠ it) (n2 : a ≠ it) (n3 : e ≠ a) :
    Turn P w K (.Tuple elts kk tpos) (ItN K a) [e, it] e (fun i h => (∃ old, IsEnum h e it ((i : Nat) : Int) old) ∧ h.IsTupleIter it a i) where
  mem := List.mem_cons_self
  obj := by
    rintro i h ⟨⟨old, he⟩, o, ho, hc, hd⟩ b hb
    rcases List.mem_cons.mp hb with rfl | hb
    · exact ⟨_, he, fun v q => nomatch q⟩
    · rw [List.mem_singleton.mp hb]
      exact ⟨o, ho, fun v q => by rw [hd] at q; cases q⟩
  keep := by
    rintro i h h' ⟨⟨old, he⟩, hit⟩ kp
    exact ⟨⟨old, kp e (by simp) _ he⟩, hit.at fun o q => kp it (by simp) o q⟩
  item := by
    intro X hP hw hK hc i pins s σ H E I hf st hg
    subst hP hw hK
    obtain ⟨⟨old, he⟩, hit⟩ := st
    obtain ⟨xs, x, hq, hx⟩ := hg
    obtain ⟨its, rv, tup, _⟩ := I.tuple hq
    obtain ⟨u, hu, ru⟩ := rv.get hx
    have le := Heap.lt_size he
    have li : it < s.heap.objs.size := let ⟨_, q, _⟩ := hit; Heap.lt_size q
    have lt : i < its.toArray.size := by simpa using (List.getElem?_eq_some_iff.mp hu).1
    refine wpAny_pyNext_enum_itemD (Draws.tuple (A := X.A.in1) (I.ok.hd hc) it a n2 its.toArray) he ⟨hit, tup⟩ lt n1 (by simp [n1, n3]) fun x' h' tk ex out st' new _ kp => ?_
    obtain rfl : u = x' := Option.some.inj (((by simpa using hu) : its.toArray[i]? = some u).symm.trans ex)
    refine ⟨_, rfl, wpAny_letOwnedTupleGo_enum (s := { s with heap := h', toks := tk + 1 }) out fun h2 he2 sb => ?_⟩
    have new2 : h2.get? s.heap.objs.size = some { cls := .type "tuple", data := .seq #[.int i tk, u] } := (sb.2 _ (Nat.ne_of_gt le)).trans new
    have objT : ObjOk X.prog X.w (upd H s.heap.objs.size (.tup [.int (i : Nat), x])) h2 s.heap.objs.size (.tup [.int (i : Nat), x]) := ⟨by show 2 ≤ sizeLine; decide, [.int i tk, u], .cons ⟨_, rfl⟩ (.cons ru .nil), ⟨_, new2, rfl, _, rfl⟩⟩
    have J : Inv X pins σ (upd H s.heap.objs.size (.tup [.int (i : Nat), x])) { s with heap := h2, toks := tk + 1 } := I.turnedNew (ch := [e, it]) (fun b ob hb q => by
      simp only [List.mem_cons, List.not_mem_nil, or_false, not_or] at hb
      exact (sb.2 b hb.1).trans (kp b ob hb.1 hb.2 q)) hf (Nat.le_refl _) objT
    refine ⟨.ref s.heap.objs.size, _, J, rfl, ⟨_, x, rfl, I.hok.fresh (Nat.le_refl _), rfl, fun ys hy => by rw [I.tuple_inj hy hq]; exact hx⟩, ⟨⟨u, ?_⟩, st'.1.at fun o q => (sb.2 it (Ne.symm n1)).trans q⟩, fun b hb => ?_⟩
    · rw [show ((i + 1 : Nat) : Int) = (i : Int) + 1 from by omega]
      exact he2
    · have lb : b < s.heap.objs.size := by
        rcases List.mem_cons.mp hb with rfl | hb
        · exact le
        · rw [List.mem_singleton.mp hb]
          exact li
      rw [upd_ne (Nat.ne_of_lt lb)]
      exact (hf b hb).1
  done := by
    intro X hP hw hK hc i pins s σ H E I hf st hg
    subst hP hw hK
    obtain ⟨⟨old, he⟩, hit⟩ := st
    obtain ⟨xs, hq, hx⟩ := hg
    obtain ⟨its, rv, tup, _⟩ := I.tuple hq
    have hl := rv.length
    obtain ⟨f0, f1, f2, f3, f4, f5⟩ := hf it (by simp)
    have D : Draws X.prog X.w X.A.in1 it [it, a] i (fun _ _ => False) (fun j h => j = i ∧ h.IsTupleIter it a i ∧ h.IsTuple a its.toArray) := {
      live := fun j h z => let ⟨_, ⟨o, q, _⟩, _⟩ := z; ⟨o, q⟩
      frame := fun j h h' z kp => ⟨z.1, z.2.1.at fun o q => kp it (by simp) o q, z.2.2.at fun o q => kp a (by simp) o q⟩
      item := fun j s' Q E' hj z => absurd z.1 (Nat.ne_of_lt hj)
      done := fun s' Q E' z fin => wpAny_nextOf_tuple_end (I.ok.hd hc) z.2.1 z.2.2 (by simp; omega) fin }
    exact wpAny_pyNext_enum_endD D he ⟨rfl, hit, tup⟩ fun h' eb => ⟨rfl, I.turned (t' := s.toks) (fun b o hb q => eb b o hb q) f0 f1 f3 f4 f5⟩
  self := fun A i s Q E st h => let ⟨⟨_, he⟩, _⟩ := st; wpAny_pyIter_enum he h
def iEnT (K : PySem.W.Frag) (ta : TA) : TI := fun σ H R => ta σ H fun vs H1 => ∃ a xs, vs = [.ref a] ∧ SqT K H1 a xs ∧ R (ItN K a) H1
theorem pi_enumT {X : Cx} {e : Expr} {ta : TA} {p pos tpos : Pos} {elts : List Expr} {kk : Nat} (hg : Gl X "enumerate") (hm : X.mg "enumerate" = none) (ha : PA X [e] ta) (hs : starEach [e] X.env = [(false, eval e X.env)] := by rfl) :
    PI X (.Tuple elts kk tpos) (.Call (.Name "enumerate" p) [e] [] pos) (iEnT X.K ta) := by
  refine ⟨fun pins s σ H R I want => Call_ (ld_blt I hg hm boot_enumerate (PyProof.Rows.callWith_type1 (thn (ha.run pos pins s σ H _ I want) fun us s1 got => ?_) hs rfl))⟩
  obtain ⟨vs, H1, J, rel, a, xs, ex, hq, q⟩ := got
  subst ex
  obtain ⟨u, eu, r1⟩ := vals1 rel
  subst eu
  obtain rfl : u = Value.ref a := r1
  obtain ⟨its, rv, tup, _⟩ := J.tuple hq
  have la : a < s1.heap.objs.size := let ⟨_, q, _⟩ := tup; Heap.lt_size q
  refine call_enumT (items := its.toArray) tup fun h' he hit kp => wpAny_pyIter_enum he ?_
  have J2 : Inv X pins σ H1 { s1 with heap := h' } := J.kept (t' := s1.toks) kp
  refine ⟨s1.heap.objs.size + 1, [s1.heap.objs.size + 1, s1.heap.objs.size], _, _, H1, rfl, J2, turn_enumT a (s1.heap.objs.size + 1) s1.heap.objs.size (Nat.succ_ne_self _) (Nat.ne_of_lt la) (Nat.ne_of_gt (Nat.lt_succ_of_lt la)), ⟨⟨.none, he⟩, hit⟩, fun b hb => ?_, q⟩
  have lb : s1.heap.objs.size ≤ b := by
    rcases List.mem_cons.mp hb with rfl | hb
    · exact Nat.le_succ _
    · rw [List.mem_singleton.mp hb]
      exact Nat.le_refl _
  exact J.fpOk lb (J.hok.fresh lb)
theorem walk_enumT {K : PySem.W.Frag} {a : Addr} {xs : List V} : Walk (ItN K a) xs.length (fun H => SqT K H a xs) (YPair (fun i => some (.int (i : Nat))) (fun i => xs[i]?)) :=
  ⟨fun i H hi h => ⟨xs, xs[i], h, List.getElem?_eq_getElem hi⟩, fun H h => ⟨xs, h, Nat.le_refl _⟩, fun i H x H' hi h y => by
    obtain ⟨T, z, e1, e2, e3, e4⟩ := y
    exact ⟨T, _, z, e1, e2, e3, rfl, e4 xs h⟩⟩
/-! ### zip of three tuples of one length -/
def ItZ (K : PySem.W.Frag) (a b c : Addr) : It where
  go := fun i H => ∃ (xs ys zs : List V), (SqT K H a xs ∧ SqT K H b ys ∧ SqT K H c zs) ∧ i < xs.length ∧ ys.length = xs.length ∧ zs.length = xs.length
  yld := fun i H v H' => ∃ T x y z, v = .ref T ∧ H T = none ∧ H' = upd H T (.tup [x, y, z]) ∧ (∀ xs, SqT K H a xs → xs[i]? = some x) ∧ (∀ ys, SqT K H b ys → ys[i]? = some y) ∧ ∀ zs, SqT K H c zs → zs[i]? = some z
  stop := fun i H => ∃ (xs ys zs : List V), (SqT K H a xs ∧ SqT K H b ys ∧ SqT K H c zs) ∧ xs.length = i ∧ ys.length = i ∧ zs.length = i
theorem turn_zip3 {P : Program} {w : World} {K : PySem.W.Frag} {elts : List Expr} {kk : Nat} {tpos : Pos} {a b c z TI TO i1 i2 i3 : Addr} (S : ZipSep3 z TI TO i1 i2 i3 [i1, a] [i2, b] [i3, c]) (n1 : a ≠ i1) (n2 : b ≠ i2) (n3 : c ≠ i3) :
    Turn P w K (.Tuple elts kk tpos) (ItZ K a b c) [z, TI, TO, i1, i2, i3] z (fun i h => IsZip h z TI TO .none ∧ IsTupOf3 h TI (.ref i1) (.ref i2) (.ref i3) ∧ (∃ a1 a2 a3, IsTupOf3 h TO a1 a2 a3) ∧ h.IsTupleIter i1 a i ∧ h.IsTupleIter i2 b i ∧ h.IsTupleIter i3 c i) where
  mem := List.mem_cons_self
  obj := by
    rintro i h ⟨hz, hTI, ⟨a1, a2, a3, hTO⟩, ⟨o1, e1, _, d1⟩, ⟨o2, e2, _, d2⟩, ⟨o3, e3, _, d3⟩⟩ q hq
    simp only [List.mem_cons, List.not_mem_nil, or_false] at hq
    rcases hq with rfl | rfl | rfl | rfl | rfl | rfl
    · exact ⟨_, hz, fun v y => nomatch y⟩
    · exact ⟨_, hTI, fun v y => nomatch y⟩
    · exact ⟨_, hTO, fun v y => nomatch y⟩
    · exact ⟨o1, e1, fun v y => by rw [d1] at y; cases y⟩
    · exact ⟨o2, e2, fun v y => by rw [d2] at y; cases y⟩
    · exact ⟨o3, e3, fun v y => by rw [d3] at y; cases y⟩
  keep := by
    rintro i h h' ⟨hz, hTI, ⟨a1, a2, a3, hTO⟩, t1, t2, t3⟩ kp
    exact ⟨kp z (by simp) _ hz, kp TI (by simp) _ hTI, ⟨a1, a2, a3, kp TO (by simp) _ hTO⟩, t1.at fun o q => kp i1 (by simp) o q, t2.at fun o q => kp i2 (by simp) o q, t3.at fun o q => kp i3 (by simp) o q⟩
  item := by
    intro X hP hw hK hc i pins s σ H E I hf st hg
    subst hP hw hK
    obtain ⟨hz, hTI, hTO, t1, t2, t3⟩ := st
    obtain ⟨xs, ys, zs, ⟨qx, qy, qz⟩, hi, ly, lz⟩ := hg
    obtain ⟨us, ru, tu, _⟩ := I.tuple qx
    obtain ⟨vs, rv, tv, _⟩ := I.tuple qy
    obtain ⟨ws, rw', tw, _⟩ := I.tuple qz
    have lu := ru.length
    have lv := rv.length
    have lw := rw'.length
    obtain ⟨u, hu, eu⟩ := ru.get (List.getElem?_eq_getElem hi)
    obtain ⟨v, hv, ev⟩ := rv.get (List.getElem?_eq_getElem (show i < ys.length by omega))
    obtain ⟨w', hw, ew⟩ := rw'.get (List.getElem?_eq_getElem (show i < zs.length by omega))
    have W := WalksT.zipD3 (A := X.A) S (Draws.tuple (prog := X.prog) (w := X.w) (A := X.A.in1) (I.ok.hd hc) i1 a n1 us.toArray) (Draws.tuple (prog := X.prog) (w := X.w) (A := X.A.in1) (I.ok.hd hc) i2 b n2 vs.toArray) (Draws.tuple (prog := X.prog) (w := X.w) (A := X.A.in1) (I.ok.hd hc) i3 c n3 ws.toArray)
    refine W.item i s _ _ (by simp only [List.size_toArray]; omega) ⟨hz, hTI, hTO, ⟨t1, tu⟩, ⟨t2, tv⟩, ⟨t3, tw⟩⟩ fun T vals h' tk hp newT isT mid kp => ?_
    obtain ⟨y1, y2, y3, p1, p2, p3, rfl⟩ := hp
    have apart := W.apart i T h' mid
    obtain rfl : u = y1 := Option.some.inj (((by simpa using hu) : us.toArray[i]? = some u).symm.trans p1)
    obtain rfl : v = y2 := Option.some.inj (((by simpa using hv) : vs.toArray[i]? = some v).symm.trans p2)
    obtain rfl : w' = y3 := Option.some.inj (((by simpa using hw) : ws.toArray[i]? = some w').symm.trans p3)
    refine ⟨_, rfl, W.go elts kk tpos i T { s with heap := h', toks := tk } _ _ mid fun h2 st2 kp2 => ?_⟩
    obtain ⟨g1, g2, g3, ⟨g4, _⟩, ⟨g5, _⟩, ⟨g6, _⟩⟩ := st2
    have objT : ObjOk X.prog X.w (upd H T (.tup [xs[i], ys[i], zs[i]])) h2 T (.tup [xs[i], ys[i], zs[i]]) := by
      obtain ⟨ot, et, ct, nt, dt⟩ := isT
      exact ⟨by show 3 ≤ sizeLine; decide, [u, v, w'], .cons eu (.cons ev (.cons ew .nil)), ⟨ot, kp2 _ _ apart et, ct, nt, dt⟩⟩
    have J : Inv X pins σ (upd H T (.tup [xs[i], ys[i], zs[i]])) { s with heap := h2, toks := tk } := I.turnedNew (ch := [z, TI, TO, i1, i2, i3]) (fun q ob hq e => by
      simp only [List.mem_cons, List.not_mem_nil, or_false, not_or] at hq
      have nw : q ∉ [z, TO, i1, i2, i3] := by simp [hq]
      exact kp2 q ob nw (kp q ob nw e)) hf newT objT
    refine ⟨.ref T, _, J, rfl, ⟨T, _, _, _, rfl, I.hok.fresh newT, rfl, fun l hl => by rw [I.tuple_inj hl qx]; exact List.getElem?_eq_getElem hi, fun l hl => by rw [I.tuple_inj hl qy]; exact List.getElem?_eq_getElem _, fun l hl => by rw [I.tuple_inj hl qz]; exact List.getElem?_eq_getElem _⟩, ⟨g1, g2, g3, g4, g5, g6⟩, fun q hq => ?_⟩
    have lq : q < s.heap.objs.size := by
      obtain ⟨_, _, ⟨a1, a2, a3, hTO⟩⟩ := (⟨hz, hTI, hTO⟩ : _ ∧ _ ∧ _)
      obtain ⟨o1, e1, _⟩ := t1
      obtain ⟨o2, e2, _⟩ := t2
      obtain ⟨o3, e3, _⟩ := t3
      simp only [List.mem_cons, List.not_mem_nil, or_false] at hq
      rcases hq with rfl | rfl | rfl | rfl | rfl | rfl
      · exact Heap.lt_size hz
      · exact Heap.lt_size hTI
      · exact Heap.lt_size hTO
      · exact Heap.lt_size e1
      · exact Heap.lt_size e2
      · exact Heap.lt_size e3
    rw [upd_ne (Nat.ne_of_lt (Nat.lt_of_lt_of_le lq newT))]
    exact (hf q hq).1
  done := by
    intro X hP hw hK hc i pins s σ H E I hf st hg
    subst hP hw hK
    obtain ⟨hz, hTI, hTO, t1, t2, t3⟩ := st
    obtain ⟨xs, ys, zs, ⟨qx, qy, qz⟩, lx, ly, lz⟩ := hg
    obtain ⟨us, ru, tu, _⟩ := I.tuple qx
    obtain ⟨vs, rv, tv, _⟩ := I.tuple qy
    obtain ⟨ws, rw', tw, _⟩ := I.tuple qz
    have lu := ru.length
    have lv := rv.length
    have lw := rw'.length
    have W := WalksT.zipD3 (A := X.A) S (Draws.tuple (prog := X.prog) (w := X.w) (A := X.A.in1) (I.ok.hd hc) i1 a n1 us.toArray) (Draws.tuple (prog := X.prog) (w := X.w) (A := X.A.in1) (I.ok.hd hc) i2 b n2 vs.toArray) (Draws.tuple (prog := X.prog) (w := X.w) (A := X.A.in1) (I.ok.hd hc) i3 c n3 ws.toArray)
    have en : min (min us.toArray.size vs.toArray.size) ws.toArray.size = i := by simp only [List.size_toArray]; omega
    refine W.done s _ _ ?_ fun h' tk kp => ⟨rfl, ?_⟩
    · rw [en]
      exact ⟨hz, hTI, hTO, ⟨t1, tu⟩, ⟨t2, tv⟩, ⟨t3, tw⟩⟩
    · refine I.turnedL (ch := [z, TI, TO, i1, i2, i3]) (fun q ob hq e => ?_) hf
      simp only [List.mem_cons, List.not_mem_nil, or_false, not_or] at hq
      exact kp q ob (by simp [hq]) e
  self := by
    rintro A i s Q E ⟨hz, _⟩ h
    exact wpAny_pyIter_zip hz h
def iZip3 (K : PySem.W.Frag) (ta : TA) : TI := fun σ H R => ta σ H fun vs H1 => ∃ a b c xs ys zs, vs = [.ref a, .ref b, .ref c] ∧ SqT K H1 a xs ∧ SqT K H1 b ys ∧ SqT K H1 c zs ∧ R (ItZ K a b c) H1
theorem pi_zip3 {X : Cx} {e e2 e3 : Expr} {ta : TA} {p pos tpos : Pos} {elts : List Expr} {kk : Nat} (hg : Gl X "zip") (hm : X.mg "zip" = none) (ha : PA X [e, e2, e3] ta) (hs : starEach [e, e2, e3] X.env = (false, eval e X.env) :: starEach [e2, e3] X.env := by rfl)
    (hpl : (backTo pos (starEach [e2, e3] X.env)).any (·.1) = false := by rfl) : PI X (.Tuple elts kk tpos) (.Call (.Name "zip" p) [e, e2, e3] [] pos) (iZip3 X.K ta) := by
  refine ⟨fun pins s σ H R I want => Call_ (ld_blt I hg hm PyProof.Rows.boot_zip (PyProof.Rows.callWith_type1 (thn (ha.run pos pins s σ H _ I want) fun us s1 got => ?_) hs hpl))⟩
  obtain ⟨vs, H1, J, rel, a, b, c, xs, ys, zs, ex, qa, qb, qc, q⟩ := got
  subst ex
  cases rel with
  | cons r1 rel =>
    cases rel with
    | cons r2 rel =>
      cases rel with
      | cons r3 rel =>
        cases rel
        cases r1
        cases r2
        cases r3
        obtain ⟨u1, _, t1, _⟩ := J.tuple qa
        obtain ⟨u2, _, t2, _⟩ := J.tuple qb
        obtain ⟨u3, _, t3, _⟩ := J.tuple qc
        have la : a < s1.heap.objs.size := let ⟨_, y, _⟩ := t1; Heap.lt_size y
        have lb : b < s1.heap.objs.size := let ⟨_, y, _⟩ := t2; Heap.lt_size y
        have lc : c < s1.heap.objs.size := let ⟨_, y, _⟩ := t3; Heap.lt_size y
        refine zip_begins3 (begins_tuple a u1.toArray) (begins_tuple b u2.toArray) (begins_tuple c u3.toArray) t1 t2 t3 fun h' hz hTI hTO g1 g2 g3 _ kp => wpAny_pyIter_zip hz ?_
        have J2 : Inv X pins σ H1 { s1 with heap := h' } := J.kept (t' := s1.toks) kp
        have S := zip_sep3 (N := s1.heap.objs.size) (fp1 := [a]) (fp2 := [b]) (fp3 := [c]) (fun y hy => by rw [List.mem_singleton.mp hy]; exact la) (fun y hy => by rw [List.mem_singleton.mp hy]; exact lb) (fun y hy => by rw [List.mem_singleton.mp hy]; exact lc)
        refine ⟨s1.heap.objs.size + 5, [s1.heap.objs.size + 5, s1.heap.objs.size + 3, s1.heap.objs.size + 4, s1.heap.objs.size, s1.heap.objs.size + 1, s1.heap.objs.size + 2], _, _, H1, rfl, J2, turn_zip3 S (Nat.ne_of_lt la) (Nat.ne_of_lt (Nat.lt_succ_of_lt lb)) (Nat.ne_of_lt (Nat.lt_succ_of_lt (Nat.lt_succ_of_lt lc))), ⟨hz, hTI, ⟨_, _, _, hTO⟩, ⟨_, g1, rfl, rfl⟩, ⟨_, g2, rfl, rfl⟩, ⟨_, g3, rfl, rfl⟩⟩, fun y hy => ?_, q⟩
        have ly : s1.heap.objs.size ≤ y := by
          simp only [List.mem_cons, List.not_mem_nil, or_false] at hy
          rcases hy with rfl | rfl | rfl | rfl | rfl | rfl
          · exact Nat.le_add_right _ _
          · exact Nat.le_add_right _ _
          · exact Nat.le_add_right _ _
          · exact Nat.le_refl _
          · exact Nat.le_add_right _ _
          · exact Nat.le_add_right _ _
        exact J.fpOk ly (J.hok.fresh ly)
/-! ### len(set(t)) of a tuple of ints -/
theorem sub_len : ∀ {ks ns : List Int}, ks.Nodup → (∀ x ∈ ks, x ∈ ns) → ks.length ≤ ns.length
  | [], _, _, _ => Nat.zero_le _
  | k :: ks, ns, nd, h => by
    rw [List.nodup_cons] at nd
    have hk := h k (by simp)
    have q := sub_len (ks := ks) (ns := ns.erase k) nd.2 fun x hx => (List.mem_erase_of_ne (fun z => nd.1 (by rw [← z]; exact hx))).mpr (h x (List.mem_cons_of_mem _ hx))
    rw [List.length_erase_of_mem hk] at q
    have : 0 < ns.length := List.length_pos_of_mem hk
    rw [List.length_cons]
    omega
theorem twice : ∀ {ns : List Int}, ¬ ns.Nodup → ∃ x, x ∈ ns ∧ x ∈ ns.erase x
  | [], h => absurd List.nodup_nil h
  | y :: l, h => by
    by_cases hy : y ∈ l
    · exact ⟨y, by simp, by rw [List.erase_cons_head]; exact hy⟩
    · have hl : ¬ l.Nodup := fun z => h (List.nodup_cons.mpr ⟨hy, z⟩)
      obtain ⟨x, h1, h2⟩ := twice hl
      refine ⟨x, List.mem_cons_of_mem _ h1, ?_⟩
      have ne : y ≠ x := fun z => hy (by rw [z]; exact h1)
      rw [List.erase_cons_tail (by simpa using ne)]
      exact List.mem_cons_of_mem _ h2
theorem many_iff {ks ns : List Int} (nd : ks.Nodup) (h : ∀ x, x ∈ ns ↔ x ∈ ks) : ks.length = ns.length ↔ ns.Nodup := by
  constructor
  · intro e
    by_cases hn : ns.Nodup
    · exact hn
    · obtain ⟨x, h1, h2⟩ := twice hn
      have q := sub_len (ns := ns.erase x) nd fun y hy => by
        by_cases e2 : y = x
        · rw [e2]
          exact h2
        · exact (List.mem_erase_of_ne e2).mpr ((h y).mpr hy)
      rw [List.length_erase_of_mem h1] at q
      have : 0 < ns.length := List.length_pos_of_mem h1
      omega
  · intro hn
    have q1 := sub_len nd fun y hy => (h y).mpr hy
    have q2 := sub_len hn fun y hy => (h y).mp hy
    omega
def tLenSet (K : PySem.W.Frag) (ta : TE) : TE := fun σ H Q => ta σ H fun x H1 => ∃ (l : Addr) (ns : List Int), x = .ref l ∧ SqT K H1 l (ns.map V.int) ∧ ns.length ≤ 4000 ∧ ∀ c : Nat, (c = ns.length ↔ ns.Nodup) → Q (.int c) H1
theorem pe_lenSetT {X : Cx} {a : Expr} {ta : TE} {p p2 q pos : Pos} (hg : Gl X "len") (hm : X.mg "len" = none) (hg2 : Gl X "set") (hm2 : X.mg "set" = none) (ha : PE X a ta) (hc : X.calm = true := by rfl)
    (na : starEach [a] X.env = (false, eval a X.env) :: starEach [] X.env := by rfl) : PE X (.Call (.Name "len" p) [.Call (.Name "set" p2) [a] [] q] [] pos) (tLenSet X.K ta) := by
  refine ⟨fun pins s σ H Q I want => Call_ (ld_blt I hg hm PySem.boot_len (PyProof.Rows.callWith_builtin1 (PyProof.Rows.args_cons (Call_ (ld_blt I hg2 hm2 PyProof.Rows.boot_set (PyProof.Rows.callWith_type1 (PyProof.Rows.args_cons (thn (ha.run pins s σ H _ I want) fun v s1 got => PyProof.Rows.args_nil ?_) na) na rfl))) rfl) rfl rfl))⟩
  obtain ⟨x, H1, J, r1, l, ns, ex, hq, hl, q1⟩ := got
  subst ex
  obtain rfl : v = Value.ref l := r1
  obtain ⟨its, rel, tup, _⟩ := J.tuple hq
  refine call_set_tupI ns (J.ok.hd hc) tup (by simpa using rel.ints) (by unfold scanBound; omega) fun h' tk c hS hcl kp => PyProof.Rows.args_nil ?_
  obtain ⟨o, es, ep, t, ho, hex, hd, _, nd, mem, _, hf, hn, _⟩ := hS
  have J2 : Inv X pins σ H1 { s1 with heap := h', toks := tk } := J.kept kp
  have len : (es.toList.map keyOf).length = c := by rw [List.length_map, Array.length_toList, hn]
  have key : c = ns.length ↔ ns.Nodup := by
    rw [← len]
    refine many_iff nd fun y => ?_
    rw [← mem y, decide_eq_true_iff]
  exact call_len_set ho hex hd hf (by omega) ⟨.int c, H1, J2.tok _, ⟨_, by rw [hn]⟩, q1 c key⟩
/-! ### flats: the deck -/
def FDk (H : Hp) (d : Addr) : Prop := ∃ ns : List Int, H d = some (.lst (ns.map V.int)) ∧ ns.length ≤ 800
theorem FDk.same {H H' : Hp} {d : Addr} (h : FDk H d) (s : Same H H') : FDk H' d := by
  obtain ⟨ns, h1, h2⟩ := h
  exact ⟨ns, s _ _ h1, h2⟩
theorem FDk.kp {H H' : Hp} {d e : Addr} (h : FDk H d) (k : Kp e e H H') (ne : d ≠ e) : FDk H' d := by
  obtain ⟨ns, h1, h2⟩ := h
  exact ⟨ns, k _ _ ne ne h1, h2⟩
theorem FDk.ned {H : Hp} {d p : Addr} (h : FDk H d) (np : H p = none) : p ≠ d := by
  obtain ⟨ns, h1, h2⟩ := h
  exact (ne_of_none h1 np).symm
theorem FDk.tk {H H' : Hp} {d : Addr} (h : FDk H d) (k : Kp d d H H') : Tk H H' := fun a xs e => by
  obtain ⟨ns, h1, h2⟩ := h
  have : a ≠ d := fun z => by rw [z, h1] at e; cases e
  exact k _ _ this this e
theorem cutV_ints (ns : List Int) (lo hi : Option Int) : ∃ ms : List Int, cutV (ns.map V.int) lo hi = ms.map V.int ∧ ms.length ≤ ns.length := by
  refine ⟨(ns.drop (HT.sIx ns.length 0 lo)).take (HT.sIx ns.length ns.length hi - HT.sIx ns.length 0 lo), ?_, ?_⟩
  · unfold cutV
    rw [List.length_map, List.map_take, List.map_drop]
  · rw [List.length_take, List.length_drop]
    omega
def spMixed : Sp := fun vs H Q _ => ∃ a : Int, vs = [.int a] ∧ ∀ r, 0 ≤ r → r < 2147483587 → Q (.int r) H
def spDeckF (K : PySem.W.Frag) : Sp := fun vs H Q _ => ∃ (a : Addr) (ns : List Int), vs = [.ref a] ∧ SqL K H a (ns.map V.int) ∧ ns.length ≤ 63 ∧
  ∀ d H', Same H H' → H d = none → FDk H' d → Q (.ref d) H'
def spTake : Sp := fun vs H Q _ => ∃ (d : Addr) (m : Int), vs = [.ref d, .int m] ∧ FDk H d ∧ 0 < m ∧ m < 2 ^ 62 ∧ ∀ v H', 0 ≤ v → v < m → FDk H' d → Kp d d H H' → Q (.int v) H'
section
variable {P : Program} {w : World} {K : PySem.W.Frag} {mg : Str → Option Value} {base : Heap}
theorem ok_l_mixed {f : Addr} {fd : FuncData} (F : Fun K "_law_mixed" "_law_mixed" s_l_mixed f fd)  : FnOk P w K mg base CX0 1 f fd ["_law_number"] spMixed := by
  refine F.ok sc_l_mixed (fun vs H Q E h => ?_) (fun cdv A outer s H vs Q E hr h => ?_)
  · obtain ⟨a, rfl, _⟩ := h
    rfl
  · obtain ⟨a, rfl, q⟩ := h
    refine ⟨_, (pss_cons (ps_set (i := 0) sc_l_mixed.nd rfl (.inl rfl) (pe_op op_mod (pe_op op_add (pe_op op_mul (pe_op op_mod (pv 0) pe_int) pe_int) pe_int) pe_int))
      (pss_cons (ps_set (i := 0) sc_l_mixed.nd rfl (.inl rfl) (pe_op op_mod (pe_op op_add (pe_op op_add (pe_op op_mul (pv 0) (pv 0)) (pe_op op_mul pe_int (pv 0))) pe_int) pe_int))
      (pss_one (ps_ret (pe_op op_mod (pe_op op_add (pe_op op_mul (pv 0) pe_int) pe_int) pe_int))))), ?_⟩
    refine ⟨.int a, rfl, a, _, rfl, rfl, show (0 : Int) < 2147483629 by decide, _, _, rfl, rfl, .inr ⟨by decide, by decide⟩, _, _, rfl, rfl, _, _, rfl, rfl, show (0 : Int) < 2147483647 by decide, ?_⟩
    have r1 := mod_rng (a := a % 2147483629 * 48271 + 7) (m := 2147483647) (by decide)
    refine ⟨_, rfl, _, rfl, (a % 2147483629 * 48271 + 7) % 2147483647, (a % 2147483629 * 48271 + 7) % 2147483647, rfl, rfl, .inr ⟨by omega, by omega⟩, _, rfl, _, (a % 2147483629 * 48271 + 7) % 2147483647, rfl, rfl, .inr ⟨by omega, by omega⟩, _, _, rfl, rfl, _, _, rfl, rfl, _, _, rfl, rfl, show (0 : Int) < 2147483629 by decide, ?_⟩
    refine ⟨.int _, rfl, _, _, rfl, rfl, .inr ⟨by decide, by decide⟩, _, _, rfl, rfl, _, _, rfl, rfl, show (0 : Int) < 2147483587 by decide, ?_⟩
    exact q _ (mod_rng (by decide)).1 (mod_rng (by decide)).2
theorem ok_l_deck {f : Addr} {fd : FuncData} (F : Fun K "_law_deck" "_law_deck" s_l_deck f fd) (M : Free mg) (D_l_mixed : Df P w K mg base 1 "_law_mixed" ["_law_number"] spMixed) : FnOk P w K mg base CX0 2 f fd ["_law_script"] (spDeckF K) := by
  obtain ⟨f_l_mixed, fd_l_mixed, G_l_mixed, g_l_mixed, k_l_mixed, b_l_mixed⟩ := D_l_mixed
  refine F.ok sc_l_deck (fun vs H Q E h => ?_) (fun cdv A outer s H vs Q E hr h => ?_)
  · obtain ⟨a, ns, rfl, _⟩ := h
    rfl
  · obtain ⟨a, ns, rfl, hS, hl, q⟩ := h
    refine ⟨_, (pss_cons (ps_set (i := 1) sc_l_deck.nd rfl (.inl rfl) (pe_callTy call_list_of (by rfl) M.list (by decide +kernel) (pa_cons (pe_slice sl_list (pv 0) po_none (po_some pe_int)) pa_nil)))
      (pss_cons (ps_set (i := 2) sc_l_deck.nd rfl (.inl rfl) (pe_op op_add pe_int (pe_op op_mod (pe_callB (cr_sum rfl) (by rfl) M.sum (by decide +kernel) (pa_cons (pv 1) pa_nil)) pe_int)))
      (pss_cons (ps_for PassesOwn.never rfl (pi_range1 (by rfl) M.range (pa_cons pe_int pa_nil)) (pg_name (i := 3) sc_l_deck.nd rfl (.inl rfl))
        (pss_cons (ps_set (i := 2) sc_l_deck.nd rfl (.inl rfl) (pe_call G_l_mixed (hr.mono (by decide)) (by rfl) g_l_mixed k_l_mixed b_l_mixed .nil pass0 (pa_cons (pe_op op_add (pv 2) (pv 3)) pa_nil)))
        (pss_one (ps_if (pt_cmpR op_gt (pv 3) pe_int (nomark _))
          (pss_one (ps_expr (pe_bm PySem.F.plainAttrs_list PySem.F.slot_list_append PySem.F.type_list_append mt_append (pv 1) (pa_cons (pv 2) pa_nil))))
          pss_nil))))
      (pss_one (ps_ret (pe_revL (pv 1))))))), ?_⟩
    obtain ⟨ms, em, lm⟩ := cutV_ints ns none (some 63)
    refine ⟨.ref a, rfl, 63, rfl, a, _, rfl, hS, fun p1 n1 => ⟨p1, _, rfl, .inl (SqL.of upd_same), fun p2 n2 => ?_⟩⟩
    rw [em] at n2 ⊢
    have s1 : Same H (upd H p1 (.lst (ms.map V.int))) := same_new n1
    have s2 := s1.trans (same_new (o := .lst (ms.map V.int)) n2)
    have h2 : (upd (upd H p1 (.lst (ms.map V.int))) p2 (.lst (ms.map V.int))) p2 = some (.lst (ms.map V.int)) := upd_same
    have f2 : H p2 = none := s1.free n2
    generalize upd (upd H p1 (.lst (ms.map V.int))) p2 (.lst (ms.map V.int)) = H2 at s2 h2
    refine ⟨.ref p2, rfl, p2, ms, rfl, SqL.of h2, _, _, rfl, rfl, show (0 : Int) < 2147483647 by decide, _, _, rfl, rfl, ?_⟩
    refine ⟨700, rfl, by decide, by decide, ?_⟩
    refine for_range (lo := 0) (n := 700) (fun i σ' H' => ∃ (x : Int) (y3 : Option V) (ks : List Int), σ' = [some (.ref a), some (.ref p2), some (.int x), y3] ∧ H' p2 = some (.lst (ks.map V.int)) ∧ ks.length ≤ 63 + i ∧ Same H H') ⟨_, none, ms, rfl, h2, by omega, s2⟩ ?_ ?_
    · rintro i σ' H3 hi ⟨x, y3, ks, rfl, h3, l3, s3⟩
      refine ⟨.int x, rfl, .int (0 + (i : Nat)), rfl, _, _, rfl, rfl, _, rfl, fun r r0 r1 => ?_⟩
      refine ⟨.int (0 + (i : Nat)), rfl, _, _, rfl, rfl, _, rfl, ?_⟩
      refine ite2 (fun _ => ?_) (fun _ => ⟨_, _, ks, rfl, h3, by omega, s3⟩)
      refine ⟨.ref p2, rfl, .inl ⟨rfl, _, SqL.of h3⟩, .int r, rfl, p2, _, _, rfl, rfl, h3, small1000 (by rw [List.length_map]; omega), ?_⟩
      exact ⟨_, _, ks ++ [r], rfl, by rw [upd_same, List.map_append]; rfl, by rw [List.length_append]; show _ + 1 ≤ _; omega, Same.mut s3 f2⟩
    · rintro σ' H3 ⟨x, y3, ks, rfl, h3, l3, s3⟩
      refine ⟨.ref p2, rfl, p2, _, rfl, SqL.of h3, fun D nD => ?_⟩
      refine q D _ (s3.trans (same_new nD)) (s3.free nD) ⟨ks.reverse, by rw [upd_same, List.map_reverse], by rw [List.length_reverse]; omega⟩
theorem ok_l_take {f : Addr} {fd : FuncData} (F : Fun K "_law_take" "_law_take" s_l_take f fd) (D_l_mixed : Df P w K mg base 1 "_law_mixed" ["_law_number"] spMixed) : FnOk P w K mg base CX0 2 f fd ["_law_deck_here", "_law_most"] spTake := by
  obtain ⟨f_l_mixed, fd_l_mixed, G_l_mixed, g_l_mixed, k_l_mixed, b_l_mixed⟩ := D_l_mixed
  refine F.ok sc_l_take (fun vs H Q E h => ?_) (fun cdv A outer s H vs Q E hr h => ?_)
  · obtain ⟨d, m, rfl, _⟩ := h
    rfl
  · obtain ⟨d, m, rfl, hD, m0, m1, q⟩ := h
    refine ⟨_, (pss_cons (ps_if (pt_cmpR (op_eqE hr.units0) (pv 0) (pe_lst pa_nil) (nomark _))
        (pss_one (ps_ret pe_int))
        pss_nil)
      (pss_cons (ps_set (i := 2) sc_l_take.nd rfl (.inl rfl) (pe_bm0 PySem.F.plainAttrs_list PySem.F.slot_list_pop PySem.F.type_list_pop mt_pop (pv 0)))
      (pss_cons (ps_if (pt_cmpR op_ge (pv 2) (pe_op op_pow pe_int pe_int) (nomark _))
        (pss_cons (ps_expr (pe_bm PySem.F.plainAttrs_list PySem.F.slot_list_append PySem.F.type_list_append mt_append (pv 0) (pa_cons (pe_op op_fdivW (pv 2) (pv 1)) pa_nil)))
        (pss_one (ps_ret (pe_op op_mod (pv 2) (pv 1)))))
        pss_nil)
      (pss_one (ps_ret (pe_op op_mod (pe_op op_fdiv (pe_call G_l_mixed (hr.mono (by decide)) (by rfl) g_l_mixed k_l_mixed b_l_mixed .nil pass0 (pa_cons (pv 2) pa_nil)) pe_int) (pv 1))))))), ?_⟩
    obtain ⟨ns, hd, ln⟩ := hD
    refine ⟨.ref d, rfl, Nat.zero_le _, fun Z nZ => ⟨d, Z, _, rfl, rfl, SqL.of (same_new nZ _ _ hd), SqL.of upd_same, _, rfl, ?_⟩⟩
    have sZ := same_new (o := .lst []) nZ
    have hd1 := sZ _ _ hd
    generalize upd H Z (.lst []) = H1 at sZ hd1
    by_cases e : ns = []
    · subst e
      exact q 0 _ (by decide) m0 ⟨[], hd1, by simp⟩ (Same.kp sZ)
    · rw [show (ns.map V.int).isEmpty = false from by cases ns; exact absurd rfl e; rfl]
      have lpos := List.length_pos_iff.mpr e
      obtain ⟨c, ec⟩ : ∃ c, ns[ns.length - 1]? = some c := ⟨_, List.getElem?_eq_getElem (by omega)⟩
      refine ⟨.ref d, rfl, .inl ⟨rfl, _, SqL.of hd1⟩, d, _, .int c, rfl, rfl, hd1, by rw [List.length_map, List.getElem?_map, ec]; rfl, ?_⟩
      have hd2 : (upd H1 d (.lst (ns.map V.int).dropLast)) d = some (.lst (ns.dropLast.map V.int)) := by rw [upd_same, List.map_dropLast]
      have K2 : Kp d d H (upd H1 d (.lst (ns.map V.int).dropLast)) := (Same.kp sZ).trans Kp.at_d
      have l2 : ns.dropLast.length ≤ 799 := by rw [List.length_dropLast]; omega
      generalize upd H1 d (.lst (ns.map V.int).dropLast) = H2 at hd2 K2
      refine ⟨.int c, rfl, 10, 18, rfl, rfl, ⟨by decide, by decide, by decide⟩, _, _, rfl, rfl, _, rfl, ?_⟩
      refine ite2 (fun _ => ?_) (fun _ => ?_)
      · refine ⟨.ref d, rfl, .inl ⟨rfl, _, SqL.of hd2⟩, .int c, rfl, .int m, rfl, _, _, rfl, rfl, ⟨m0, ?_⟩, d, _, _, rfl, rfl, hd2, small1000 (by rw [List.length_map]; omega), ?_⟩
        · have h1 : m.natAbs < 2 ^ 62 := by omega
          have h2 := (Nat.log2_lt (n := m.natAbs) (k := 62) (by omega)).mpr h1
          omega
        · refine ⟨.int c, rfl, .int m, rfl, _, _, rfl, rfl, m0, ?_⟩
          exact q _ _ (mod_rng m0).1 (mod_rng m0).2 ⟨ns.dropLast ++ [c / m], by rw [upd_same, List.map_append]; rfl, by rw [List.length_append]; show _ + 1 ≤ _; omega⟩ (K2.trans Kp.at_d)
      · refine ⟨.int c, rfl, c, rfl, fun r r0 r1 => ⟨_, _, rfl, rfl, ⟨by decide, by decide⟩, .int m, rfl, _, _, rfl, rfl, m0, ?_⟩⟩
        exact q _ _ (mod_rng m0).1 (mod_rng m0).2 ⟨_, hd2, by omega⟩ K2
end
/-! ### flats: orders of ties; _law_corners -/
def PrV (H : Hp) (v : V) (q : Int × Int) : Prop := ∃ a, v = .ref a ∧ H a = some (.tup [.int q.1, .int q.2])
theorem PrV.tk {H H' : Hp} (k : Tk H H') {v : V} {p : Int × Int} (h : PrV H v p) : PrV H' v p := by
  obtain ⟨a, e, h⟩ := h
  exact ⟨a, e, k _ _ h⟩
theorem pr_tk {H H' : Hp} (k : Tk H H') {vs : List V} {qs : List (Int × Int)} (h : Paired (PrV H) vs qs) : Paired (PrV H') vs qs := Paired.mono (fun _ _ x => x.tk k) h
structure Rw (H : Hp) (A : List Addr) (rs : List (List Int)) : Prop where
  nd : A.Nodup
  len : A.length = rs.length
  each : ∀ (j : Nat) (a : Addr), A[j]? = some a → ∃ row, rs[j]? = some row ∧ H a = some (.lst (row.map V.int))
theorem Rw.ext {H H' : Hp} {A : List Addr} {rs : List (List Int)} (h : Rw H A rs) (k : ∀ a ∈ A, ∀ x, H a = some x → H' a = some x) : Rw H' A rs :=
  ⟨h.nd, h.len, fun j a e => by
    obtain ⟨row, e1, e2⟩ := h.each j a e
    exact ⟨row, e1, k a (List.mem_of_getElem? e) _ e2⟩⟩
theorem Rw.more {H : Hp} {p : Addr} {A : List Addr} {rs : List (List Int)} (h : Rw H A rs) (np : H p = none) (row : List Int) : Rw (upd H p (.lst (row.map V.int))) (A ++ [p]) (rs ++ [row]) := by
  have no : p ∉ A := fun z => by
    obtain ⟨j, e⟩ := List.getElem?_of_mem z
    obtain ⟨row, _, e2⟩ := h.each j p e
    rw [np] at e2
    cases e2
  have l := h.len
  refine ⟨List.nodup_append.mpr ⟨h.nd, by simp, fun a ha b hb e => no (by rw [List.mem_singleton.mp hb] at e; exact e ▸ ha)⟩, by simp [l], fun j a e => ?_⟩
  by_cases hj : j < A.length
  · rw [List.getElem?_append_left hj] at e
    obtain ⟨r, e1, e2⟩ := h.each j a e
    exact ⟨r, by rw [List.getElem?_append_left (by omega)]; exact e1, by rw [upd_ne (show a ≠ p from fun z => no (z ▸ List.mem_of_getElem? e))]; exact e2⟩
  · rw [List.getElem?_append_right (by omega)] at e
    have hj2 : j - A.length = 0 := by
      have := (List.getElem?_eq_some_iff.mp e).1
      simp at this
      omega
    rw [hj2] at e
    cases e
    exact ⟨row, by rw [List.getElem?_append_right (by omega), show j - rs.length = 0 by omega]; rfl, upd_same⟩
theorem Rw.put {H : Hp} {a : Addr} {j : Nat} {A : List Addr} {rs : List (List Int)} (h : Rw H A rs) (e : A[j]? = some a) (row : List Int) : Rw (upd H a (.lst (row.map V.int))) A (rs.set j row) := by
  have l := h.len
  refine ⟨h.nd, by simp [l], fun i b eb => ?_⟩
  have hj := (List.getElem?_eq_some_iff.mp e).1
  by_cases ij : j = i
  · subst ij
    rw [e] at eb
    cases eb
    exact ⟨row, by rw [List.getElem?_set_self (by omega)], upd_same⟩
  · obtain ⟨r, e1, e2⟩ := h.each i b eb
    refine ⟨r, by rw [List.getElem?_set_ne ij]; exact e1, ?_⟩
    have hi := (List.getElem?_eq_some_iff.mp eb).1
    rw [upd_ne (fun z => ij ?_)]
    · exact e2
    · have e' := (List.getElem?_eq_some_iff.mp e).2
      have eb' := (List.getElem?_eq_some_iff.mp eb).2
      refine Classical.byContradiction fun ne => ?_
      rcases Nat.lt_or_gt_of_ne ne with lt | lt
      · exact List.pairwise_iff_getElem.mp h.nd j i hj hi lt (by rw [e', eb', z])
      · exact List.pairwise_iff_getElem.mp h.nd i j hi hj lt (by rw [e', eb', z])
/-- rows of tie numbers: each tie in the rows of its two ends, once, and nowhere else -/
structure Ord (rs : List (List Int)) (es : List (Int × Int)) : Prop where
  ends : ∀ e ∈ es, (0 ≤ e.1 ∧ e.1 < (rs.length : Int)) ∧ (0 ≤ e.2 ∧ e.2 < (rs.length : Int)) ∧ e.1 ≠ e.2
  nd : ∀ row ∈ rs, row.Nodup
  mem : ∀ (p : Nat) (row : List Int), rs[p]? = some row → ∀ x : Int, x ∈ row ↔ ∃ (k : Nat) (e : Int × Int), x = (k : Int) ∧ es[k]? = some e ∧ (e.1 = (p : Int) ∨ e.2 = (p : Int))
theorem Ord.row_in {rs : List (List Int)} {es : List (Int × Int)} (h : Ord rs es) {row : List Int} (hr : row ∈ rs) : ∀ x ∈ row, 0 ≤ x ∧ x < (es.length : Int) := fun x hx => by
  obtain ⟨p, hp⟩ := List.getElem?_of_mem hr
  obtain ⟨k, e, rfl, ek, _⟩ := (h.mem p row hp x).mp hx
  have := (List.getElem?_eq_some_iff.mp ek).1
  omega
theorem Ord.row_len {rs : List (List Int)} {es : List (Int × Int)} (h : Ord rs es) {row : List Int} (hr : row ∈ rs) : row.length ≤ es.length :=
  pigeon es.length row (h.nd row hr) (h.row_in hr)
def spCorners : Sp := fun vs H Q _ => ∃ (T O : Addr) (p0 at0 : Int) (us : List V) (es : List (Int × Int)) (A : List Addr) (rs : List (List Int)), vs = [.ref T, .ref O, .int p0, .int at0] ∧ H T = some (.lst us) ∧ Paired (PrV H) us es ∧ H O = some (.lst (A.map V.ref)) ∧ Rw H A rs ∧ Ord rs es ∧ rs.length ≤ 200 ∧ es.length ≤ 200 ∧ (0 ≤ p0 ∧ p0 < (rs.length : Int)) ∧ (0 ≤ at0 ∧ at0 ≤ 1000) ∧
  ∀ L ws cs H', Same H H' → H L = none → H' L = some (.lst ws) → Paired (PrV H') ws cs → (∀ c ∈ cs, (0 ≤ c.1 ∧ c.1 < (rs.length : Int)) ∧ (0 ≤ c.2 ∧ c.2 ≤ 1000)) → cs.length ≤ 402 → Q (.ref L) H'
theorem in_flat (xs : List Int) : (xs.map V.int).all flatV = true := by
  rw [List.all_map, List.all_eq_true]
  intro x _
  rfl
section
variable {P : Program} {w : World} {K : PySem.W.Frag} {mg : Str → Option Value} {base : Heap}
set_option maxHeartbeats 2000000 in
theorem ok_l_corners {f : Addr} {fd : FuncData} (F : Fun K "_law_corners" "_law_corners" s_l_corners f fd) (M : Free mg) : FnOk P w K mg base CX0 1 f fd ["_law_ties", "_law_orders", "_law_place", "_law_at"] spCorners := by
  refine F.ok sc_l_corners (fun vs H Q E h => ?_) (fun cdv A outer s H vs Q E hr h => ?_)
  · obtain ⟨T, O, p0, at0, us, es, A, rs, rfl, _⟩ := h
    rfl
  · obtain ⟨T, O, p0, at0, us, es, A, rs, rfl, hT, hu, hO, hA, or_, nr, ne, hp0, ha0, q⟩ := h
    refine ⟨_, (pss_cons (ps_set (i := 4) sc_l_corners.nd rfl (.inl rfl) (pe_lst pa_nil))
      (pss_cons (ps_set (i := 5) sc_l_corners.nd rfl (.inl rfl) (pe_tup (pa_cons (pv 2) (pa_cons (pv 3) pa_nil))))
      (pss_cons (ps_for PassesOwn.never rfl (pi_range1 (by rfl) M.range (pa_cons (pe_op op_add (pe_op op_mul pe_int (pe_callB call_len_seq (by rfl) M.len PySem.boot_len (pa_cons (pv 0) pa_nil))) pe_int) pa_nil)) (pg_name (i := 6) sc_l_corners.nd rfl (.inl rfl))
        (pss_cons (ps_expr (pe_bm PySem.F.plainAttrs_list PySem.F.slot_list_append PySem.F.type_list_append mt_append (pv 4) (pa_cons (pv 5) pa_nil)))
        (pss_cons (ps_if (pt_cmpR (op_eqE hr.units0) (pe_ix ix_list (pv 1) (pe_ix ix_tup (pv 5) pe_int (fun _ _ => rfl)) (fun _ _ => rfl)) (pe_lst pa_nil) (nomark _))
          (pss_one (ps_ret (pv 4)))
          pss_nil)
        (pss_cons (ps_set (i := 7) sc_l_corners.nd rfl (.inl rfl) (pe_ix ix_list (pe_ix ix_list (pv 1) (pe_ix ix_tup (pv 5) pe_int (fun _ _ => rfl)) (fun _ _ => rfl)) (pe_op op_mod (pe_ix ix_tup (pv 5) pe_int (fun _ _ => rfl)) (pe_callB call_len_seq (by rfl) M.len PySem.boot_len (pa_cons (pe_ix ix_list (pv 1) (pe_ix ix_tup (pv 5) pe_int (fun _ _ => rfl)) (fun _ _ => rfl)) pa_nil))) (fun _ _ => rfl)))
        (pss_cons (ps_set (i := 8) sc_l_corners.nd rfl (.inl rfl) (pe_op op_sub (pe_op op_add (pe_ix ix_tup (pe_ix ix_list (pv 0) (pv 7) (fun _ _ => rfl)) pe_int (fun _ _ => rfl)) (pe_ix ix_tup (pe_ix ix_list (pv 0) (pv 7) (fun _ _ => rfl)) pe_int (fun _ _ => rfl))) (pe_ix ix_tup (pv 5) pe_int (fun _ _ => rfl))))
        (pss_cons (ps_set (i := 5) sc_l_corners.nd rfl (.inl rfl) (pe_tup (pa_cons (pv 8) (pa_cons (pe_op op_add (pe_bm PySem.F.plainAttrs_list PySem.F.slot_list_index PySem.F.type_list_index mt_index (pe_ix ix_list (pv 1) (pv 8) (fun _ _ => rfl)) (pa_cons (pv 7) pa_nil)) pe_int) pa_nil))))
        (pss_one (ps_if (pt_cmpR (op_eqD hr.units) (pe_tup (pa_cons (pe_ix ix_tup (pv 5) pe_int (fun _ _ => rfl)) (pa_cons (pe_op op_mod (pe_ix ix_tup (pv 5) pe_int (fun _ _ => rfl)) (pe_callB call_len_seq (by rfl) M.len PySem.boot_len (pa_cons (pe_ix ix_list (pv 1) (pe_ix ix_tup (pv 5) pe_int (fun _ _ => rfl)) (fun _ _ => rfl)) pa_nil))) pa_nil))) (pe_tup (pa_cons (pv 2) (pa_cons (pe_op op_mod (pv 3) (pe_callB call_len_seq (by rfl) M.len PySem.boot_len (pa_cons (pe_ix ix_list (pv 1) (pv 2) (fun _ _ => rfl)) pa_nil))) pa_nil))) (nomark _))
          (pss_one (ps_ret (pv 4)))
          pss_nil))))))))
      (pss_one (ps_ret (pv 4)))))), ?_⟩
    have lA := hA.len
    have lu : us.length = es.length := Paired.length hu
    refine ⟨Nat.zero_le _, fun L nL => ?_⟩
    have sL := same_new (o := .lst []) nL
    have hL1 : (upd H L (.lst [])) L = some (.lst []) := upd_same
    generalize upd H L (.lst []) = H1 at sL hL1
    refine ⟨.int p0, rfl, .int at0, rfl, by show 2 ≤ sizeLine; decide, fun h0 n0 => ?_⟩
    have s0 := same_new (o := .tup [.int p0, .int at0]) n0
    have hh0 : (upd H1 h0 (.tup [.int p0, .int at0])) h0 = some (.tup [.int p0, .int at0]) := upd_same
    have hL2 := s0 _ _ hL1
    have s2 := sL.trans s0
    generalize upd H1 h0 (.tup [.int p0, .int at0]) = H2 at hh0 hL2 s2
    refine ⟨.ref T, rfl, T, us, rfl, .inl (SqL.of (s2 _ _ hT)), _, _, rfl, rfl, .inl ⟨by decide, by decide⟩, _, _, rfl, rfl, _, rfl, by omega, by omega, ?_⟩
    have row_of : ∀ {p : Int}, 0 ≤ p → p < (rs.length : Int) → ∃ (ra : Addr) (row : List Int), atI (A.map V.ref) p = some (.ref ra) ∧ rs[p.toNat]? = some row ∧ H ra = some (.lst (row.map V.int)) := fun {p} h0 h1 => by
      have hl : p.toNat < A.length := by omega
      have e := List.getElem?_eq_getElem hl
      obtain ⟨row, e1, e2⟩ := hA.each _ _ e
      refine ⟨_, row, ?_, e1, e2⟩
      have := atI_nat (xs := A.map V.ref) (j := p.toNat) (v := .ref A[p.toNat]) (by rw [List.getElem?_map, e]; rfl)
      rw [show ((p.toNat : Nat) : Int) = p by omega] at this
      exact this
    obtain ⟨r0, row0, at0e, er0, hr0⟩ := row_of hp0.1 hp0.2
    refine for_range (lo := 0) (n := (2 * (us.length : Int) + 1).toNat) (fun i σ' H' => ∃ (h : Addr) (p a : Int) (y6 y7 y8 : Option V) (ws : List V) (cs : List (Int × Int)), σ' = [some (.ref T), some (.ref O), some (.int p0), some (.int at0), some (.ref L), some (.ref h), y6, y7, y8] ∧ H' h = some (.tup [.int p, .int a]) ∧ (0 ≤ p ∧ p < (rs.length : Int)) ∧ (0 ≤ a ∧ a ≤ 1000) ∧ (p = p0 ∨ row0 ≠ []) ∧ H' L = some (.lst ws) ∧ Paired (PrV H') ws cs ∧ (∀ c ∈ cs, (0 ≤ c.1 ∧ c.1 < (rs.length : Int)) ∧ (0 ≤ c.2 ∧ c.2 ≤ 1000)) ∧ cs.length = i ∧ Same H H') ⟨h0, p0, at0, none, none, none, [], [], rfl, hh0, hp0, ha0, .inl rfl, hL2, .nil, fun c hc => (by cases hc), rfl, s2⟩ ?_ ?_
    · clear hL2 hh0 s2
      rintro i σ' H3 hi ⟨h, p, a, y6, y7, y8, ws, cs, rfl, hh, hp, ha, ne0, hL3, hw, hc, lc, s3⟩
      have lw := Paired.length hw
      refine ⟨.ref L, rfl, .inl ⟨rfl, _, SqL.of hL3⟩, .ref h, rfl, L, _, _, rfl, rfl, hL3, small1000 (by omega), ?_⟩
      have tk := tk_lst (ys := ws ++ [.ref h]) hL3
      have hh4 := tk _ _ hh
      have s4 : Same H (upd H3 L (.lst (ws ++ [.ref h]))) := Same.mut s3 nL
      have hL4 : (upd H3 L (.lst (ws ++ [.ref h]))) L = some (.lst (ws ++ [.ref h])) := upd_same
      have hw4 : Paired (PrV (upd H3 L (.lst (ws ++ [.ref h])))) (ws ++ [.ref h]) (cs ++ [(p, a)]) := Paired.snoc (pr_tk tk hw) ⟨h, rfl, hh4⟩
      have hc4 : ∀ c ∈ cs ++ [(p, a)], (0 ≤ c.1 ∧ c.1 < (rs.length : Int)) ∧ (0 ≤ c.2 ∧ c.2 ≤ 1000) := fun c hm => by
        rcases List.mem_append.mp hm with z | z
        · exact hc c z
        · rw [List.mem_singleton.mp z]; exact ⟨hp, ha⟩
      have lc4 : (cs ++ [(p, a)]).length = i + 1 := by simp [lc]
      generalize upd H3 L (.lst (ws ++ [.ref h])) = H4 at hh4 s4 hL4 hw4
      generalize ws ++ [.ref h] = ws4 at hL4 hw4
      generalize cs ++ [(p, a)] = cs4 at hw4 hc4 lc4
      obtain ⟨ra, row, e1, er, hra⟩ := row_of hp.1 hp.2
      refine ⟨.ref O, rfl, .ref h, rfl, h, _, 0, .int p, rfl, rfl, SqT.of hh4, rfl, O, _, p, .ref ra, rfl, rfl, SqL.of (s4 _ _ hO), e1, Nat.zero_le _, fun Z nZ => ⟨ra, Z, _, rfl, rfl, SqL.of (same_new nZ _ _ (s4 _ _ hra)), SqL.of upd_same, _, rfl, ?_⟩⟩
      have sZ := same_new (o := .lst []) nZ
      have hh5 := sZ _ _ hh4
      have hL5 := sZ _ _ hL4
      have hw5 := pr_tk (Same.tk sZ) hw4
      have s5 := s4.trans sZ
      generalize upd H4 Z (.lst []) = H5 at hh5 hL5 hw5 s5
      by_cases en : row = []
      · subst en
        exact ⟨.ref L, rfl, q L ws4 cs4 _ s5 nL hL5 hw5 hc4 (by omega)⟩
      rw [show (row.map V.int).isEmpty = false from by cases row; exact absurd rfl en; rfl]
      have hrm := List.mem_of_getElem? er
      have lrow := or_.row_len hrm
      have lpos := List.length_pos_iff.mpr en
      have am := mod_rng (a := a) (m := (row.length : Int)) (by omega)
      obtain ⟨x', x1, x2⟩ := getI (xs := row.map V.int) am.1 (by rw [List.length_map]; exact am.2)
      rw [List.getElem?_map] at x2
      obtain ⟨x, ex, rfl⟩ := Option.map_eq_some_iff.mp x2
      have xin := or_.row_in hrm x (List.mem_of_getElem? ex)
      obtain ⟨k, e, rfl, ek, pe⟩ := (or_.mem _ _ er x).mp (List.mem_of_getElem? ex)
      rw [show ((p.toNat : Nat) : Int) = p by omega] at pe
      have hO5 := s5 _ _ hO
      have hra5 := s5 _ _ hra
      refine ⟨.ref O, rfl, .ref h, rfl, h, _, 0, .int p, rfl, rfl, SqT.of hh5, rfl, O, _, p, .ref ra, rfl, rfl, SqL.of hO5, e1, .ref h, rfl, h, _, 1, .int a, rfl, rfl, SqT.of hh5, rfl, .ref O, rfl, .ref h, rfl, h, _, 0, .int p, rfl, rfl, SqT.of hh5, rfl, O, _, p, .ref ra, rfl, rfl, SqL.of hO5, e1, ra, _, rfl, .inl (SqL.of hra5), _, _, rfl, rfl, (by show (0 : Int) < (((row.map V.int).length : Nat) : Int); rw [List.length_map]; omega), ra, _, _, .int (k : Nat), rfl, rfl, SqL.of hra5, (by rw [List.length_map]; exact x1), ?_⟩
      obtain ⟨u, eu, c, rfl, hcc⟩ := Paired.at' hu ek
      have ends := or_.ends e (List.mem_of_getElem? ek)
      have hT5 := s5 _ _ hT
      have hc5 := s5 _ _ hcc
      refine ⟨.ref T, rfl, .int (k : Nat), rfl, T, us, _, .ref c, rfl, rfl, SqL.of hT5, atI_nat eu, c, _, 0, .int e.1, rfl, rfl, SqT.of hc5, rfl, .ref T, rfl, .int (k : Nat), rfl, T, us, _, .ref c, rfl, rfl, SqL.of hT5, atI_nat eu, c, _, 1, .int e.2, rfl, rfl, SqT.of hc5, rfl, _, _, rfl, rfl, .ref h, rfl, h, _, 0, .int p, rfl, rfl, SqT.of hh5, rfl, _, _, rfl, rfl, ?_⟩
      have th : 0 ≤ e.1 + e.2 - p ∧ e.1 + e.2 - p < (rs.length : Int) ∧ (e.1 = e.1 + e.2 - p ∨ e.2 = e.1 + e.2 - p) := by omega
      obtain ⟨th', hth⟩ : ∃ th', th' = e.1 + e.2 - p := ⟨_, rfl⟩
      rw [← hth] at th
      obtain ⟨rb, rowb, e1b, erb, hrb⟩ := row_of th.1 th.2.1
      have kb : ((k : Nat) : Int) ∈ rowb := (or_.mem _ _ erb _).mpr ⟨k, e, rfl, ek, by rw [show ((th'.toNat : Nat) : Int) = th' by omega]; exact th.2.2⟩
      have hrbm := List.mem_of_getElem? erb
      have lrowb := or_.row_len hrbm
      obtain ⟨jl, ej⟩ := List.getElem_of_mem kb
      obtain ⟨jl2, ej⟩ := ej
      have ndb := or_.nd rowb hrbm
      have hrb5 := s5 _ _ hrb
      refine ⟨.int th', by rw [hth]; rfl, .ref O, rfl, .int th', by rw [hth]; rfl, O, _, th', .ref rb, rfl, rfl, SqL.of hO5, e1b, .inl ⟨rfl, _, SqL.of hrb5⟩, .int (k : Nat), rfl, rb, _, .int (k : Nat), jl, .int (k : Nat), rfl, rfl, SqL.of hrb5, rfl, in_flat _, (by rw [List.getElem?_map, List.getElem?_eq_getElem jl2, ej]; rfl), (by show (((k : Nat) : Int) == ((k : Nat) : Int)) = true; simp), fun m z' hm ez => ?_, _, _, rfl, rfl, by show 2 ≤ sizeLine; decide, fun r nr => ?_⟩
      · rw [List.getElem?_map] at ez
        obtain ⟨z, ez2, rfl⟩ := Option.map_eq_some_iff.mp ez
        show (z == ((k : Nat) : Int)) = false
        rw [beq_eq_false_iff_ne]
        intro zk
        obtain ⟨ml, ez3⟩ := List.getElem?_eq_some_iff.mp ez2
        exact List.pairwise_iff_getElem.mp ndb m jl ml jl2 hm (by rw [ez3, ej, zk])
      · have sr := same_new (o := .tup [.int th', .int ((jl : Nat) + 1)]) nr
        have hr6 : (upd H5 r (.tup [.int th', .int ((jl : Nat) + 1)])) r = some (.tup [.int th', .int ((jl : Nat) + 1)]) := upd_same
        have hL6 := sr _ _ hL5
        have hw6 := pr_tk (Same.tk sr) hw5
        have s6 := s5.trans sr
        generalize upd H5 r (.tup [.int th', .int ((jl : Nat) + 1)]) = H6 at hr6 hL6 hw6 s6
        have hO6 := s6 _ _ hO
        have n0 : row0 ≠ [] := ne0.elim (fun z => by
          rw [z, er0] at er
          cases er
          exact en) id
        have l0 := List.length_pos_iff.mpr n0
        have lb : 0 < rowb.length := by omega
        refine ⟨.ref r, rfl, r, _, 0, .int th', rfl, rfl, SqT.of hr6, rfl, .ref r, rfl, r, _, 1, .int ((jl : Nat) + 1), rfl, rfl, SqT.of hr6, rfl, .ref O, rfl, .ref r, rfl, r, _, 0, .int th', rfl, rfl, SqT.of hr6, rfl, O, _, th', .ref rb, rfl, rfl, SqL.of hO6, e1b, rb, _, rfl, .inl (SqL.of (s6 _ _ hrb)), _, _, rfl, rfl, (by show (0 : Int) < (((rowb.map V.int).length : Nat) : Int); rw [List.length_map]; omega), by show 2 ≤ sizeLine; decide, fun c1 nc1 => ?_⟩
        have sc1 := same_new (o := .tup [.int th', .int (((jl : Nat) + 1) % (((rowb.map V.int).length : Nat) : Int))]) nc1
        refine ⟨.int p0, rfl, .int at0, rfl, .ref O, rfl, .int p0, rfl, O, _, p0, .ref r0, rfl, rfl, SqL.of (sc1 _ _ hO6), at0e, r0, _, rfl, .inl (SqL.of (sc1 _ _ (s6 _ _ hr0))), _, _, rfl, rfl, (by show (0 : Int) < (((row0.map V.int).length : Nat) : Int); rw [List.length_map]; omega), by show 2 ≤ sizeLine; decide, fun c2 nc2 => ?_⟩
        have sc2 := same_new (o := .tup [.int p0, .int (at0 % (((row0.map V.int).length : Nat) : Int))]) nc2
        have sc := sc1.trans sc2
        refine ⟨_, _, IntsV.dp (xs := [th', ((jl : Nat) + 1) % (((rowb.map V.int).length : Nat) : Int)]) ⟨c1, rfl, sc2 _ _ upd_same⟩, IntsV.dp (xs := [p0, at0 % (((row0.map V.int).length : Nat) : Int)]) ⟨c2, rfl, upd_same⟩, shaped_intsD _, shaped_intsD _, _, rfl, ite2 (fun _ => ?_) (fun _ => ?_)⟩
        · exact ⟨.ref L, rfl, q L ws4 cs4 _ (s6.trans sc) nL (sc _ _ hL6) (pr_tk (Same.tk sc) hw6) hc4 (by omega)⟩
        · exact ⟨r, th', (jl : Nat) + 1, _, _, _, ws4, cs4, rfl, sc _ _ hr6, ⟨th.1, th.2.1⟩, by omega, .inr n0, sc _ _ hL6, pr_tk (Same.tk sc) hw6, hc4, lc4, s6.trans sc⟩
    · rintro σ' H3 ⟨h, p, a, y6, y7, y8, ws, cs, rfl, hh, hp, ha, ne0, hL3, hw, hc, lc, s3⟩
      exact ⟨.ref L, rfl, q L ws cs _ s3 nL hL3 hw hc (by omega)⟩
end
/-! ### flats: grown -/
theorem dec_intF (a b : Int) : decide (V.int a = V.int b) = decide (a = b) := by
  by_cases h : a = b
  · rw [decide_eq_true h, h, decide_eq_true rfl]
  · rw [decide_eq_false h, decide_eq_false (fun z => h (V.int.inj z))]
theorem Ord.start : Ord [[]] [] := ⟨fun e h => (by cases h), fun row h => by rw [List.mem_singleton.mp h]; exact List.nodup_nil, fun p row e x => by
  match p, e with
  | 0, e =>
    cases e
    exact ⟨fun h => (by cases h), fun ⟨k, e, _, h, _⟩ => by simp at h⟩
  | p + 1, e => simp at e⟩
theorem Ord.more {rs : List (List Int)} {es : List (Int × Int)} (h : Ord rs es) : Ord (rs ++ [[]]) es := by
  refine ⟨fun e he => ?_, fun row hr => ?_, fun p row e x => ?_⟩
  · have := h.ends e he
    rw [List.length_append]
    simp only [List.length_singleton]
    push_cast
    omega
  · rcases List.mem_append.mp hr with z | z
    · exact h.nd row z
    · rw [List.mem_singleton.mp z]; exact List.nodup_nil
  · by_cases hp : p < rs.length
    · rw [List.getElem?_append_left hp] at e
      exact h.mem p row e x
    · rw [List.getElem?_append_right (by omega)] at e
      have hp2 : p - rs.length = 0 := by
        have := (List.getElem?_eq_some_iff.mp e).1
        simp at this
        omega
      rw [hp2] at e
      cases e
      refine ⟨fun z => (by cases z), fun ⟨k, e, _, h2, h3⟩ => ?_⟩
      have := h.ends e (List.mem_of_getElem? h2)
      omega
theorem Ord.link {rs rs' : List (List Int)} {es : List (Int × Int)} {p q : Nat} (h : Ord rs es) (hl : rs'.length = rs.length) (hp : p < rs.length) (hq : q < rs.length) (pq : p ≠ q) (each : ∀ (i : Nat) (row' : List Int), rs'[i]? = some row' → ∃ row, rs[i]? = some row ∧ ((i = p ∨ i = q) → (∀ x : Int, x ∈ row' ↔ x ∈ row ∨ x = (es.length : Int)) ∧ row'.Nodup) ∧ (¬ (i = p ∨ i = q) → row' = row)) : Ord rs' (es ++ [((p : Int), (q : Int))]) := by
  refine ⟨fun e he => ?_, fun row hr => ?_, fun i row e x => ?_⟩
  · rw [hl]
    rcases List.mem_append.mp he with z | z
    · exact h.ends e z
    · rw [List.mem_singleton.mp z]
      simp only
      omega
  · obtain ⟨i, hi⟩ := List.getElem?_of_mem hr
    obtain ⟨row0, e0, e1, e2⟩ := each i row hi
    by_cases c : i = p ∨ i = q
    · exact (e1 c).2
    · rw [e2 c]; exact h.nd row0 (List.mem_of_getElem? e0)
  · obtain ⟨row0, e0, e1, e2⟩ := each i row e
    have m0 := h.mem i row0 e0 x
    by_cases c : i = p ∨ i = q
    · rw [(e1 c).1 x, m0]
      constructor
      · rintro (⟨k, e, rfl, ek, he⟩ | rfl)
        · exact ⟨k, e, rfl, by rw [List.getElem?_append_left (List.getElem?_eq_some_iff.mp ek).1]; exact ek, he⟩
        · exact ⟨es.length, ((p : Int), (q : Int)), rfl, by rw [List.getElem?_append_right (Nat.le_refl _), Nat.sub_self]; rfl, c.elim (fun z => .inl (by rw [z])) (fun z => .inr (by rw [z]))⟩
      · rintro ⟨k, e, rfl, ek, he⟩
        by_cases hk : k < es.length
        · rw [List.getElem?_append_left hk] at ek
          exact .inl ⟨k, e, rfl, ek, he⟩
        · have := (List.getElem?_eq_some_iff.mp ek).1
          rw [List.length_append, List.length_singleton] at this
          exact .inr (by omega)
    · rw [e2 c, m0]
      constructor
      · rintro ⟨k, e, rfl, ek, he⟩
        exact ⟨k, e, rfl, by rw [List.getElem?_append_left (List.getElem?_eq_some_iff.mp ek).1]; exact ek, he⟩
      · rintro ⟨k, e, rfl, ek, he⟩
        by_cases hk : k < es.length
        · rw [List.getElem?_append_left hk] at ek
          exact ⟨k, e, rfl, ek, he⟩
        · exfalso
          have hk2 := (List.getElem?_eq_some_iff.mp ek).1
          rw [List.length_append, List.length_singleton] at hk2
          rw [List.getElem?_append_right (by omega), show k - es.length = 0 by omega] at ek
          cases ek
          exact c (he.elim (fun z => .inl (Int.ofNat.inj z).symm) fun z => .inr (Int.ofNat.inj z).symm)
def insR (row : List Int) (i : Nat) (m : Int) : List Int := row.take i ++ [m] ++ row.drop i
theorem insR_map (row : List Int) (i : Nat) (m : Int) : (row.map V.int).take i ++ [V.int m] ++ (row.map V.int).drop i = (insR row i m).map V.int := by
  unfold insR
  rw [List.map_append, List.map_append, List.map_take, List.map_drop]
  rfl
theorem insR_mem {row : List Int} {i : Nat} {m x : Int} : x ∈ insR row i m ↔ x ∈ row ∨ x = m := by
  have e : x ∈ row ↔ x ∈ row.take i ∨ x ∈ row.drop i := by
    rw [← List.mem_append, List.take_append_drop]
  unfold insR
  rw [List.mem_append, List.mem_append, List.mem_singleton, e]
  constructor
  · rintro ((h | h) | h)
    · exact .inl (.inl h)
    · exact .inr h
    · exact .inl (.inr h)
  · rintro ((h | h) | h)
    · exact .inl (.inl h)
    · exact .inr h
    · exact .inl (.inr h)
theorem insR_nd {row : List Int} {i : Nat} {m : Int} (nd : row.Nodup) (h : m ∉ row) : (insR row i m).Nodup := by
  have p : (insR row i m).Perm (m :: row) := by
    unfold insR
    rw [List.append_assoc]
    refine (List.perm_middle (l₁ := row.take i) (l₂ := row.drop i) (a := m)).trans ?_
    rw [List.take_append_drop]
  exact p.nodup_iff.mpr (List.nodup_cons.mpr ⟨h, nd⟩)
/-- what is being grown: all of it new -/
structure Grw (H0 : Hp) (d T O : Addr) (H : Hp) (us : List V) (es : List (Int × Int)) (A : List Addr) (rs : List (List Int)) : Prop where
  hT : H T = some (.lst us)
  hu : Paired (PrV H) us es
  hO : H O = some (.lst (A.map V.ref))
  rw' : Rw H A rs
  TO : T ≠ O
  Td : T ≠ d
  Od : O ≠ d
  T0 : H0 T = none
  O0 : H0 O = none
  aA : ∀ a ∈ A, a ≠ T ∧ a ≠ O ∧ a ≠ d ∧ H0 a = none
  dk : FDk H d
  kp : Kp d d H0 H
section
variable {H0 H H' : Hp} {d T O : Addr} {us : List V} {es : List (Int × Int)} {A : List Addr} {rs : List (List Int)}
theorem Grw.same (g : Grw H0 d T O H us es A rs) (s : Same H H') : Grw H0 d T O H' us es A rs :=
  ⟨s _ _ g.hT, pr_tk (Same.tk s) g.hu, s _ _ g.hO, g.rw'.ext fun _ _ _ h => s _ _ h, g.TO, g.Td, g.Od, g.T0, g.O0, g.aA, g.dk.same s, g.kp.trans (Same.kp s)⟩
theorem Grw.take (g : Grw H0 d T O H us es A rs) (k : Kp d d H H') (D : FDk H' d) : Grw H0 d T O H' us es A rs :=
  ⟨k _ _ g.Td g.Td g.hT, pr_tk (g.dk.tk k) g.hu, k _ _ g.Od g.Od g.hO, g.rw'.ext fun a ha _ h => k _ _ (g.aA a ha).2.2.1 (g.aA a ha).2.2.1 h, g.TO, g.Td, g.Od, g.T0, g.O0, g.aA, D, g.kp.trans k⟩
theorem Grw.dk_ne (g : Grw H0 d T O H us es A rs) {a : Addr} (h : a ≠ d) {o : HO} : FDk (upd H a o) d := by
  obtain ⟨ns, h1, h2⟩ := g.dk
  exact ⟨ns, by rw [upd_ne (Ne.symm h)]; exact h1, h2⟩
theorem Grw.row (g : Grw H0 d T O H us es A rs) {p : Nat} {ra : Addr} (ea : A[p]? = some ra) {row : List Int} (hr : H ra = some (.lst (row.map V.int))) (row' : List Int) : Grw H0 d T O (upd H ra (.lst (row'.map V.int))) us es A (rs.set p row') := by
  have a := g.aA ra (List.mem_of_getElem? ea)
  exact ⟨by rw [upd_ne a.1.symm]; exact g.hT, pr_tk (tk_lst hr) g.hu, by rw [upd_ne a.2.1.symm]; exact g.hO, g.rw'.put ea row', g.TO, g.Td, g.Od, g.T0, g.O0, g.aA, g.dk_ne a.2.2.1, g.kp.mut a.2.2.2⟩
theorem Grw.tie (g : Grw H0 d T O H us es A rs) {c : Addr} {x y : Int} (hc : H c = some (.tup [.int x, .int y])) : Grw H0 d T O (upd H T (.lst (us ++ [.ref c]))) (us ++ [.ref c]) (es ++ [(x, y)]) A rs := by
  have tk := tk_lst (ys := us ++ [.ref c]) g.hT
  exact ⟨upd_same, Paired.snoc (pr_tk tk g.hu) ⟨c, rfl, tk _ _ hc⟩, by rw [upd_ne g.TO.symm]; exact g.hO, g.rw'.ext fun a ha _ h => by rw [upd_ne (g.aA a ha).1]; exact h, g.TO, g.Td, g.Od, g.T0, g.O0, g.aA, g.dk_ne g.Td, g.kp.mut g.T0⟩
theorem Grw.more (g : Grw H0 d T O H us es A rs) {p : Addr} (np : H p = none) (row : List Int) : Grw H0 d T O (upd (upd H p (.lst (row.map V.int))) O (.lst (A.map V.ref ++ [.ref p]))) us es (A ++ [p]) (rs ++ [row]) := by
  have sp := same_new (o := .lst (row.map V.int)) np
  have pT : p ≠ T := (ne_of_none g.hT np).symm
  have pO : p ≠ O := (ne_of_none g.hO np).symm
  have pd : p ≠ d := g.dk.ned np
  have g1 := g.same sp
  have tk := tk_lst (ys := A.map V.ref ++ [.ref p]) g1.hO
  refine ⟨by rw [upd_ne g.TO]; exact g1.hT, pr_tk tk g1.hu, by rw [upd_same, List.map_append]; rfl, (g.rw'.more np row).ext fun a ha _ h => ?_, g.TO, g.Td, g.Od, g.T0, g.O0, fun a ha => ?_, g1.dk_ne g.Od, g1.kp.mut g.O0⟩
  · rw [upd_ne]
    · exact h
    · rcases List.mem_append.mp ha with z | z
      · exact (g.aA a z).2.1
      · rw [List.mem_singleton.mp z]; exact pO
  · rcases List.mem_append.mp ha with z | z
    · exact g.aA a z
    · rw [List.mem_singleton.mp z]
      exact ⟨pT, pO, pd, g.kp.free np pd pd⟩
theorem Grw.at' (g : Grw H0 d T O H us es A rs) {p : Int} (h0 : 0 ≤ p) (h1 : p < (rs.length : Int)) : ∃ (ra : Addr) (row : List Int), A[p.toNat]? = some ra ∧ atI (A.map V.ref) p = some (.ref ra) ∧ rs[p.toNat]? = some row ∧ H ra = some (.lst (row.map V.int)) := by
  have lA := g.rw'.len
  have hl : p.toNat < A.length := by omega
  have e := List.getElem?_eq_getElem hl
  obtain ⟨row, e1, e2⟩ := g.rw'.each _ _ e
  refine ⟨_, row, e, ?_, e1, e2⟩
  have := atI_nat (xs := A.map V.ref) (j := p.toNat) (v := .ref A[p.toNat]) (by rw [List.getElem?_map, e]; rfl)
  rw [show ((p.toNat : Nat) : Int) = p by omega] at this
  exact this
end
def spGrown : Sp := fun vs H Q _ => ∃ (d : Addr) (most many : Int), vs = [.ref d, .int most, .int many] ∧ FDk H d ∧ 1 ≤ most ∧ most ≤ 50 ∧ 0 ≤ many ∧ many ≤ 100 ∧
  ∀ r T O us es A rs H', H' r = some (.tup [.ref T, .ref O]) → Grw H d T O H' us es A rs → Ord rs es → 1 ≤ rs.length → rs.length ≤ 50 → es.length ≤ 100 → Q (.ref r) H'
section
variable {P : Program} {w : World} {K : PySem.W.Frag} {mg : Str → Option Value} {base : Heap}
set_option maxHeartbeats 4000000 in
theorem ok_l_grown {f : Addr} {fd : FuncData} (F : Fun K "_law_grown" "_law_grown" s_l_grown f fd) (M : Free mg) (D_l_take : Df P w K mg base 2 "_law_take" ["_law_deck_here", "_law_most"] spTake) (D_l_corners : Df P w K mg base 1 "_law_corners" ["_law_ties", "_law_orders", "_law_place", "_law_at"] spCorners) : FnOk P w K mg base CX0 3 f fd ["_law_deck_here", "_law_most", "_law_many_ties"] spGrown := by
  obtain ⟨f_l_take, fd_l_take, G_l_take, g_l_take, k_l_take, b_l_take⟩ := D_l_take
  obtain ⟨f_l_corners, fd_l_corners, G_l_corners, g_l_corners, k_l_corners, b_l_corners⟩ := D_l_corners
  refine F.ok sc_l_grown (fun vs H Q E h => ?_) (fun cdv A outer s H vs Q E hr h => ?_)
  · obtain ⟨d, most, many, rfl, _⟩ := h
    rfl
  · obtain ⟨d, most, many, rfl, hD, m0, m1, y0, y1, q⟩ := h
    refine ⟨_, (pss_cons (ps_set (i := 3) sc_l_grown.nd rfl (.inl rfl) (pe_lst (pa_cons (pe_lst pa_nil) pa_nil)))
      (pss_cons (ps_set (i := 4) sc_l_grown.nd rfl (.inl rfl) (pe_lst pa_nil))
      (pss_cons (ps_for PassesOwn.never rfl (pi_range1 (by rfl) M.range (pa_cons (pv 2) pa_nil)) (pg_name (i := 5) sc_l_grown.nd rfl (.inl rfl))
        (pss_cons (ps_set (i := 6) sc_l_grown.nd rfl (.inl rfl) (pe_call G_l_take (hr.mono (by decide)) (by rfl) g_l_take k_l_take b_l_take .nil pass0 (pa_cons (pv 0) (pa_cons pe_int pa_nil))))
        (pss_cons (ps_set (i := 7) sc_l_grown.nd rfl (.inr rfl) (pe_call G_l_take (hr.mono (by decide)) (by rfl) g_l_take k_l_take b_l_take .nil pass0 (pa_cons (pv 0) (pa_cons (pe_callB call_len_seq (by rfl) M.len PySem.boot_len (pa_cons (pv 3) pa_nil)) pa_nil))))
        (pss_cons (ps_set (i := 8) sc_l_grown.nd rfl (.inl rfl) (pe_call G_l_take (hr.mono (by decide)) (by rfl) g_l_take k_l_take b_l_take .nil pass0 (pa_cons (pv 0) (pa_cons (pe_op op_add (pe_callB call_len_seq (by rfl) M.len PySem.boot_len (pa_cons (pe_ix ix_list (pv 3) (pv 7) (fun _ _ => rfl)) pa_nil)) pe_int) pa_nil))))
        (pss_one (ps_if (PW.pt (pw_and (pt_cmpR op_lt (pv 6) pe_int (nomark _)) (pw_and1 (pt_cmpR op_lt (pe_callB call_len_seq (by rfl) M.len PySem.boot_len (pa_cons (pv 3) pa_nil)) (pv 1) (nomark _)))))
          (pss_cons (ps_expr (pe_bm PySem.F.plainAttrs_list PySem.F.slot_list_append PySem.F.type_list_append mt_append (pv 3) (pa_cons (pe_lst (pa_cons (pe_callB call_len_seq (by rfl) M.len PySem.boot_len (pa_cons (pv 4) pa_nil)) pa_nil)) pa_nil)))
          (pss_cons (ps_expr (pe_bm PySem.F.plainAttrs_list PySem.F.slot_list_insert PySem.F.type_list_insert mt_insert (pe_ix ix_list (pv 3) (pv 7) (fun _ _ => rfl)) (pa_cons (pv 8) (pa_cons (pe_callB call_len_seq (by rfl) M.len PySem.boot_len (pa_cons (pv 4) pa_nil)) pa_nil))))
          (pss_one (ps_expr (pe_bm PySem.F.plainAttrs_list PySem.F.slot_list_append PySem.F.type_list_append mt_append (pv 4) (pa_cons (pe_tup (pa_cons (pv 7) (pa_cons (pe_op op_sub (pe_callB call_len_seq (by rfl) M.len PySem.boot_len (pa_cons (pv 3) pa_nil)) pe_int) pa_nil))) pa_nil))))))
          (pss_one (ps_if (PW.pt (pw_and (pt_cmpR op_eq (pv 6) pe_int (nomark _)) (pw_and1 (pt_cmpR op_lt (pe_callB call_len_seq (by rfl) M.len PySem.boot_len (pa_cons (pv 3) pa_nil)) (pv 1) (nomark _)))))
            (pss_one (ps_expr (pe_bm PySem.F.plainAttrs_list PySem.F.slot_list_append PySem.F.type_list_append mt_append (pv 3) (pa_cons (pe_lst pa_nil) pa_nil))))
            (pss_cons (ps_setLc (i := 9) (own := [("_law_corner", 10)]) (g := (gName 10)) (te := tVar 10) rfl sc_l_grown.nd rfl rfl (sw_true rfl rfl rfl (by decide +kernel)) (pi_list (pe_call G_l_corners (hr.mono (by decide)) (by rfl) g_l_corners k_l_corners b_l_corners .nil pass0 (pa_cons (pv 4) (pa_cons (pv 3) (pa_cons (pv 7) (pa_cons (pv 8) pa_nil)))))) (blkOk_by (N := N_l_grown) (sc := defScope s_l_grown) (own := [("_law_corner", 10)]) (by decide +kernel)) (fun _ _ _ _ _ => (pg_name (i := 10) sc_l_grown.nd rfl (.inl rfl))) (fun _ _ _ _ _ => (pts_one (pt_cmpR op_ne (pe_ix (r := rIxT K) ix_tup (pv 10) pe_int (fun _ _ => rfl)) (pv 7) (nomark _)))) (fun _ _ _ _ _ => (pv 10)))
            (pss_one (ps_if (pt_cmpR (op_neE hr.units0) (pv 9) (pe_lst pa_nil) (nomark _))
              (pss_cons (ps_asg (pe_ix ix_list (pv 9) (pe_call G_l_take (hr.mono (by decide)) (by rfl) g_l_take k_l_take b_l_take .nil pass0 (pa_cons (pv 0) (pa_cons (pe_callB call_len_seq (by rfl) M.len PySem.boot_len (pa_cons (pv 9) pa_nil)) pa_nil))) (fun _ _ => rfl)) (pg_tup rfl (pgs_cons (pg_name (i := 11) sc_l_grown.nd rfl (.inl rfl)) (pgs_cons (pg_name (i := 12) sc_l_grown.nd rfl (.inl rfl)) pgs_nil))))
              (pss_cons (ps_expr (pe_bm PySem.F.plainAttrs_list PySem.F.slot_list_insert PySem.F.type_list_insert mt_insert (pe_ix ix_list (pv 3) (pv 7) (fun _ _ => rfl)) (pa_cons (pv 8) (pa_cons (pe_callB call_len_seq (by rfl) M.len PySem.boot_len (pa_cons (pv 4) pa_nil)) pa_nil))))
              (pss_cons (ps_expr (pe_bm PySem.F.plainAttrs_list PySem.F.slot_list_insert PySem.F.type_list_insert mt_insert (pe_ix ix_list (pv 3) (pv 11) (fun _ _ => rfl)) (pa_cons (pv 12) (pa_cons (pe_callB call_len_seq (by rfl) M.len PySem.boot_len (pa_cons (pv 4) pa_nil)) pa_nil))))
              (pss_one (ps_expr (pe_bm PySem.F.plainAttrs_list PySem.F.slot_list_append PySem.F.type_list_append mt_append (pv 4) (pa_cons (pe_tup (pa_cons (pv 7) (pa_cons (pv 11) pa_nil))) pa_nil)))))))
              pss_nil)))))))))))
      (pss_one (ps_ret (pe_tup (pa_cons (pv 4) (pa_cons (pv 3) pa_nil)))))))), ?_⟩
    refine ⟨Nat.zero_le _, fun a0 na0 => ⟨by show 1 ≤ sizeLine; decide, fun O nO => ?_⟩⟩
    have s1 := same_new (o := .lst []) na0
    have ha1 : (upd H a0 (.lst [])) a0 = some (.lst (([] : List Int).map V.int)) := upd_same
    have a0d : a0 ≠ d := hD.ned na0
    have D1 := hD.same s1
    have nO0 : H O = none := s1.free nO
    have aO : a0 ≠ O := ne_of_none ha1 nO
    generalize upd H a0 (.lst []) = H1 at s1 ha1 D1 nO
    have s2 := same_new (o := .lst [.ref a0]) nO
    have hO2 : (upd H1 O (.lst [.ref a0])) O = some (.lst (([a0] : List Addr).map V.ref)) := upd_same
    have Od : O ≠ d := D1.ned nO
    have D2 := D1.same s2
    have ha2 := s2 _ _ ha1
    have s12 := s1.trans s2
    generalize upd H1 O (.lst [.ref a0]) = H2 at s2 hO2 D2 ha2 s12
    refine ⟨Nat.zero_le _, fun T nT => ?_⟩
    have s3 := same_new (o := .lst []) nT
    have g3 : Grw H d T O (upd H2 T (.lst [])) [] [] [a0] [[]] := ⟨upd_same, .nil, s3 _ _ hO2, ⟨by simp, rfl, fun j a e => by
      match j, e with
      | 0, e => cases e; exact ⟨[], rfl, s3 _ _ ha2⟩
      | j + 1, e => simp at e⟩, (ne_of_none hO2 nT).symm, D2.ned nT, Od, s12.free nT, nO0, fun a ha => by
        rw [List.mem_singleton.mp ha]
        exact ⟨ne_of_none ha2 nT, aO, a0d, na0⟩, D2.same s3, Same.kp (s12.trans s3)⟩
    generalize upd H2 T (.lst []) = H3 at g3
    refine ⟨.int many, rfl, many, rfl, by omega, by omega, ?_⟩
    refine for_range (lo := 0) (n := many.toNat) (fun i σ' H' => ∃ (y5 y6 y7 y8 y9 y11 y12 : Option V) (us : List V) (es : List (Int × Int)) (A : List Addr) (rs : List (List Int)), σ' = [some (.ref d), some (.int most), some (.int many), some (.ref O), some (.ref T), y5, y6, y7, y8, y9, none, y11, y12] ∧ Grw H d T O H' us es A rs ∧ Ord rs es ∧ 1 ≤ rs.length ∧ rs.length ≤ 50 ∧ es.length ≤ i) ⟨none, none, none, none, none, none, none, [], [], [a0], [[]], rfl, g3, Ord.start, by simp, by simp, by simp⟩ ?_ ?_
    · rintro i σ' H4 hi ⟨y5, y6, y7, y8, y9, y11, y12, us, es, A, rs, rfl, g, od, r1, r50, le⟩
      have lA := g.rw'.len
      have lu : us.length = es.length := Paired.length g.hu
      have lAm : (A.map V.ref).length = rs.length := by rw [List.length_map, lA]
      -- way
      refine ⟨.ref d, rfl, d, 8, rfl, g.dk, by decide, by decide, fun wy H5 w0 w1 D5 K5 => ?_⟩
      have g := g.take K5 D5
      -- place
      refine ⟨.ref d, rfl, .ref O, rfl, O, _, rfl, .inl (SqL.of g.hO), d, _, rfl, g.dk, by omega, by omega, fun pl H6 p0 p1 D6 K6 => ?_⟩
      rw [lAm] at p1
      have g := g.take K6 D6
      obtain ⟨ra, row, ea, e1, er, hra⟩ := g.at' p0 p1
      have lrow := od.row_len (List.mem_of_getElem? er)
      -- at
      refine ⟨.ref d, rfl, .ref O, rfl, .int pl, rfl, O, _, pl, .ref ra, rfl, rfl, SqL.of g.hO, e1, ra, _, rfl, .inl (SqL.of hra), _, _, rfl, rfl, d, _, rfl, g.dk, by omega, by rw [List.length_map]; omega, fun at' H7 t0 t1 D7 K7 => ?_⟩
      rw [List.length_map] at t1
      have g := g.take K7 D7
      obtain ⟨ra', row', ea', e1', er', hra⟩ := g.at' p0 p1
      rw [ea] at ea'
      cases ea'
      rw [er] at er'
      cases er'
      clear e1' D5 K5 D6 K6 D7 K7
      refine ⟨.int wy, rfl, _, _, rfl, rfl, _, rfl, ?_⟩
      by_cases h1 : wy < 4
      · rw [decide_eq_true h1]
        refine ⟨.ref O, rfl, O, _, rfl, .inl (SqL.of g.hO), .int most, rfl, _, _, rfl, rfl, _, rfl, ?_⟩
        by_cases h2 : (((A.map V.ref).length : Nat) : Int) < most
        · rw [decide_eq_true h2]
          refine ⟨.ref O, rfl, .inl ⟨rfl, _, SqL.of g.hO⟩, .ref T, rfl, T, us, rfl, .inl (SqL.of g.hT), by show 1 ≤ sizeLine; decide, fun p np => ?_⟩
          have g1 := g.more np [((us.length : Nat) : Int)]
          refine ⟨O, _, _, rfl, rfl, same_new np _ _ g.hO, small1000 (by omega), ?_⟩
          have hx : upd (upd H7 p (.lst ([((us.length : Nat) : Int)].map V.int))) O (.lst (A.map V.ref ++ [.ref p])) = upd (upd H7 p (.lst [V.int (us.length : Nat)])) O (.lst (A.map V.ref ++ [.ref p])) := rfl
          rw [hx] at g1
          generalize upd (upd H7 p (.lst [V.int (us.length : Nat)])) O (.lst (A.map V.ref ++ [.ref p])) = H8 at g1
          obtain ⟨ra1, row1, ea1, e11, er1, hra1⟩ := g1.at' (p := pl) p0 (by rw [List.length_append]; show pl < ((rs.length + 1 : Nat) : Int); omega)
          have er1' := er1
          rw [List.getElem?_append_left (by omega), er] at er1'
          cases er1'
          refine ⟨.ref O, rfl, .int pl, rfl, O, _, pl, .ref ra1, rfl, rfl, SqL.of g1.hO, e11, .inl ⟨rfl, _, SqL.of hra1⟩, .int at', rfl, .ref T, rfl, T, us, rfl, .inl (SqL.of g1.hT), ra1, _, at', _, rfl, rfl, hra1, small1000 (by rw [List.length_map]; omega), t0, by omega, ?_⟩
          rw [insR_map]
          have g2 := g1.row ea1 hra1 (insR row at'.toNat (us.length : Nat))
          generalize upd H8 ra1 (.lst ((insR row at'.toNat (us.length : Nat)).map V.int)) = H9 at g2
          refine ⟨.ref T, rfl, .inl ⟨rfl, _, SqL.of g2.hT⟩, .int pl, rfl, .ref O, rfl, O, _, rfl, .inl (SqL.of g2.hO), _, _, rfl, rfl, by show 2 ≤ sizeLine; decide, fun c nc => ?_⟩
          have sc := same_new (o := .tup [.int pl, .int ((((A ++ [p]).map V.ref).length : Nat) - 1)]) nc
          have g3 := (g2.same sc).tie (c := c) upd_same
          refine ⟨T, us, _, rfl, rfl, (g2.same sc).hT, small1000 (by omega), ?_⟩
          have el : ((((A ++ [p]).map V.ref).length : Nat) : Int) - 1 = (rs.length : Int) := by
            rw [List.length_map, List.length_append, lA]
            show (((rs.length + 1 : Nat)) : Int) - 1 = _
            omega
          refine ⟨_, _, _, _, _, _, _, us ++ [.ref c], _, A ++ [p], _, rfl, g3, ?_, by rw [List.length_set, List.length_append]; show 1 ≤ _ + 1; omega, by rw [List.length_set, List.length_append]; show _ + 1 ≤ 50; omega, by rw [List.length_append]; show _ + 1 ≤ _; omega⟩
          rw [el]
          have no : ∀ {r : List Int}, r ∈ rs → ((us.length : Nat) : Int) ∉ r := fun hr z => by
            have := (od.row_in hr _ z).2
            omega
          have lk := od.more.link (rs' := (rs ++ [[((us.length : Nat) : Int)]]).set pl.toNat (insR row at'.toNat (us.length : Nat))) (p := pl.toNat) (q := rs.length) (by rw [List.length_set, List.length_append, List.length_append]; rfl) (by rw [List.length_append]; show _ < _ + 1; omega) (by rw [List.length_append]; show _ < _ + 1; omega) (by omega) (fun i' row' e' => ?_)
          · rw [show ((pl.toNat : Nat) : Int) = pl by omega] at lk
            exact lk
          · by_cases c2 : pl.toNat = i'
            · subst c2
              rw [List.getElem?_set_self (by rw [List.length_append]; show _ < _ + 1; omega)] at e'
              cases e'
              exact ⟨row, by rw [List.getElem?_append_left (by omega)]; exact er, fun _ => ⟨fun x => by rw [insR_mem, lu], insR_nd (od.nd _ (List.mem_of_getElem? er)) (no (List.mem_of_getElem? er))⟩, fun z => (z (.inl rfl)).elim⟩
            · rw [List.getElem?_set_ne c2] at e'
              by_cases c3 : i' < rs.length
              · rw [List.getElem?_append_left c3] at e'
                exact ⟨row', by rw [List.getElem?_append_left c3]; exact e', fun z => (z.elim (fun y => c2 y.symm) fun y => by omega).elim, fun _ => rfl⟩
              · have hl := (List.getElem?_eq_some_iff.mp e').1
                rw [List.length_append] at hl
                have hl : i' < rs.length + 1 := hl
                obtain rfl : i' = rs.length := by omega
                rw [List.getElem?_append_right (Nat.le_refl _), Nat.sub_self] at e'
                cases e'
                exact ⟨[], by rw [List.getElem?_append_right (Nat.le_refl _), Nat.sub_self]; rfl, fun _ => ⟨fun x => by rw [← lu]; simp, by simp⟩, fun z => (z (.inr rfl)).elim⟩
        · rw [decide_eq_false h2]
          refine ⟨.int wy, rfl, rfl, false, (by rw [dec_intF, decide_eq_false (show ¬ wy = 4 by omega)]), ?_⟩
          refine ⟨.ref T, rfl, .ref O, rfl, .int pl, rfl, .int at', rfl, T, O, pl, at', us, es, A, rs, rfl, g.hT, g.hu, g.hO, g.rw', od, by omega, by omega, ⟨p0, p1⟩, ⟨t0, by omega⟩, fun L ws cs H8 s8 nL hL hw hc lc => ?_⟩
          have lw := Paired.length hw
          refine ⟨L, rfl, ⟨ws, SqL.of hL⟩, fun Z nZ => ?_⟩
          refine lc_list (xs := ws) (fun j H' => ∃ (us' : List V) (cs' : List (Int × Int)), H' Z = some (.lst us') ∧ Paired (PrV H') us' cs' ∧ (∀ c ∈ cs', c.1 ≠ pl ∧ (0 ≤ c.1 ∧ c.1 < (rs.length : Int)) ∧ (0 ≤ c.2 ∧ c.2 ≤ 1000)) ∧ us'.length ≤ j ∧ Same H8 H') ⟨[], [], upd_same, .nil, fun c hc => (by cases hc), Nat.le_refl _, same_new nZ⟩ (fun j H' _ h => by
            obtain ⟨_, _, _, _, _, _, s⟩ := h
            exact SqL.of (s _ _ hL)) ?_ ?_
          · rintro j x H9 ex ⟨us', cs', hZ, hu', hc', lu', s9⟩
            have jl := (List.getElem?_eq_some_iff.mp ex).1
            obtain ⟨q0, eq0, c, rfl, hcc⟩ := Paired.at hw ex
            refine ⟨rfl, .ref c, rfl, c, _, 0, .int q0.1, rfl, rfl, SqT.of (s9 _ _ hcc), rfl, .int pl, rfl, rfl, _, rfl, ?_⟩
            rw [dec_intF]
            by_cases e : q0.1 = pl
            · rw [decide_eq_true e]
              exact ⟨us', cs', hZ, hu', hc', by omega, s9⟩
            · rw [decide_eq_false e]
              have tk := tk_lst (ys := us' ++ [.ref c]) hZ
              refine ⟨.ref c, rfl, _, hZ, small1000 (by omega), us' ++ [.ref c], cs' ++ [q0], upd_same, Paired.snoc (pr_tk tk hu') ⟨c, rfl, tk _ _ (s9 _ _ hcc)⟩, fun z hz => ?_, by rw [List.length_append]; show _ + 1 ≤ _; omega, Same.mut s9 nZ⟩
              rcases List.mem_append.mp hz with h | h
              · exact hc' z h
              · rw [List.mem_singleton.mp h]
                exact ⟨e, hc q0 (List.mem_of_getElem? eq0)⟩
          · rintro H9 ⟨us', cs', hZ, hu', hc', lu', s9⟩
            have g9 := (g.same s8).same s9
            refine ⟨.ref Z, rfl, Nat.zero_le _, fun E nE => ⟨Z, E, _, rfl, rfl, SqL.of (same_new nE _ _ hZ), SqL.of upd_same, _, rfl, ?_⟩⟩
            have sE := same_new (o := .lst []) nE
            have gE := g9.same sE
            have hZE := sE _ _ hZ
            have huE := pr_tk (Same.tk sE) hu'
            generalize upd H9 E (.lst []) = H10 at gE hZE huE
            by_cases en : us' = []
            · rw [en]
              exact ⟨_, _, _, _, _, _, _, us, es, A, rs, rfl, gE, od, r1, r50, by omega⟩
            · rw [show (!us'.isEmpty) = true from by cases us'; exact absurd rfl en; rfl]
              have lpos := List.length_pos_iff.mpr en
              have Zd : Z ≠ d := (g.dk.same s8).ned nZ
              refine ⟨.ref Z, rfl, .ref d, rfl, .ref Z, rfl, Z, us', rfl, .inl (SqL.of hZE), d, _, rfl, gE.dk, by omega, by omega, fun v H11 v0 v1 D11 K11 => ?_⟩
              have g11 := gE.take K11 D11
              have hu11 := pr_tk (gE.dk.tk K11) huE
              obtain ⟨u, e2, e3⟩ := getI v0 v1
              obtain ⟨q0, eq0, c, rfl, hcc⟩ := Paired.at hu11 e3
              obtain ⟨qn, qb, qa⟩ := hc' q0 (List.mem_of_getElem? eq0)
              refine ⟨Z, us', v, .ref c, rfl, rfl, SqL.of (K11 _ _ Zd Zd hZE), e2, c, _, rfl, SqT.of hcc, rfl, _, _, rfl, _, _, rfl, rfl, ?_⟩
              clear gE g9 hu11 huE hZE hcc D11 K11
              obtain ⟨ra1, row1, ea1, e11, er1, hra1⟩ := g11.at' p0 p1
              rw [er] at er1
              cases er1
              refine ⟨.ref O, rfl, .int pl, rfl, O, _, pl, .ref ra1, rfl, rfl, SqL.of g11.hO, e11, .inl ⟨rfl, _, SqL.of hra1⟩, .int at', rfl, .ref T, rfl, T, us, rfl, .inl (SqL.of g11.hT), ra1, _, at', _, rfl, rfl, hra1, small1000 (by rw [List.length_map]; omega), t0, by omega, ?_⟩
              rw [insR_map]
              have g12 := g11.row ea1 hra1 (insR row at'.toNat (us.length : Nat))
              generalize upd H11 ra1 (.lst ((insR row at'.toNat (us.length : Nat)).map V.int)) = H12 at g12
              obtain ⟨rb, rowb, eb, e1b, erb, hrb⟩ := g12.at' qb.1 (by rw [List.length_set]; exact qb.2)
              have ne1 : pl.toNat ≠ q0.1.toNat := by omega
              have erb' := erb
              rw [List.getElem?_set_ne ne1] at erb'
              have lrb := od.row_len (List.mem_of_getElem? erb')
              refine ⟨.ref O, rfl, .int q0.1, rfl, O, _, q0.1, .ref rb, rfl, rfl, SqL.of g12.hO, e1b, .inl ⟨rfl, _, SqL.of hrb⟩, .int q0.2, rfl, .ref T, rfl, T, us, rfl, .inl (SqL.of g12.hT), rb, _, q0.2, _, rfl, rfl, hrb, small1000 (by rw [List.length_map]; omega), qa.1, by omega, ?_⟩
              rw [insR_map]
              have g13 := g12.row eb hrb (insR rowb q0.2.toNat (us.length : Nat))
              generalize upd H12 rb (.lst ((insR rowb q0.2.toNat (us.length : Nat)).map V.int)) = H13 at g13
              refine ⟨.ref T, rfl, .inl ⟨rfl, _, SqL.of g13.hT⟩, .int pl, rfl, .int q0.1, rfl, by show 2 ≤ sizeLine; decide, fun c' nc => ?_⟩
              have sc := same_new (o := .tup [.int pl, .int q0.1]) nc
              have g14 := (g13.same sc).tie (c := c') upd_same
              refine ⟨T, us, _, rfl, rfl, (g13.same sc).hT, small1000 (by omega), ?_⟩
              refine ⟨_, _, _, _, _, _, _, us ++ [.ref c'], es ++ [(pl, q0.1)], A, _, rfl, g14, ?_, by rw [List.length_set, List.length_set]; exact r1, by rw [List.length_set, List.length_set]; exact r50, by rw [List.length_append]; show _ + 1 ≤ _; omega⟩
              have lk := od.link (rs' := (rs.set pl.toNat (insR row at'.toNat (us.length : Nat))).set q0.1.toNat (insR rowb q0.2.toNat (us.length : Nat))) (p := pl.toNat) (q := q0.1.toNat) (by rw [List.length_set, List.length_set]) (by omega) (by omega) ne1 (fun i' row' e' => ?_)
              · rw [show ((pl.toNat : Nat) : Int) = pl by omega, show ((q0.1.toNat : Nat) : Int) = q0.1 by omega] at lk
                exact lk
              · have no : ∀ {r : List Int}, r ∈ rs → ((us.length : Nat) : Int) ∉ r := fun hr z => by
                  have := (od.row_in hr _ z).2
                  omega
                by_cases c1 : q0.1.toNat = i'
                · subst c1
                  rw [List.getElem?_set_self (by rw [List.length_set]; omega)] at e'
                  cases e'
                  refine ⟨rowb, erb', fun _ => ⟨fun x => by rw [insR_mem, lu], insR_nd (od.nd _ (List.mem_of_getElem? erb')) (no (List.mem_of_getElem? erb'))⟩, fun z => (z (.inr rfl)).elim⟩
                · rw [List.getElem?_set_ne c1] at e'
                  by_cases c2 : pl.toNat = i'
                  · subst c2
                    rw [List.getElem?_set_self (by omega)] at e'
                    cases e'
                    exact ⟨row, er, fun _ => ⟨fun x => by rw [insR_mem, lu], insR_nd (od.nd _ (List.mem_of_getElem? er)) (no (List.mem_of_getElem? er))⟩, fun z => (z (.inl rfl)).elim⟩
                  · rw [List.getElem?_set_ne c2] at e'
                    exact ⟨row', e', fun z => (z.elim (fun y => c2 y.symm) fun y => c1 y.symm).elim, fun _ => rfl⟩
      · rw [decide_eq_false h1]
        by_cases h3 : wy = 4
        · refine ⟨.int wy, rfl, rfl, true, (by rw [dec_intF, decide_eq_true h3]), ?_⟩
          refine ⟨.ref O, rfl, O, _, rfl, .inl (SqL.of g.hO), .int most, rfl, _, _, rfl, rfl, _, rfl, ?_⟩
          by_cases h2 : (((A.map V.ref).length : Nat) : Int) < most
          · rw [decide_eq_true h2]
            refine ⟨.ref O, rfl, .inl ⟨rfl, _, SqL.of g.hO⟩, Nat.zero_le _, fun p np => ?_⟩
            refine ⟨O, _, _, rfl, rfl, same_new np _ _ g.hO, small1000 (by omega), ?_⟩
            exact ⟨_, _, _, _, _, _, _, us, es, A ++ [p], rs ++ [[]], rfl, g.more np [], od.more, by rw [List.length_append]; show 1 ≤ _ + 1; omega, by rw [List.length_append]; show _ + 1 ≤ 50; omega, by omega⟩
          · rw [decide_eq_false h2]
            refine ⟨.ref T, rfl, .ref O, rfl, .int pl, rfl, .int at', rfl, T, O, pl, at', us, es, A, rs, rfl, g.hT, g.hu, g.hO, g.rw', od, by omega, by omega, ⟨p0, p1⟩, ⟨t0, by omega⟩, fun L ws cs H8 s8 nL hL hw hc lc => ?_⟩
            have lw := Paired.length hw
            refine ⟨L, rfl, ⟨ws, SqL.of hL⟩, fun Z nZ => ?_⟩
            refine lc_list (xs := ws) (fun j H' => ∃ (us' : List V) (cs' : List (Int × Int)), H' Z = some (.lst us') ∧ Paired (PrV H') us' cs' ∧ (∀ c ∈ cs', c.1 ≠ pl ∧ (0 ≤ c.1 ∧ c.1 < (rs.length : Int)) ∧ (0 ≤ c.2 ∧ c.2 ≤ 1000)) ∧ us'.length ≤ j ∧ Same H8 H') ⟨[], [], upd_same, .nil, fun c hc => (by cases hc), Nat.le_refl _, same_new nZ⟩ (fun j H' _ h => by
              obtain ⟨_, _, _, _, _, _, s⟩ := h
              exact SqL.of (s _ _ hL)) ?_ ?_
            · rintro j x H9 ex ⟨us', cs', hZ, hu', hc', lu', s9⟩
              have jl := (List.getElem?_eq_some_iff.mp ex).1
              obtain ⟨q0, eq0, c, rfl, hcc⟩ := Paired.at hw ex
              refine ⟨rfl, .ref c, rfl, c, _, 0, .int q0.1, rfl, rfl, SqT.of (s9 _ _ hcc), rfl, .int pl, rfl, rfl, _, rfl, ?_⟩
              rw [dec_intF]
              by_cases e : q0.1 = pl
              · rw [decide_eq_true e]
                exact ⟨us', cs', hZ, hu', hc', by omega, s9⟩
              · rw [decide_eq_false e]
                have tk := tk_lst (ys := us' ++ [.ref c]) hZ
                refine ⟨.ref c, rfl, _, hZ, small1000 (by omega), us' ++ [.ref c], cs' ++ [q0], upd_same, Paired.snoc (pr_tk tk hu') ⟨c, rfl, tk _ _ (s9 _ _ hcc)⟩, fun z hz => ?_, by rw [List.length_append]; show _ + 1 ≤ _; omega, Same.mut s9 nZ⟩
                rcases List.mem_append.mp hz with h | h
                · exact hc' z h
                · rw [List.mem_singleton.mp h]
                  exact ⟨e, hc q0 (List.mem_of_getElem? eq0)⟩
            · rintro H9 ⟨us', cs', hZ, hu', hc', lu', s9⟩
              have g9 := (g.same s8).same s9
              refine ⟨.ref Z, rfl, Nat.zero_le _, fun E nE => ⟨Z, E, _, rfl, rfl, SqL.of (same_new nE _ _ hZ), SqL.of upd_same, _, rfl, ?_⟩⟩
              have sE := same_new (o := .lst []) nE
              have gE := g9.same sE
              have hZE := sE _ _ hZ
              have huE := pr_tk (Same.tk sE) hu'
              generalize upd H9 E (.lst []) = H10 at gE hZE huE
              by_cases en : us' = []
              · rw [en]
                exact ⟨_, _, _, _, _, _, _, us, es, A, rs, rfl, gE, od, r1, r50, by omega⟩
              · rw [show (!us'.isEmpty) = true from by cases us'; exact absurd rfl en; rfl]
                have lpos := List.length_pos_iff.mpr en
                have Zd : Z ≠ d := (g.dk.same s8).ned nZ
                refine ⟨.ref Z, rfl, .ref d, rfl, .ref Z, rfl, Z, us', rfl, .inl (SqL.of hZE), d, _, rfl, gE.dk, by omega, by omega, fun v H11 v0 v1 D11 K11 => ?_⟩
                have g11 := gE.take K11 D11
                have hu11 := pr_tk (gE.dk.tk K11) huE
                obtain ⟨u, e2, e3⟩ := getI v0 v1
                obtain ⟨q0, eq0, c, rfl, hcc⟩ := Paired.at hu11 e3
                obtain ⟨qn, qb, qa⟩ := hc' q0 (List.mem_of_getElem? eq0)
                refine ⟨Z, us', v, .ref c, rfl, rfl, SqL.of (K11 _ _ Zd Zd hZE), e2, c, _, rfl, SqT.of hcc, rfl, _, _, rfl, _, _, rfl, rfl, ?_⟩
                clear gE g9 hu11 huE hZE hcc D11 K11
                obtain ⟨ra1, row1, ea1, e11, er1, hra1⟩ := g11.at' p0 p1
                rw [er] at er1
                cases er1
                refine ⟨.ref O, rfl, .int pl, rfl, O, _, pl, .ref ra1, rfl, rfl, SqL.of g11.hO, e11, .inl ⟨rfl, _, SqL.of hra1⟩, .int at', rfl, .ref T, rfl, T, us, rfl, .inl (SqL.of g11.hT), ra1, _, at', _, rfl, rfl, hra1, small1000 (by rw [List.length_map]; omega), t0, by omega, ?_⟩
                rw [insR_map]
                have g12 := g11.row ea1 hra1 (insR row at'.toNat (us.length : Nat))
                generalize upd H11 ra1 (.lst ((insR row at'.toNat (us.length : Nat)).map V.int)) = H12 at g12
                obtain ⟨rb, rowb, eb, e1b, erb, hrb⟩ := g12.at' qb.1 (by rw [List.length_set]; exact qb.2)
                have ne1 : pl.toNat ≠ q0.1.toNat := by omega
                have erb' := erb
                rw [List.getElem?_set_ne ne1] at erb'
                have lrb := od.row_len (List.mem_of_getElem? erb')
                refine ⟨.ref O, rfl, .int q0.1, rfl, O, _, q0.1, .ref rb, rfl, rfl, SqL.of g12.hO, e1b, .inl ⟨rfl, _, SqL.of hrb⟩, .int q0.2, rfl, .ref T, rfl, T, us, rfl, .inl (SqL.of g12.hT), rb, _, q0.2, _, rfl, rfl, hrb, small1000 (by rw [List.length_map]; omega), qa.1, by omega, ?_⟩
                rw [insR_map]
                have g13 := g12.row eb hrb (insR rowb q0.2.toNat (us.length : Nat))
                generalize upd H12 rb (.lst ((insR rowb q0.2.toNat (us.length : Nat)).map V.int)) = H13 at g13
                refine ⟨.ref T, rfl, .inl ⟨rfl, _, SqL.of g13.hT⟩, .int pl, rfl, .int q0.1, rfl, by show 2 ≤ sizeLine; decide, fun c' nc => ?_⟩
                have sc := same_new (o := .tup [.int pl, .int q0.1]) nc
                have g14 := (g13.same sc).tie (c := c') upd_same
                refine ⟨T, us, _, rfl, rfl, (g13.same sc).hT, small1000 (by omega), ?_⟩
                refine ⟨_, _, _, _, _, _, _, us ++ [.ref c'], es ++ [(pl, q0.1)], A, _, rfl, g14, ?_, by rw [List.length_set, List.length_set]; exact r1, by rw [List.length_set, List.length_set]; exact r50, by rw [List.length_append]; show _ + 1 ≤ _; omega⟩
                have lk := od.link (rs' := (rs.set pl.toNat (insR row at'.toNat (us.length : Nat))).set q0.1.toNat (insR rowb q0.2.toNat (us.length : Nat))) (p := pl.toNat) (q := q0.1.toNat) (by rw [List.length_set, List.length_set]) (by omega) (by omega) ne1 (fun i' row' e' => ?_)
                · rw [show ((pl.toNat : Nat) : Int) = pl by omega, show ((q0.1.toNat : Nat) : Int) = q0.1 by omega] at lk
                  exact lk
                · have no : ∀ {r : List Int}, r ∈ rs → ((us.length : Nat) : Int) ∉ r := fun hr z => by
                    have := (od.row_in hr _ z).2
                    omega
                  by_cases c1 : q0.1.toNat = i'
                  · subst c1
                    rw [List.getElem?_set_self (by rw [List.length_set]; omega)] at e'
                    cases e'
                    refine ⟨rowb, erb', fun _ => ⟨fun x => by rw [insR_mem, lu], insR_nd (od.nd _ (List.mem_of_getElem? erb')) (no (List.mem_of_getElem? erb'))⟩, fun z => (z (.inr rfl)).elim⟩
                  · rw [List.getElem?_set_ne c1] at e'
                    by_cases c2 : pl.toNat = i'
                    · subst c2
                      rw [List.getElem?_set_self (by omega)] at e'
                      cases e'
                      exact ⟨row, er, fun _ => ⟨fun x => by rw [insR_mem, lu], insR_nd (od.nd _ (List.mem_of_getElem? er)) (no (List.mem_of_getElem? er))⟩, fun z => (z (.inl rfl)).elim⟩
                    · rw [List.getElem?_set_ne c2] at e'
                      exact ⟨row', e', fun z => (z.elim (fun y => c2 y.symm) fun y => c1 y.symm).elim, fun _ => rfl⟩
        · refine ⟨.int wy, rfl, rfl, false, (by rw [dec_intF, decide_eq_false h3]), ?_⟩
          refine ⟨.ref T, rfl, .ref O, rfl, .int pl, rfl, .int at', rfl, T, O, pl, at', us, es, A, rs, rfl, g.hT, g.hu, g.hO, g.rw', od, by omega, by omega, ⟨p0, p1⟩, ⟨t0, by omega⟩, fun L ws cs H8 s8 nL hL hw hc lc => ?_⟩
          have lw := Paired.length hw
          refine ⟨L, rfl, ⟨ws, SqL.of hL⟩, fun Z nZ => ?_⟩
          refine lc_list (xs := ws) (fun j H' => ∃ (us' : List V) (cs' : List (Int × Int)), H' Z = some (.lst us') ∧ Paired (PrV H') us' cs' ∧ (∀ c ∈ cs', c.1 ≠ pl ∧ (0 ≤ c.1 ∧ c.1 < (rs.length : Int)) ∧ (0 ≤ c.2 ∧ c.2 ≤ 1000)) ∧ us'.length ≤ j ∧ Same H8 H') ⟨[], [], upd_same, .nil, fun c hc => (by cases hc), Nat.le_refl _, same_new nZ⟩ (fun j H' _ h => by
            obtain ⟨_, _, _, _, _, _, s⟩ := h
            exact SqL.of (s _ _ hL)) ?_ ?_
          · rintro j x H9 ex ⟨us', cs', hZ, hu', hc', lu', s9⟩
            have jl := (List.getElem?_eq_some_iff.mp ex).1
            obtain ⟨q0, eq0, c, rfl, hcc⟩ := Paired.at hw ex
            refine ⟨rfl, .ref c, rfl, c, _, 0, .int q0.1, rfl, rfl, SqT.of (s9 _ _ hcc), rfl, .int pl, rfl, rfl, _, rfl, ?_⟩
            rw [dec_intF]
            by_cases e : q0.1 = pl
            · rw [decide_eq_true e]
              exact ⟨us', cs', hZ, hu', hc', by omega, s9⟩
            · rw [decide_eq_false e]
              have tk := tk_lst (ys := us' ++ [.ref c]) hZ
              refine ⟨.ref c, rfl, _, hZ, small1000 (by omega), us' ++ [.ref c], cs' ++ [q0], upd_same, Paired.snoc (pr_tk tk hu') ⟨c, rfl, tk _ _ (s9 _ _ hcc)⟩, fun z hz => ?_, by rw [List.length_append]; show _ + 1 ≤ _; omega, Same.mut s9 nZ⟩
              rcases List.mem_append.mp hz with h | h
              · exact hc' z h
              · rw [List.mem_singleton.mp h]
                exact ⟨e, hc q0 (List.mem_of_getElem? eq0)⟩
          · rintro H9 ⟨us', cs', hZ, hu', hc', lu', s9⟩
            have g9 := (g.same s8).same s9
            refine ⟨.ref Z, rfl, Nat.zero_le _, fun E nE => ⟨Z, E, _, rfl, rfl, SqL.of (same_new nE _ _ hZ), SqL.of upd_same, _, rfl, ?_⟩⟩
            have sE := same_new (o := .lst []) nE
            have gE := g9.same sE
            have hZE := sE _ _ hZ
            have huE := pr_tk (Same.tk sE) hu'
            generalize upd H9 E (.lst []) = H10 at gE hZE huE
            by_cases en : us' = []
            · rw [en]
              exact ⟨_, _, _, _, _, _, _, us, es, A, rs, rfl, gE, od, r1, r50, by omega⟩
            · rw [show (!us'.isEmpty) = true from by cases us'; exact absurd rfl en; rfl]
              have lpos := List.length_pos_iff.mpr en
              have Zd : Z ≠ d := (g.dk.same s8).ned nZ
              refine ⟨.ref Z, rfl, .ref d, rfl, .ref Z, rfl, Z, us', rfl, .inl (SqL.of hZE), d, _, rfl, gE.dk, by omega, by omega, fun v H11 v0 v1 D11 K11 => ?_⟩
              have g11 := gE.take K11 D11
              have hu11 := pr_tk (gE.dk.tk K11) huE
              obtain ⟨u, e2, e3⟩ := getI v0 v1
              obtain ⟨q0, eq0, c, rfl, hcc⟩ := Paired.at hu11 e3
              obtain ⟨qn, qb, qa⟩ := hc' q0 (List.mem_of_getElem? eq0)
              refine ⟨Z, us', v, .ref c, rfl, rfl, SqL.of (K11 _ _ Zd Zd hZE), e2, c, _, rfl, SqT.of hcc, rfl, _, _, rfl, _, _, rfl, rfl, ?_⟩
              clear gE g9 hu11 huE hZE hcc D11 K11
              obtain ⟨ra1, row1, ea1, e11, er1, hra1⟩ := g11.at' p0 p1
              rw [er] at er1
              cases er1
              refine ⟨.ref O, rfl, .int pl, rfl, O, _, pl, .ref ra1, rfl, rfl, SqL.of g11.hO, e11, .inl ⟨rfl, _, SqL.of hra1⟩, .int at', rfl, .ref T, rfl, T, us, rfl, .inl (SqL.of g11.hT), ra1, _, at', _, rfl, rfl, hra1, small1000 (by rw [List.length_map]; omega), t0, by omega, ?_⟩
              rw [insR_map]
              have g12 := g11.row ea1 hra1 (insR row at'.toNat (us.length : Nat))
              generalize upd H11 ra1 (.lst ((insR row at'.toNat (us.length : Nat)).map V.int)) = H12 at g12
              obtain ⟨rb, rowb, eb, e1b, erb, hrb⟩ := g12.at' qb.1 (by rw [List.length_set]; exact qb.2)
              have ne1 : pl.toNat ≠ q0.1.toNat := by omega
              have erb' := erb
              rw [List.getElem?_set_ne ne1] at erb'
              have lrb := od.row_len (List.mem_of_getElem? erb')
              refine ⟨.ref O, rfl, .int q0.1, rfl, O, _, q0.1, .ref rb, rfl, rfl, SqL.of g12.hO, e1b, .inl ⟨rfl, _, SqL.of hrb⟩, .int q0.2, rfl, .ref T, rfl, T, us, rfl, .inl (SqL.of g12.hT), rb, _, q0.2, _, rfl, rfl, hrb, small1000 (by rw [List.length_map]; omega), qa.1, by omega, ?_⟩
              rw [insR_map]
              have g13 := g12.row eb hrb (insR rowb q0.2.toNat (us.length : Nat))
              generalize upd H12 rb (.lst ((insR rowb q0.2.toNat (us.length : Nat)).map V.int)) = H13 at g13
              refine ⟨.ref T, rfl, .inl ⟨rfl, _, SqL.of g13.hT⟩, .int pl, rfl, .int q0.1, rfl, by show 2 ≤ sizeLine; decide, fun c' nc => ?_⟩
              have sc := same_new (o := .tup [.int pl, .int q0.1]) nc
              have g14 := (g13.same sc).tie (c := c') upd_same
              refine ⟨T, us, _, rfl, rfl, (g13.same sc).hT, small1000 (by omega), ?_⟩
              refine ⟨_, _, _, _, _, _, _, us ++ [.ref c'], es ++ [(pl, q0.1)], A, _, rfl, g14, ?_, by rw [List.length_set, List.length_set]; exact r1, by rw [List.length_set, List.length_set]; exact r50, by rw [List.length_append]; show _ + 1 ≤ _; omega⟩
              have lk := od.link (rs' := (rs.set pl.toNat (insR row at'.toNat (us.length : Nat))).set q0.1.toNat (insR rowb q0.2.toNat (us.length : Nat))) (p := pl.toNat) (q := q0.1.toNat) (by rw [List.length_set, List.length_set]) (by omega) (by omega) ne1 (fun i' row' e' => ?_)
              · rw [show ((pl.toNat : Nat) : Int) = pl by omega, show ((q0.1.toNat : Nat) : Int) = q0.1 by omega] at lk
                exact lk
              · have no : ∀ {r : List Int}, r ∈ rs → ((us.length : Nat) : Int) ∉ r := fun hr z => by
                  have := (od.row_in hr _ z).2
                  omega
                by_cases c1 : q0.1.toNat = i'
                · subst c1
                  rw [List.getElem?_set_self (by rw [List.length_set]; omega)] at e'
                  cases e'
                  refine ⟨rowb, erb', fun _ => ⟨fun x => by rw [insR_mem, lu], insR_nd (od.nd _ (List.mem_of_getElem? erb')) (no (List.mem_of_getElem? erb'))⟩, fun z => (z (.inr rfl)).elim⟩
                · rw [List.getElem?_set_ne c1] at e'
                  by_cases c2 : pl.toNat = i'
                  · subst c2
                    rw [List.getElem?_set_self (by omega)] at e'
                    cases e'
                    exact ⟨row, er, fun _ => ⟨fun x => by rw [insR_mem, lu], insR_nd (od.nd _ (List.mem_of_getElem? er)) (no (List.mem_of_getElem? er))⟩, fun z => (z (.inl rfl)).elim⟩
                  · rw [List.getElem?_set_ne c2] at e'
                    exact ⟨row', e', fun z => (z.elim (fun y => c2 y.symm) fun y => c1 y.symm).elim, fun _ => rfl⟩
    · rintro σ' H4 ⟨y5, y6, y7, y8, y9, y11, y12, us, es, A, rs, rfl, g, od, r1, r50, le⟩
      refine ⟨.ref T, rfl, .ref O, rfl, by show 2 ≤ sizeLine; decide, fun r nr => ?_⟩
      exact q r T O us es A rs _ upd_same (g.same (same_new nr)) od r1 r50 (by omega)
end
/-! ### flats: turned, web, crossed -/
/-! ### the law: other webs -/
theorem cut_take {xs : List V} {k : Nat} (h : k ≤ xs.length) : cutV xs none (some (k : Int)) = xs.take k := by
  unfold cutV
  rw [HT.sIx_none, HT.sIx_nat, Nat.min_eq_left h, List.drop_zero]
  rfl
theorem cut_drop {xs : List V} {k : Nat} (h : k ≤ xs.length) : cutV xs (some (k : Int)) none = xs.drop k := by
  unfold cutV
  rw [HT.sIx_none, HT.sIx_nat, Nat.min_eq_left h]
  exact List.take_of_length_le (by rw [List.length_drop]; omega)
theorem pickK (v : Int) (h0 : 0 ≤ v) (h1 : v < 2) : ∃ fo : Bool, atI [V.str "friend", V.str "foe"] v = some (.str (kindS fo)) := by
  have h01 : v = 0 ∨ v = 1 := by omega
  rcases h01 with e | e <;> subst e
  · exact ⟨false, rfl⟩
  · exact ⟨true, rfl⟩
theorem Ord.perm {rs rs' : List (List Int)} {es : List (Int × Int)} (h : Ord rs es) (hl : rs'.length = rs.length) (each : ∀ (i : Nat) (row' : List Int), rs'[i]? = some row' → ∃ row, rs[i]? = some row ∧ row'.Perm row) : Ord rs' es := by
  refine ⟨fun e he => by rw [hl]; exact h.ends e he, fun row hr => ?_, fun i row e x => ?_⟩
  · obtain ⟨i, hi⟩ := List.getElem?_of_mem hr
    obtain ⟨row0, e0, p⟩ := each i row hi
    exact p.nodup_iff.mpr (h.nd row0 (List.mem_of_getElem? e0))
  · obtain ⟨row0, e0, p⟩ := each i row e
    rw [p.mem_iff]
    exact h.mem i row0 e0 x
def rLenKF (K : PySem.W.Frag) : List V → Hp → VK → Prop := fun xs H Q => ∃ p ys, xs = [V.ref p] ∧ (SqL K H p ys ∨ SqT K H p ys) ∧ Q (V.int (ys.length : Nat)) H
def rotP (row : List Int) (k : Nat) : List Int := row.drop k ++ row.take k
theorem rotP_perm (row : List Int) (k : Nat) : (rotP row k).Perm row := by
  unfold rotP
  refine List.perm_append_comm.trans ?_
  rw [List.take_append_drop]
/-- the ties of a web over so drawn pairs, each one way or the other -/
def TwE (ts : List Tie) (es : List (Int × Int)) : Prop := ts.length = es.length ∧ ∀ (k : Nat) (t : Tie) (e : Int × Int), ts[k]? = some t → es[k]? = some e → (t.one = e.1 ∧ t.other = e.2) ∨ (t.one = e.2 ∧ t.other = e.1)
theorem TwE.snoc {ts : List Tie} {es : List (Int × Int)} (h : TwE ts es) {t : Tie} {e : Int × Int} (j : (t.one = e.1 ∧ t.other = e.2) ∨ (t.one = e.2 ∧ t.other = e.1)) : TwE (ts ++ [t]) (es ++ [e]) := by
  refine ⟨by simp [h.1], fun k t' e' h1 h2 => ?_⟩
  by_cases hk : k < ts.length
  · rw [List.getElem?_append_left hk] at h1
    rw [List.getElem?_append_left (by rw [← h.1]; exact hk)] at h2
    exact h.2 k t' e' h1 h2
  · have hk2 := (List.getElem?_eq_some_iff.mp h1).1
    rw [List.length_append, List.length_singleton] at hk2
    rw [List.getElem?_append_right (by omega), show k - ts.length = 0 by omega] at h1
    rw [List.getElem?_append_right (by rw [← h.1]; omega), show k - es.length = 0 by rw [← h.1]; omega] at h2
    cases h1
    cases h2
    exact j
theorem Grw.oth {H0 H : Hp} {d T O L : Addr} {us xs ys : List V} {es : List (Int × Int)} {A : List Addr} {rs : List (List Int)} (g : Grw H0 d T O H us es A rs) (LA : ∀ a ∈ A, a ≠ L) (LT : T ≠ L) (LO : O ≠ L) (Ld : L ≠ d) (L0 : H0 L = none) (h : H L = some (.lst xs)) : Grw H0 d T O (upd H L (.lst ys)) us es A rs :=
  ⟨by rw [upd_ne LT]; exact g.hT, pr_tk (tk_lst h) g.hu, by rw [upd_ne LO]; exact g.hO, g.rw'.ext fun a ha _ h => by rw [upd_ne (LA a ha)]; exact h, g.TO, g.Td, g.Od, g.T0, g.O0, g.aA, g.dk_ne Ld, g.kp.mut L0⟩
def spTurned : Sp := fun vs H Q _ => ∃ (H0 : Hp) (d T O : Addr) (us : List V) (es : List (Int × Int)) (A : List Addr) (rs : List (List Int)), vs = [.ref d, .ref O] ∧ Grw H0 d T O H us es A rs ∧ Ord rs es ∧ rs.length ≤ 100 ∧ es.length ≤ 200 ∧
  ∀ r vs' rs' H', H' r = some (.tup vs') → Paired (IntsV H') vs' rs' → Ord rs' es → rs'.length = rs.length → Grw H0 d T O H' us es A rs → Kp d d H H' → Q (.ref r) H'
def spWebF : Sp := fun vs H Q _ => ∃ (H0 : Hp) (d T O : Addr) (us : List V) (es : List (Int × Int)) (A : List Addr) (rs : List (List Int)) (n : Int), vs = [.ref d, .ref T, .int n] ∧ Grw H0 d T O H us es A rs ∧ es.length ≤ 200 ∧
  ∀ v ts H', WebAt H' v n ts → TwE ts es → Grw H0 d T O H' us es A rs → Kp d d H H' → Q v H'
def spCrossed : Sp := fun vs H Q _ => ∃ (H0 : Hp) (d T O : Addr) (us : List V) (es : List (Int × Int)) (A : List Addr) (rs : List (List Int)), vs = [.ref d, .ref O] ∧ Grw H0 d T O H us es A rs ∧ Ord rs es ∧ rs.length ≤ 100 ∧ es.length ≤ 200 ∧
  ∀ rs' H', Ord rs' es → rs'.length = rs.length → Grw H0 d T O H' us es A rs' → Q .non H'
section
variable {P : Program} {w : World} {K : PySem.W.Frag} {mg : Str → Option Value} {base : Heap}
set_option maxHeartbeats 2000000 in
theorem ok_l_turned {f : Addr} {fd : FuncData} (F : Fun K "_law_turned" "_law_turned" s_l_turned f fd) (M : Free mg) (D_l_take : Df P w K mg base 2 "_law_take" ["_law_deck_here", "_law_most"] spTake) : FnOk P w K mg base CX0 3 f fd ["_law_deck_here", "_law_orders"] spTurned := by
  obtain ⟨f_l_take, fd_l_take, G_l_take, g_l_take, k_l_take, b_l_take⟩ := D_l_take
  refine F.ok sc_l_turned (fun vs H Q E h => ?_) (fun cdv A outer s H vs Q E hr h => ?_)
  · obtain ⟨H0, d, T, O, us, es, A, rs, rfl, _⟩ := h
    rfl
  · obtain ⟨H0, d, T, O, us, es, A, rs, rfl, g, od, lr, le, q⟩ := h
    refine ⟨_, (pss_cons (ps_set (i := 2) sc_l_turned.nd rfl (.inl rfl) (pe_lst pa_nil))
      (pss_cons (ps_for PassesOwn.never rfl (pi_list (pv 1)) (pg_name (i := 3) sc_l_turned.nd rfl (.inl rfl))
        (pss_cons (ps_set (i := 4) sc_l_turned.nd rfl (.inl rfl) (pe_call G_l_take (hr.mono (by decide)) (by rfl) g_l_take k_l_take b_l_take .nil pass0 (pa_cons (pv 0) (pa_cons (pe_op op_add (pe_callB call_len_seq (by rfl) M.len PySem.boot_len (pa_cons (pv 3) pa_nil)) pe_int) pa_nil))))
        (pss_one (ps_expr (pe_bm PySem.F.plainAttrs_list PySem.F.slot_list_append PySem.F.type_list_append mt_append (pv 2) (pa_cons (pe_callTy call_tuple_of (by rfl) M.tuple (by decide +kernel) (pa_cons (pe_op op_cat (pe_slice sl_list (pv 3) (po_some (pv 4)) po_none) (pe_slice sl_list (pv 3) po_none (po_some (pv 4)))) pa_nil)) pa_nil))))))
      (pss_one (ps_ret (pe_callTy call_tuple_of (by rfl) M.tuple (by decide +kernel) (pa_cons (pv 2) pa_nil)))))), ?_⟩
    have lA := g.rw'.len
    refine ⟨Nat.zero_le _, fun L nL => ?_⟩
    have sL := same_new (o := .lst []) nL
    have hL1 : (upd H L (.lst [])) L = some (.lst []) := upd_same
    have g1 := g.same sL
    have Ld : L ≠ d := g.dk.ned nL
    have K1 : Kp d d H (upd H L (.lst [])) := Same.kp sL
    generalize upd H L (.lst []) = H1 at sL hL1 g1 K1
    refine ⟨.ref O, rfl, O, rfl, ⟨_, SqL.of g1.hO⟩, ?_⟩
    refine for_list (xs := A.map V.ref) (fun i σ' H' => ∃ (y3 y4 : Option V) (vs : List V) (rs' : List (List Int)), σ' = [some (.ref d), some (.ref O), some (.ref L), y3, y4] ∧ H' L = some (.lst vs) ∧ Paired (IntsV H') vs rs' ∧ rs'.length = i ∧ (∀ (j : Nat) (row' : List Int), rs'[j]? = some row' → ∃ row, rs[j]? = some row ∧ row'.Perm row) ∧ Grw H0 d T O H' us es A rs ∧ Kp d d H H') ⟨none, none, [], [], rfl, hL1, .nil, rfl, fun j row' e => by simp at e, g1, K1⟩ (fun i σ' H' _ h => by
      obtain ⟨_, _, _, _, _, _, _, _, _, g, _⟩ := h
      exact SqL.of g.hO) ?_ ?_
    · rintro i x σ' H2 ex ⟨y3, y4, vs, rs', rfl, hL, hv, li, each, g2, K2⟩
      have lv := Paired.length hv
      rw [List.getElem?_map] at ex
      obtain ⟨ra, ea, rfl⟩ := Option.map_eq_some_iff.mp ex
      obtain ⟨row, er, hra⟩ := g2.rw'.each _ _ ea
      have hlt := (List.getElem?_eq_some_iff.mp er).1
      have lrow := od.row_len (List.mem_of_getElem? er)
      have had := g2.aA ra (List.mem_of_getElem? ea)
      refine ⟨.ref d, rfl, .ref ra, rfl, ra, _, rfl, .inl (SqL.of hra), _, _, rfl, rfl, d, _, rfl, g2.dk, by omega, by rw [List.length_map]; omega, fun at' H3 a0 a1 D3 K3 => ?_⟩
      rw [List.length_map] at a1
      have g3 := g2.take K3 D3
      have hra3 := K3 _ _ had.2.2.1 had.2.2.1 hra
      have hL3 := K3 _ _ Ld Ld hL
      have hv3 : Paired (IntsV H3) vs rs' := Paired.mono (fun _ _ x => x.tk (g2.dk.tk K3)) hv
      obtain ⟨k, rfl⟩ : ∃ k : Nat, at' = (k : Int) := ⟨at'.toNat, by omega⟩
      have kl : k ≤ (row.map V.int).length := by rw [List.length_map]; omega
      obtain ⟨c1, hc1⟩ : ∃ c1, c1 = cutV (row.map V.int) (some (k : Int)) none := ⟨_, rfl⟩
      obtain ⟨c2, hc2⟩ : ∃ c2, c2 = cutV (row.map V.int) none (some (k : Int)) := ⟨_, rfl⟩
      have ec : c1 ++ c2 = (rotP row k).map V.int := by
        rw [hc1, hc2, cut_drop kl, cut_take kl]
        unfold rotP
        rw [List.map_append, List.map_drop, List.map_take]
      have lc : c1.length + c2.length ≤ 800 := by
        have h1 := cutV_length (row.map V.int) (some (k : Int)) none
        have h2 := cutV_length (row.map V.int) none (some (k : Int))
        rw [List.length_map] at h1 h2
        rw [hc1, hc2]
        omega
      refine ⟨.ref L, rfl, .inl ⟨rfl, _, SqL.of hL3⟩, .ref ra, rfl, .int k, rfl, k, rfl, ra, _, rfl, SqL.of hra3, fun p1 n1 => ?_⟩
      rw [← hc1]
      have s4 := same_new (o := .lst c1) n1
      refine ⟨.ref ra, rfl, .int k, rfl, k, rfl, ra, _, rfl, SqL.of (s4 _ _ hra3), fun p2 n2 => ?_⟩
      rw [← hc2]
      have s5 := same_new (o := .lst c2) n2
      refine ⟨p1, p2, _, _, rfl, rfl, s5 _ _ upd_same, upd_same, Nat.le_of_lt (small1000 (by omega)), fun p3 n3 => ?_⟩
      · have s6 := same_new (o := .lst (c1 ++ c2)) n3
        refine ⟨p3, _, rfl, .inl ⟨SqL.of upd_same, fun p4 n4 => ?_⟩⟩
        have s7 := same_new (o := .tup (c1 ++ c2)) n4
        have sA := ((s4.trans s5).trans s6).trans s7
        have h4 : (upd (upd (upd (upd H3 p1 (.lst c1)) p2 (.lst c2)) p3 (.lst (c1 ++ c2))) p4 (.tup (c1 ++ c2))) p4 = some (.tup ((rotP row k).map V.int)) := by rw [upd_same, ec]
        generalize upd (upd (upd (upd H3 p1 (.lst c1)) p2 (.lst c2)) p3 (.lst (c1 ++ c2))) p4 (.tup (c1 ++ c2)) = H7 at sA h4
        have hL7 := sA _ _ hL3
        have tk := tk_lst (ys := vs ++ [.ref p4]) hL7
        have g7 := g3.same sA
        have nL0 := g.kp.free nL Ld Ld
        refine ⟨L, vs, _, rfl, rfl, hL7, small1000 (by omega), ?_⟩
        have LA : ∀ a ∈ A, a ≠ L := fun a ha z => by
          obtain ⟨j, ej⟩ := List.getElem?_of_mem ha
          obtain ⟨_, _, e2⟩ := g.rw'.each _ _ ej
          rw [z, nL] at e2
          cases e2
        have LT : T ≠ L := ne_of_none g.hT nL
        have LO : O ≠ L := ne_of_none g.hO nL
        refine ⟨_, _, vs ++ [.ref p4], rs' ++ [rotP row k], rfl, upd_same, Paired.snoc (Paired.mono (fun _ _ x => x.tk ((Same.tk sA).trans tk)) hv3) ⟨p4, rfl, tk _ _ h4⟩, by simp [li], fun j row' e => ?_, ⟨by rw [upd_ne LT]; exact g7.hT, pr_tk tk g7.hu, by rw [upd_ne LO]; exact g7.hO, g7.rw'.ext fun a ha _ h => by rw [upd_ne (LA a ha)]; exact h, g.TO, g.Td, g.Od, g.T0, g.O0, g.aA, g7.dk_ne Ld, g7.kp.mut nL0⟩, (((K2.trans K3).trans (Same.kp sA)).mut nL)⟩
        by_cases hj : j < rs'.length
        · rw [List.getElem?_append_left hj] at e
          exact each j row' e
        · have hj2 := (List.getElem?_eq_some_iff.mp e).1
          rw [List.length_append, List.length_singleton] at hj2
          rw [List.getElem?_append_right (by omega), show j - rs'.length = 0 by omega] at e
          cases e
          rw [show j = i by omega]
          exact ⟨row, er, rotP_perm row k⟩
    · rintro σ' H2 ⟨y3, y4, vs, rs', rfl, hL, hv, li, each, g2, K2⟩
      rw [List.length_map, lA] at li
      refine ⟨.ref L, rfl, L, _, rfl, .inl ⟨SqL.of hL, fun a na => ?_⟩⟩
      have sa := same_new (o := .tup vs) na
      exact q a vs rs' _ upd_same (Paired.mono (fun _ _ x => x.tk (Same.tk sa)) hv) (od.perm li each) li (g2.same sa) (K2.trans (Same.kp sa))
set_option maxHeartbeats 2000000 in
theorem ok_l_web {f : Addr} {fd : FuncData} (F : Fun K "_law_web" "_law_web" s_l_web f fd) (M : Free mg) (D_l_take : Df P w K mg base 2 "_law_take" ["_law_deck_here", "_law_most"] spTake) : FnOk P w K mg base CX0 3 f fd ["_law_deck_here", "_law_ties", "_law_places"] spWebF := by
  obtain ⟨f_l_take, fd_l_take, G_l_take, g_l_take, k_l_take, b_l_take⟩ := D_l_take
  refine F.ok sc_l_web (fun vs H Q E h => ?_) (fun cdv A outer s H vs Q E hr h => ?_)
  · obtain ⟨H0, d, T, O, us, es, A, rs, n, rfl, _⟩ := h
    rfl
  · obtain ⟨H0, d, T, O, us, es, A, rs, n, rfl, g, le, q⟩ := h
    refine ⟨_, (pss_cons (ps_set (i := 3) sc_l_web.nd rfl (.inl rfl) (pe_lst pa_nil))
      (pss_cons (ps_for PassesOwn.never rfl (pi_list (pv 1)) (pg_tup rfl (pgs_cons (pg_name (i := 4) sc_l_web.nd rfl (.inl rfl)) (pgs_cons (pg_name (i := 5) sc_l_web.nd rfl (.inl rfl)) pgs_nil)))
        (pss_cons (ps_set (i := 6) sc_l_web.nd rfl (.inl rfl) (pe_ix ix_list (pe_lst (pa_cons pe_str (pa_cons pe_str pa_nil))) (pe_call G_l_take (hr.mono (by decide)) (by rfl) g_l_take k_l_take b_l_take .nil pass0 (pa_cons (pv 0) (pa_cons pe_int pa_nil))) (fun _ _ => rfl)))
        (pss_one (ps_expr (pe_bm PySem.F.plainAttrs_list PySem.F.slot_list_append PySem.F.type_list_append mt_append (pv 3) (pa_cons (pe_ix ix_list (pe_lst (pa_cons (pe_tup (pa_cons (pv 4) (pa_cons (pv 5) (pa_cons (pv 6) pa_nil)))) (pa_cons (pe_tup (pa_cons (pv 5) (pa_cons (pv 4) (pa_cons (pv 6) pa_nil)))) pa_nil))) (pe_call G_l_take (hr.mono (by decide)) (by rfl) g_l_take k_l_take b_l_take .nil pass0 (pa_cons (pv 0) (pa_cons pe_int pa_nil))) (fun _ _ => rfl)) pa_nil))))))
      (pss_one (ps_ret (pe_tup (pa_cons (pv 2) (pa_cons (pe_callTy call_tuple_of (by rfl) M.tuple (by decide +kernel) (pa_cons (pv 3) pa_nil)) pa_nil))))))), ?_⟩
    have lu : us.length = es.length := Paired.length g.hu
    refine ⟨Nat.zero_le _, fun L nL => ?_⟩
    have sL := same_new (o := .lst []) nL
    have hL1 : (upd H L (.lst [])) L = some (.lst []) := upd_same
    have g1 := g.same sL
    have Ld : L ≠ d := g.dk.ned nL
    have K1 : Kp d d H (upd H L (.lst [])) := Same.kp sL
    have nL0 := g.kp.free nL Ld Ld
    have LA : ∀ a ∈ A, a ≠ L := fun a ha z => by
      obtain ⟨j, ej⟩ := List.getElem?_of_mem ha
      obtain ⟨_, _, e2⟩ := g.rw'.each _ _ ej
      rw [z, nL] at e2
      cases e2
    have LT : T ≠ L := ne_of_none g.hT nL
    have LO : O ≠ L := ne_of_none g.hO nL
    generalize upd H L (.lst []) = H1 at sL hL1 g1 K1
    refine ⟨.ref T, rfl, T, rfl, ⟨_, SqL.of g1.hT⟩, ?_⟩
    refine for_list (xs := us) (fun i σ' H' => ∃ (y4 y5 y6 : Option V) (vs : List V) (ts : List Tie), σ' = [some (.ref d), some (.ref T), some (.int n), some (.ref L), y4, y5, y6] ∧ H' L = some (.lst vs) ∧ Paired (TieV H') vs ts ∧ TwE ts (es.take i) ∧ Grw H0 d T O H' us es A rs ∧ Kp d d H H') ⟨none, none, none, [], [], rfl, hL1, .nil, ⟨rfl, fun k t e h => by simp at h⟩, g1, K1⟩ (fun i σ' H' _ h => by
      obtain ⟨_, _, _, _, _, _, _, _, _, g, _⟩ := h
      exact SqL.of g.hT) ?_ ?_
    · rintro i x σ' H2 ex ⟨y4, y5, y6, vs, ts, rfl, hL, hv, tw, g2, K2⟩
      have lv := Paired.length hv
      obtain ⟨e, ee, c, rfl, hc⟩ := Paired.at g2.hu ex
      have il := (List.getElem?_eq_some_iff.mp ee).1
      have lts := tw.1
      rw [List.length_take] at lts
      refine ⟨c, _, rfl, SqT.of hc, rfl, _, _, rfl, _, _, rfl, rfl, ?_⟩
      refine ⟨by show 2 ≤ sizeLine; decide, fun p np => ?_⟩
      have sp := same_new (o := .lst [.str "friend", .str "foe"]) np
      have g3 := g2.same sp
      have pd := g2.dk.ned np
      refine ⟨.ref d, rfl, d, 2, rfl, g3.dk, by decide, by decide, fun v H3 v0 v1 D3 K3 => ?_⟩
      obtain ⟨fo, ef⟩ := pickK v v0 v1
      refine ⟨p, _, v, _, rfl, rfl, SqL.of (K3 _ _ pd pd upd_same), ef, ?_⟩
      have g4 := g3.take K3 D3
      have hL3 := K3 _ _ Ld Ld (sp _ _ hL)
      have hv3 := ties_tk (g3.dk.tk K3) (ties_tk (Same.tk sp) hv)
      have K23 := (K2.trans (Same.kp sp)).trans K3
      clear g3 sp K3 D3 hv hL g2 np hc
      refine ⟨.ref L, rfl, .inl ⟨rfl, _, SqL.of hL3⟩, .int e.1, rfl, .int e.2, rfl, .str (kindS fo), rfl, by show 3 ≤ sizeLine; decide, fun c1 n1 => ?_⟩
      have s5 := same_new (o := .tup [.int e.1, .int e.2, .str (kindS fo)]) n1
      refine ⟨.int e.2, rfl, .int e.1, rfl, .str (kindS fo), rfl, by show 3 ≤ sizeLine; decide, fun c2 n2 => ?_⟩
      have s6 := same_new (o := .tup [.int e.2, .int e.1, .str (kindS fo)]) n2
      refine ⟨by show 2 ≤ sizeLine; decide, fun p2 np2 => ?_⟩
      have s7 := same_new (o := .lst [.ref c1, .ref c2]) np2
      have h1 := s7 _ _ (s6 _ _ (upd_same (H := H3) (a := c1) (o := .tup [.int e.1, .int e.2, .str (kindS fo)])))
      have h2 := s7 _ _ (upd_same (H := upd H3 c1 (.tup [.int e.1, .int e.2, .str (kindS fo)])) (a := c2) (o := .tup [.int e.2, .int e.1, .str (kindS fo)]))
      have hp2 := upd_same (H := upd (upd H3 c1 (.tup [.int e.1, .int e.2, .str (kindS fo)])) c2 (.tup [.int e.2, .int e.1, .str (kindS fo)])) (a := p2) (o := .lst [.ref c1, .ref c2])
      have s57 := (s5.trans s6).trans s7
      have p2d : p2 ≠ d := ((g4.dk.same s5).same s6).ned np2
      have g5 := g4.same s57
      generalize upd (upd (upd H3 c1 (.tup [.int e.1, .int e.2, .str (kindS fo)])) c2 (.tup [.int e.2, .int e.1, .str (kindS fo)])) p2 (.lst [.ref c1, .ref c2]) = H4 at h1 h2 hp2 s57 g5
      refine ⟨.ref d, rfl, d, 2, rfl, g5.dk, by decide, by decide, fun w H5 w0 w1 D5 K5 => ?_⟩
      have g6 := g5.take K5 D5
      have tk5 := g5.dk.tk K5
      have hL5 := K5 _ _ Ld Ld (s57 _ _ hL3)
      have hv5 := ties_tk tk5 (ties_tk (Same.tk s57) hv3)
      have h1 := tk5 _ _ h1
      have h2 := tk5 _ _ h2
      obtain ⟨cc, t, ec, hcc, jt⟩ : ∃ (cc : Addr) (t : Tie), atI [V.ref c1, V.ref c2] w = some (.ref cc) ∧ H5 cc = some (.tup [.int t.one, .int t.other, .str (kindS t.foe)]) ∧ ((t.one = e.1 ∧ t.other = e.2) ∨ (t.one = e.2 ∧ t.other = e.1)) := by
        have h01 : w = 0 ∨ w = 1 := by omega
        rcases h01 with z | z <;> subst z
        · exact ⟨c1, ⟨e.1, e.2, fo⟩, rfl, h1, .inl ⟨rfl, rfl⟩⟩
        · exact ⟨c2, ⟨e.2, e.1, fo⟩, rfl, h2, .inr ⟨rfl, rfl⟩⟩
      refine ⟨p2, _, w, .ref cc, rfl, rfl, SqL.of (K5 _ _ p2d p2d hp2), ec, L, vs, _, rfl, rfl, hL5, small1000 (by omega), ?_⟩
      have tk := tk_lst (ys := vs ++ [.ref cc]) hL5
      refine ⟨_, _, _, vs ++ [.ref cc], ts ++ [t], rfl, upd_same, Paired.snoc (ties_tk tk hv5) ⟨cc, rfl, tk _ _ hcc⟩, ?_, g6.oth LA LT LO Ld nL0 hL5, ((K23.trans (Same.kp s57)).trans K5).mut nL⟩
      rw [List.take_add_one, ee]
      exact tw.snoc jt
    · rintro σ' H2 ⟨y4, y5, y6, vs, ts, rfl, hL, hv, tw, g2, K2⟩
      rw [lu, List.take_length] at tw
      refine ⟨.int n, rfl, .ref L, rfl, L, vs, rfl, .inl ⟨SqL.of hL, fun e ne => ⟨by show 2 ≤ sizeLine; decide, fun a na => ?_⟩⟩⟩
      have s2 := (same_new (o := .tup vs) ne).trans (same_new (o := .tup [.int n, .ref e]) na)
      exact q _ ts _ ⟨a, e, vs, rfl, upd_same, same_new na _ _ upd_same, ties_tk (Same.tk s2) hv⟩ tw (g2.same s2) (K2.trans (Same.kp s2))
end
/-! ### what is asked of rings -/
def wbelow (lim : Int) : V → Bool
  | .int i => decide (0 ≤ i) && decide (i < lim)
  | _ => false
def unl (lim : Int) : Option (List V) → Bool
  | some xs => xs.all (wbelow lim) && decide xs.Nodup
  | none => false
theorem ints_of {lim : Int} : ∀ {xs : List V}, xs.all (wbelow lim) = true → ∃ ns : List Int, xs = ns.map V.int ∧ ∀ n ∈ ns, 0 ≤ n ∧ n < lim
  | [], _ => ⟨[], rfl, fun n hn => by simp at hn⟩
  | x :: xs, h => by
    rw [List.all_cons, Bool.and_eq_true] at h
    obtain ⟨ns, e, h2⟩ := ints_of h.2
    cases x with
    | int i =>
      have h1 : (decide (0 ≤ i) && decide (i < lim)) = true := h.1
      rw [Bool.and_eq_true, decide_eq_true_iff, decide_eq_true_iff] at h1
      refine ⟨i :: ns, by rw [e]; rfl, fun n hn => ?_⟩
      rcases List.mem_cons.mp hn with z | z
      · rw [z]
        exact h1
      · exact h2 n z
    | _ => exact absurd (show false = true from h.1) Bool.false_ne_true
theorem nodup_ints {ns : List Int} : (ns.map V.int).Nodup ↔ ns.Nodup := by
  unfold List.Nodup
  rw [List.pairwise_map]
  exact ⟨fun h => h.imp fun {a b} g z => g (by rw [z]), fun h => h.imp fun {a b} g z => g (V.int.inj z)⟩
theorem room65 {k : Nat} {A : PySem.Around} (r : Room k A) : A.units + 65 < cLine := by have := r.un; omega
theorem eqv_two (x y u v : Int) : PyData.eqv (intsD [x, y]) (intsD [u, v]) = (decide (u = x) && decide (v = y)) := by
  show PyData.eqv (.tuple [.int x, .int y]) (.tuple [.int u, .int v]) = _
  rw [PyData.eqv, PyData.eqvAll, PyData.eqv, PyData.eqvAll, PyData.eqv, PyData.eqvAll, Bool.and_true]
  rw [Bool.eq_iff_iff, Bool.and_eq_true, Bool.and_eq_true, beq_iff_eq, beq_iff_eq, decide_eq_true_iff, decide_eq_true_iff]
  exact ⟨fun h => ⟨h.1.symm, h.2.symm⟩, fun h => ⟨h.1.symm, h.2.symm⟩⟩
def spBelow : Sp := fun vs H Q _ => ∃ lim v, vs = [.int lim, v] ∧ Kn H v ∧ Q (.bl (wbelow lim v)) H
def spUnlike (Ps : List Addr) : Sp := fun vs H Q _ => ∃ lim v, vs = [.int lim, v] ∧ Kn H v ∧ (∀ xs, parts H v = some xs → (∀ x ∈ xs, Kn H x) ∧ xs.length ≤ 1000) ∧ Tabs Ps H ∧ ∀ H', Kt Ps H H' → Q (.bl (unl lim (parts H v))) H'
def joinB (t : Tie) (a b : Int) : Bool := (decide (t.one = a) && decide (t.other = b)) || (decide (t.one = b) && decide (t.other = a))
def spJoins : Sp := fun vs H Q _ => ∃ (c : Addr) (a b : Int) (t : Tie), vs = [.ref c, .int a, .int b] ∧ H c = some (.tup [.int t.one, .int t.other, .str (kindS t.foe)]) ∧ ∀ H', Same H H' → Q (.bl (joinB t a b)) H'
section
variable {P : Program} {w : World} {K : PySem.W.Frag} {mg : Str → Option Value} {base : Heap}
theorem ok_is_whole_below {f : Addr} {fd : FuncData} (F : Fun K "is_whole_below" "is_whole_below" s_is_whole_below f fd) (D1 : Df P w K mg base 1 "is_whole" ["thing"] spWhole) : FnOk P w K mg base CX0 2 f fd ["limit", "thing"] spBelow := by
  obtain ⟨f1, fd1, G1, g1, k1, b1⟩ := D1
  refine F.ok sc_is_whole_below (fun vs H Q E h => ?_) (fun cdv A outer s H vs Q E hr h => ?_)
  · obtain ⟨lim, v, rfl, _⟩ := h
    rfl
  · obtain ⟨lim, v, rfl, hk, q⟩ := h
    refine ⟨_, (pss_one (ps_ret (pe_and (pe_call G1 hr (by rfl) g1 k1 b1 .nil pass0 (pa_cons (pv 1) pa_nil)) (pe_one (pe_chain op_le op_lt pe_int (pv 1) (pv 0)))))), ?_⟩
    refine ⟨v, rfl, v, rfl, hk, _, rfl, ?_⟩
    cases v with
    | int i =>
      refine ⟨.int i, rfl, 0, i, rfl, rfl, _, rfl, ?_⟩
      have e : wbelow lim (.int i) = (decide (0 ≤ i) && decide (i < lim)) := rfl
      rw [e] at q
      by_cases h0 : (0 : Int) ≤ i
      · rw [decide_eq_true h0] at q ⊢
        rw [Bool.true_and] at q
        exact ⟨.int lim, rfl, i, lim, rfl, rfl, q⟩
      · rw [decide_eq_false h0] at q ⊢
        exact q
    | _ => exact q
theorem ok_are_unlike {f c Pt : Addr} {fd : FuncData} {Ps : List Addr} (F : FunC K "are_unlike_below" "are_unlike_below" s_are_unlike_below f fd c) (TB : GxR.TabB base mg c Pt) (hPt : Pt ∈ Ps) (M : Free mg) (hall : mg "all" = none) (hset : mg "set" = none) (D1 : Df P w K mg base 2 "is_whole_below" ["limit", "thing"] spBelow) : FnOk P w K mg base CX0 4 f fd ["limit", "thing"] (spUnlike Ps) := by
  obtain ⟨f1, fd1, G1, g1, k1, b1⟩ := D1
  refine F.ok sc_are_unlike_below (fun vs H Q E h => ?_) (fun A outer s H vs Q E hr h => ?_)
  · obtain ⟨lim, v, rfl, _⟩ := h
    rfl
  · obtain ⟨lim, v, rfl, hk, hsub, hT, q⟩ := h
    refine ⟨_, (pss_cons (ps_if (pt_not (pt_val (pe_callB call_isi (by rfl) M.isinstance (by decide +kernel) (pa_cons (pv 1) (pa_cons (pe_bltn (v := .ty "tuple") (by rfl) M.tuple (by decide +kernel) rfl) pa_nil)))))
        (pss_one (ps_ret pe_bl))
        pss_nil)
      (pss_one (ps_ret (pe_and (pe_all (k := 2) (own := [("number", 2)]) (g := gName 2) hr TB rfl rfl sc_are_unlike_below.nd (by rfl) hall (pi_tup (pv 1)) (blkOk_by (N := N_are_unlike_below) (sc := defScope s_are_unlike_below) (own := [("number", 2)]) (by decide +kernel)) ⟨rfl, by decide +kernel, by decide +kernel⟩ (show (".0" : Str) ∉ N_are_unlike_below by decide +kernel)
        (fun _ _ _ _ _ _ _ => pg_name (i := 2) sc_are_unlike_below.nd rfl (.inl rfl)) (fun _ _ _ _ _ _ _ hr' => pe_call G1 hr' (by rfl) g1 k1 b1 .nil pass0 (pa_cons (pv 0) (pa_cons (pv 2) pa_nil)))) (pe_one (pe_cmpR op_eq (pe_lenSetT (by rfl) M.len (by rfl) hset (pv 1)) (pe_callB call_len_seq (by rfl) M.len PySem.boot_len (pa_cons (pv 1) pa_nil)) (nomark _))))))), ?_⟩
    obtain ⟨t1, h1, e1⟩ := kn_tup (K := K) hk
    refine ⟨v, rfl, v, _, t1, _, _, rfl, .ty "tuple", h1, e1, _, rfl, ?_⟩
    cases hi : isT H v with
    | false =>
      rw [parts_none hi] at q
      exact q _ (Kt.refl hT)
    | true =>
      obtain ⟨a, xs, rfl, ea⟩ := isT_at hi
      rw [parts_of' ea] at q
      obtain ⟨kn, few⟩ := hsub xs (parts_of' ea)
      refine ⟨.ref a, rfl, a, rfl, ⟨_, SqT.of ea⟩, hT Pt hPt, fun i m H' => i + m = xs.length ∧ Kt Ps H H' ∧ (xs.take i).all (wbelow lim) = true, fun H2 hH2 => ⟨xs.length, by omega, Kt.tabbed hT hPt hH2, rfl⟩, fun i m H' hw => ?_⟩
      obtain ⟨em, kt, hal⟩ := hw
      have ea' := kt.tup hT ea
      by_cases hi : i < xs.length
      · refine .inr ⟨⟨_, _, SqT.of ea', List.getElem?_eq_getElem hi⟩, fun H3 => Kt Ps H H3 ∧ (xs.take (i + 1)).all (wbelow lim) = true, fun H3 n3 => ⟨m - 1, by omega, by omega, n3.1, n3.2⟩, fun x H3 hy => ?_⟩
        obtain ⟨rfl, fy⟩ := hy
        have ex : xs[i]? = some x := fy _ (SqT.of ea')
        refine ⟨rfl, .int lim, rfl, x, rfl, lim, x, rfl, kt.kn hT (kn x (List.mem_of_getElem? ex)), _, rfl, ?_⟩
        have step : (xs.take (i + 1)).all (wbelow lim) = wbelow lim x := by
          rw [List.take_add_one, ex, List.all_append, hal]
          simp
        cases hb : wbelow lim x with
        | true => exact ⟨kt, step.trans hb⟩
        | false =>
          have no : xs.all (wbelow lim) = false := by
            rw [Bool.eq_false_iff]
            intro z
            rw [List.all_eq_true] at z
            rw [z x (List.mem_of_getElem? ex)] at hb
            cases hb
          refine ⟨_, rfl, ?_⟩
          have e : unl lim (some xs) = false := by
            show (xs.all (wbelow lim) && decide xs.Nodup) = false
            rw [no, Bool.false_and]
          rw [e] at q
          exact q _ kt
      · refine .inl ⟨⟨_, SqT.of ea', by omega⟩, _, rfl, ?_⟩
        rw [List.take_of_length_le (by omega)] at hal
        obtain ⟨ns, rfl, _⟩ := ints_of hal
        refine ⟨.ref a, rfl, a, ns, rfl, SqT.of ea', by rw [List.length_map] at few; omega, fun cnt hc => ⟨.ref a, rfl, a, _, rfl, .inr (SqT.of ea'), rfl, ?_⟩⟩
        have e : unl lim (some (ns.map V.int)) = decide (V.int (cnt : Int) = V.int ((ns.map V.int).length : Int)) := by
          show ((ns.map V.int).all (wbelow lim) && decide (ns.map V.int).Nodup) = _
          rw [hal, Bool.true_and, decide_eq_decide, nodup_ints, ← hc, List.length_map]
          constructor
          · intro z
            rw [z]
          · intro z
            have := V.int.inj z
            omega
        rw [← e]
        exact q _ kt
end
def tieAt (ts : List Tie) (i : Int) : Tie := ts.getD i.toNat ⟨0, 0, false⟩
theorem tieAt_get {ts : List Tie} {i : Int} (h0 : 0 ≤ i) (h1 : i < ts.length) : ts[i.toNat]? = some (tieAt ts i) := by
  have h : i.toNat < ts.length := by omega
  unfold tieAt
  rw [List.getD_eq_getElem?_getD, List.getElem?_eq_getElem h]
  rfl
def toI : V → Int
  | .int i => i
  | _ => 0
theorem toI_map (ns : List Int) : (ns.map V.int).map toI = ns := by
  rw [List.map_map]
  exact List.map_id ns
/-- the ties join the places, each with the one behind it -/
def ringI (ts : List Tie) (ps es : List Int) : Bool := (List.range es.length).all fun k => joinB (tieAt ts (es.getD k 0)) (ps.getD k 0) (ps.getD ((k + 1) % ps.length) 0)
def ringP (n : Int) (ts : List Tie) : Option (List V) → Option (List V) → Bool
  | some ps, some es => unl n (some ps) && (unl ts.length (some es) && (decide (2 ≤ ps.length) && (decide (ps.length = es.length) && ringI ts (ps.map toI) (es.map toI))))
  | _, _ => false
def ringB (H : Hp) (n : Int) (ts : List Tie) (v : V) : Bool := match parts H v with
  | some [p, t] => ringP n ts (parts H p) (parts H t)
  | _ => false
def Part2 (H : Hp) (x : V) : Prop := Kn H x ∧ ∀ ys, parts H x = some ys → (∀ y ∈ ys, Kn H y) ∧ ys.length ≤ 1000
def Thing2 (H : Hp) (v : V) : Prop := Kn H v ∧ ∀ xs, parts H v = some xs → ∀ x ∈ xs, Part2 H x
theorem kt_parts {Ps : List Addr} {H H' : Hp} (k : Kt Ps H H') (t : Tabs Ps H) {v : V} (h : Kn H v) : parts H' v = parts H v := by
  cases v with
  | ref a =>
    unfold parts
    rcases h with ⟨xs, h⟩ | ⟨xs, h⟩ | ⟨xs, h⟩
    · simp only [h, k.lst t h]
    · simp only [h, k.tup t h]
    · simp only [h, k.dct t h]
  | _ => rfl
theorem Part2.kt {Ps : List Addr} {H H' : Hp} (k : Kt Ps H H') (t : Tabs Ps H) {v : V} (h : Part2 H v) : Part2 H' v :=
  ⟨k.kn t h.1, fun ys e => by
    rw [kt_parts k t h.1] at e
    obtain ⟨h1, h2⟩ := h.2 ys e
    exact ⟨fun y hy => k.kn t (h1 y hy), h2⟩⟩
def spRing (Ps : List Addr) : Sp := fun vs H Q _ => ∃ (wv : V) (n : Int) (ts : List Tie) (v : V), vs = [wv, v] ∧ WebAt H wv n ts ∧ WebOk n ts ∧ Thing2 H v ∧ Tabs Ps H ∧ ∀ H', Kt Ps H H' → Q (.bl (ringB H n ts v)) H'
theorem behind {ns : List Int} {k : Nat} (h2 : 2 ≤ ns.length) (hk : k < ns.length) : (ns.drop 1 ++ ns.take 1)[k]? = some (ns.getD ((k + 1) % ns.length) 0) := by
  by_cases e : k + 1 < ns.length
  · rw [List.getElem?_append_left (by rw [List.length_drop]; omega), List.getElem?_drop, Nat.mod_eq_of_lt e, show 1 + k = k + 1 from by omega, List.getD_eq_getElem?_getD, List.getElem?_eq_getElem e]
    rfl
  · have e2 : k + 1 = ns.length := by omega
    rw [List.getElem?_append_right (by rw [List.length_drop]; omega), List.length_drop, show k - (ns.length - 1) = 0 from by omega, e2, Nat.mod_self, List.getElem?_take_of_lt (by decide), List.getD_eq_getElem?_getD, List.getElem?_eq_getElem (by omega)]
    rfl
theorem cut1a {xs : List V} (h : 1 ≤ xs.length) : cutV xs (some 1) none = xs.drop 1 := by
  unfold cutV
  rw [HT.sIx_none, show (some (1 : Int)) = some ((1 : Nat) : Int) from rfl, HT.sIx_nat, Nat.min_eq_left h]
  exact List.take_of_length_le (by rw [List.length_drop]; omega)
theorem cut1b {xs : List V} (h : 1 ≤ xs.length) : cutV xs none (some 1) = xs.take 1 := by
  unfold cutV
  rw [HT.sIx_none, show (some (1 : Int)) = some ((1 : Nat) : Int) from rfl, HT.sIx_nat, Nat.min_eq_left h, List.drop_zero]
section
variable {P : Program} {w : World} {K : PySem.W.Frag} {mg : Str → Option Value} {base : Heap}
end
/-! ### webs as data -/
def tieD (t : Tie) : PyData := .tuple [.int t.one, .int t.other, .str (kindS t.foe)]
def webD (n : Int) (ts : List Tie) : PyData := .tuple [.int n, .tuple (ts.map tieD)]
theorem kind_ok (b : Bool) : (PyData.str (kindS b)).canLay0 = true ∧ (kindS b).cps.size ≤ 100 := by cases b <;> decide +kernel
theorem dp_ties {K : PySem.W.Frag} {H : Hp} : ∀ {vs : List V} {ts : List Tie}, Paired (TieV H) vs ts → DpAll K H vs (ts.map tieD)
  | _, _, .nil => .nil
  | _, _, .cons r t => by
    obtain ⟨a, rfl, e⟩ := r
    exact .cons (.tup (SqT.of e) (.cons (.int _) (.cons (.int _) (.cons (.str _) .nil)))) (dp_ties t)
theorem WebAt.dp {K : PySem.W.Frag} {H : Hp} {v : V} {n : Int} {ts : List Tie} (h : WebAt H v n ts) : Dp K H v (webD n ts) := by
  obtain ⟨a, b, vs, rfl, h1, h2, h3⟩ := h
  exact .tup (SqT.of h1) (.cons (.int _) (.cons (.tup (SqT.of h2) (dp_ties h3)) .nil))
theorem lay_tie (t : Tie) : (tieD t).canLay0 = true := by
  unfold tieD
  have h := (kind_ok t.foe).1
  simp only [PyData.canLay0, PyData.canLayAll0, Bool.true_and, Bool.and_true] at h ⊢
  exact h
theorem lay_ties : ∀ ts : List Tie, PyData.canLayAll0 (ts.map tieD) = true
  | [] => by simp [PyData.canLayAll0]
  | t :: ts => by rw [List.map_cons, PyData.canLayAll0, lay_tie t, lay_ties ts]; rfl
theorem lay_web (n : Int) (ts : List Tie) : (webD n ts).canLay0 = true := by
  unfold webD
  rw [PyData.canLay0, PyData.canLayAll0, PyData.canLayAll0, PyData.canLay0, PyData.canLay0, lay_ties, PyData.canLayAll0]
  rfl
theorem deep_ties : ∀ ts : List Tie, PyData.depthAll (ts.map tieD) ≤ 1
  | [] => by simp [PyData.depthAll]
  | t :: ts => by
    have h := deep_ties ts
    have g : (tieD t).depth = 1 := by simp [tieD, PyData.depth, PyData.depthAll]
    rw [List.map_cons, PyData.depthAll, g]
    omega
theorem shaped_web (n : Int) (ts : List Tie) : SeqAt.shaped (webD n ts) = true := by
  have h := deep_ties ts
  have d : (webD n ts).depth ≤ 3 := by
    simp only [webD, PyData.depth, PyData.depthAll]
    omega
  unfold SeqAt.shaped
  rw [lay_web]
  simp
  omega
/-! ### rows of numbers, in lists -/
def listD (xs : List Int) : PyData := .list (xs.map PyData.int)
theorem shaped_listD (xs : List Int) : SeqAt.shaped (listD xs) = true := by
  unfold SeqAt.shaped listD
  rw [PyData.canLay0, PyData.depth, lay_ints, deep_ints]
  rfl
theorem eqvAll_ints : ∀ xs ys : List Int, PyData.eqvAll (xs.map PyData.int) (ys.map PyData.int) = decide (xs = ys)
  | [], [] => by simp [PyData.eqvAll]
  | [], y :: ys => by simp [PyData.eqvAll]
  | x :: xs, [] => by simp [PyData.eqvAll]
  | x :: xs, y :: ys => by
    rw [List.map_cons, List.map_cons, PyData.eqvAll, eqvAll_ints xs ys, PyData.eqv]
    by_cases h1 : x = y <;> by_cases h2 : xs = ys <;> simp [h1, h2]
theorem eqv_listD (xs ys : List Int) : PyData.eqv (listD xs) (listD ys) = decide (xs = ys) := by
  unfold listD
  rw [PyData.eqv]
  exact eqvAll_ints xs ys
theorem filter_rng_succ (p : Int → Bool) (i : Nat) : ((rng (i + 1)).filter p).map V.int = ((rng i).filter p).map V.int ++ (if p i = true then [V.int i] else []) := by
  rw [rng_succ, List.filter_append, List.map_append, List.filter_cons]
  by_cases h : p i = true
  · rw [if_pos h, if_pos h]
    rfl
  · rw [if_neg h, if_neg h]
    rfl
theorem filter_rng_len (p : Int → Bool) (i : Nat) : ((rng i).filter p).length ≤ i := by
  have := List.length_filter_le p (rng i)
  rw [rng_length] at this
  exact this
/-! ### zip of a tuple and a list of one length -/
def ItM (K : PySem.W.Frag) (a b : Addr) : It where
  go := fun i H => ∃ (xs ys : List V), (SqT K H a xs ∧ SqL K H b ys) ∧ i < xs.length ∧ ys.length = xs.length
  yld := fun i H v H' => ∃ T x y, v = .ref T ∧ H T = none ∧ H' = upd H T (.tup [x, y]) ∧ (∀ xs, SqT K H a xs → xs[i]? = some x) ∧ (∀ ys, SqL K H b ys → ys[i]? = some y)
  stop := fun i H => ∃ (xs ys : List V), (SqT K H a xs ∧ SqL K H b ys) ∧ xs.length = i ∧ ys.length = i
theorem turn_zipM {P : Program} {w : World} {K : PySem.W.Frag} {elts : List Expr} {kk : Nat} {tpos : Pos} {a b z TI TO i1 i2 : Addr} (S : ZipSep2 z TI TO i1 i2 [i1, a] [i2, b]) (n1 : a ≠ i1) (n2 : b ≠ i2) :
    Turn P w K (.Tuple elts kk tpos) (ItM K a b) [z, TI, TO, i1, i2] z (fun i h => IsZip h z TI TO .none ∧ IsTupOf2 h TI (.ref i1) (.ref i2) ∧ (∃ a1 a2, IsTupOf2 h TO a1 a2) ∧ h.IsTupleIter i1 a i ∧ h.IsListIter i2 b i) where
  mem := List.mem_cons_self
  obj := by
    rintro i h ⟨hz, hTI, ⟨a1, a2, hTO⟩, ⟨o1, e1, _, d1⟩, ⟨o2, e2, _, d2⟩⟩ q hq
    simp only [List.mem_cons, List.not_mem_nil, or_false] at hq
    rcases hq with rfl | rfl | rfl | rfl | rfl
    · exact ⟨_, hz, fun v y => nomatch y⟩
    · exact ⟨_, hTI, fun v y => nomatch y⟩
    · exact ⟨_, hTO, fun v y => nomatch y⟩
    · exact ⟨o1, e1, fun v y => by rw [d1] at y; cases y⟩
    · exact ⟨o2, e2, fun v y => by rw [d2] at y; cases y⟩
  keep := by
    rintro i h h' ⟨hz, hTI, ⟨a1, a2, hTO⟩, t1, t2⟩ kp
    exact ⟨kp z (by simp) _ hz, kp TI (by simp) _ hTI, ⟨a1, a2, kp TO (by simp) _ hTO⟩, t1.at fun o q => kp i1 (by simp) o q, t2.at fun o q => kp i2 (by simp) o q⟩
  item := by
    intro X hP hw hK hc i pins s σ H E I hf st hg
    subst hP hw hK
    obtain ⟨hz, hTI, hTO, t1, t2⟩ := st
    obtain ⟨xs, ys, ⟨qx, qy⟩, hi, ly⟩ := hg
    obtain ⟨us, ru, tu, _⟩ := I.tuple qx
    obtain ⟨vs, rv, tv, _⟩ := I.list qy
    have lu := ru.length
    have lv := rv.length
    obtain ⟨u, hu, eu⟩ := ru.get (List.getElem?_eq_getElem hi)
    obtain ⟨v, hv, ev⟩ := rv.get (List.getElem?_eq_getElem (show i < ys.length by omega))
    have W := WalksT.zipD2 (A := X.A) S (Draws.tuple (prog := X.prog) (w := X.w) (A := X.A.in1) (I.ok.hd hc) i1 a n1 us.toArray) (Draws.list (prog := X.prog) (w := X.w) (A := X.A.in1) (I.ok.hd hc) i2 b n2 vs.toArray)
    refine W.item i s _ _ (by simp only [List.size_toArray]; omega) ⟨hz, hTI, hTO, ⟨t1, tu⟩, ⟨t2, tv.isList⟩⟩ fun T vals h' tk hp newT isT mid kp => ?_
    obtain ⟨y1, y2, p1, p2, rfl⟩ := hp
    have apart := W.apart i T h' mid
    obtain rfl : u = y1 := Option.some.inj (((by simpa using hu) : us.toArray[i]? = some u).symm.trans p1)
    obtain rfl : v = y2 := Option.some.inj (((by simpa using hv) : vs.toArray[i]? = some v).symm.trans p2)
    refine ⟨_, rfl, W.go elts kk tpos i T { s with heap := h', toks := tk } _ _ mid fun h2 st2 kp2 => ?_⟩
    obtain ⟨g1, g2, g3, ⟨g4, _⟩, ⟨g5, _⟩⟩ := st2
    have objT : ObjOk X.prog X.w (upd H T (.tup [xs[i], ys[i]])) h2 T (.tup [xs[i], ys[i]]) := by
      obtain ⟨ot, et, ct, nt, dt⟩ := isT
      exact ⟨by show 2 ≤ sizeLine; decide, [u, v], .cons eu (.cons ev .nil), ⟨ot, kp2 _ _ apart et, ct, nt, dt⟩⟩
    have J : Inv X pins σ (upd H T (.tup [xs[i], ys[i]])) { s with heap := h2, toks := tk } := I.turnedNew (ch := [z, TI, TO, i1, i2]) (fun q ob hq e => by
      simp only [List.mem_cons, List.not_mem_nil, or_false, not_or] at hq
      have nw : q ∉ [z, TO, i1, i2] := by simp [hq]
      exact kp2 q ob nw (kp q ob nw e)) hf newT objT
    refine ⟨.ref T, _, J, rfl, ⟨T, _, _, rfl, I.hok.fresh newT, rfl, fun l hl => by rw [I.tuple_inj hl qx]; exact List.getElem?_eq_getElem hi, fun l hl => by rw [I.list_inj hl qy]; exact List.getElem?_eq_getElem _⟩, ⟨g1, g2, g3, g4, g5⟩, fun q hq => ?_⟩
    have lq : q < s.heap.objs.size := by
      obtain ⟨_, _, ⟨a1, a2, hTO⟩⟩ := (⟨hz, hTI, hTO⟩ : _ ∧ _ ∧ _)
      obtain ⟨o1, e1, _⟩ := t1
      obtain ⟨o2, e2, _⟩ := t2
      simp only [List.mem_cons, List.not_mem_nil, or_false] at hq
      rcases hq with rfl | rfl | rfl | rfl | rfl
      · exact Heap.lt_size hz
      · exact Heap.lt_size hTI
      · exact Heap.lt_size hTO
      · exact Heap.lt_size e1
      · exact Heap.lt_size e2
    rw [upd_ne (Nat.ne_of_lt (Nat.lt_of_lt_of_le lq newT))]
    exact (hf q hq).1
  done := by
    intro X hP hw hK hc i pins s σ H E I hf st hg
    subst hP hw hK
    obtain ⟨hz, hTI, hTO, t1, t2⟩ := st
    obtain ⟨xs, ys, ⟨qx, qy⟩, lx, ly⟩ := hg
    obtain ⟨us, ru, tu, _⟩ := I.tuple qx
    obtain ⟨vs, rv, tv, _⟩ := I.list qy
    have lu := ru.length
    have lv := rv.length
    have W := WalksT.zipD2 (A := X.A) S (Draws.tuple (prog := X.prog) (w := X.w) (A := X.A.in1) (I.ok.hd hc) i1 a n1 us.toArray) (Draws.list (prog := X.prog) (w := X.w) (A := X.A.in1) (I.ok.hd hc) i2 b n2 vs.toArray)
    have en : min us.toArray.size vs.toArray.size = i := by simp only [List.size_toArray]; omega
    refine W.done s _ _ ?_ fun h' tk kp => ⟨rfl, ?_⟩
    · rw [en]
      exact ⟨hz, hTI, hTO, ⟨t1, tu⟩, ⟨t2, tv.isList⟩⟩
    · refine I.turnedL (ch := [z, TI, TO, i1, i2]) (fun q ob hq e => ?_) hf
      simp only [List.mem_cons, List.not_mem_nil, or_false, not_or] at hq
      exact kp q ob (by simp [hq]) e
  self := by
    rintro A i s Q E ⟨hz, _⟩ h
    exact wpAny_pyIter_zip hz h
def iZipM (K : PySem.W.Frag) (ta : TA) : TI := fun σ H R => ta σ H fun vs H1 => ∃ a b xs ys, vs = [.ref a, .ref b] ∧ SqT K H1 a xs ∧ SqL K H1 b ys ∧ R (ItM K a b) H1
theorem pi_zipM {X : Cx} {e e2 : Expr} {ta : TA} {p pos tpos : Pos} {elts : List Expr} {kk : Nat} (hg : Gl X "zip") (hm : X.mg "zip" = none) (ha : PA X [e, e2] ta) (hs : starEach [e, e2] X.env = (false, eval e X.env) :: starEach [e2] X.env := by rfl)
    (hpl : (backTo pos (starEach [e2] X.env)).any (·.1) = false := by rfl) : PI X (.Tuple elts kk tpos) (.Call (.Name "zip" p) [e, e2] [] pos) (iZipM X.K ta) := by
  refine ⟨fun pins s σ H R I want => Call_ (ld_blt I hg hm PyProof.Rows.boot_zip (PyProof.Rows.callWith_type1 (thn (ha.run pos pins s σ H _ I want) fun us s1 got => ?_) hs hpl))⟩
  obtain ⟨vs, H1, J, rel, a, b, xs, ys, ex, qa, qb, q⟩ := got
  subst ex
  cases rel with
  | cons r1 rel =>
    cases rel with
    | cons r2 rel =>
        cases rel
        cases r1
        cases r2
        obtain ⟨u1, _, t1, _⟩ := J.tuple qa
        obtain ⟨u2, _, t2, _⟩ := J.list qb
        have la : a < s1.heap.objs.size := let ⟨_, y, _⟩ := t1; Heap.lt_size y
        have lb : b < s1.heap.objs.size := t2.lt
        refine zip_begins2 (begins_tuple a u1.toArray) (begins_list b u2.toArray) t1 t2.isList fun h' hz hTI hTO g1 g2 _ kp => wpAny_pyIter_zip hz ?_
        have J2 : Inv X pins σ H1 { s1 with heap := h' } := J.kept (t' := s1.toks) kp
        have S := zip_sep2 (N := s1.heap.objs.size) (fp1 := [a]) (fp2 := [b]) (fun y hy => by rw [List.mem_singleton.mp hy]; exact la) (fun y hy => by rw [List.mem_singleton.mp hy]; exact lb)
        refine ⟨s1.heap.objs.size + 4, [s1.heap.objs.size + 4, s1.heap.objs.size + 2, s1.heap.objs.size + 3, s1.heap.objs.size, s1.heap.objs.size + 1], _, _, H1, rfl, J2, turn_zipM S (Nat.ne_of_lt la) (Nat.ne_of_lt (Nat.lt_succ_of_lt lb)), ⟨hz, hTI, ⟨_, _, hTO⟩, ⟨_, g1, rfl, rfl⟩, ⟨_, g2, rfl, rfl⟩⟩, fun y hy => ?_, q⟩
        have ly : s1.heap.objs.size ≤ y := by
          simp only [List.mem_cons, List.not_mem_nil, or_false] at hy
          rcases hy with rfl | rfl | rfl | rfl | rfl
          · exact Nat.le_add_right _ _
          · exact Nat.le_add_right _ _
          · exact Nat.le_add_right _ _
          · exact Nat.le_refl _
          · exact Nat.le_add_right _ _
        exact J.fpOk ly (J.hok.fresh ly)
/-! ### sorted(t) of a tuple of ints -/
section
open PySem PySem.Spec PyProof.Rows SrtO
variable {prog : Program} {w : World} {A : PySem.Around} {E : Value → Shared → Prop} {s : Shared}
theorem collect_tupT {l : Addr} {vs : List Value} {Q : List Value → Shared → Prop} (hl : s.heap.IsTuple l vs.toArray)
    (h : Q vs { s with heap := (s.heap.push (seqObj "list" #[] 0)).update s.heap.objs.size (Obj.mapSeq (· ++ vs.toArray)) }) (hsz : vs.length ≤ sizeLine) :
    wpAny (model prog w) A (collect (.ref l)) Q E s := by
  obtain ⟨o, ho, hc, n, hd⟩ := id hl
  unfold collect
  refine wpAny_bind (wpAny_runValue (codeAny_builtin entry_proto_collect' ?_))
  show wpAny _ _ (do again (.builtin "list.__iadd__" ⟨[← newList [], .ref l], []⟩)) _ _ s
  refine wpAny_bind (wpAny_newList (wpAny_pure ⟨Code.quiet_builtin _ (by decide +kernel), codeAny_builtin entry_list_iadd' ?_⟩))
  show wpAny _ _ (Builtin.List.listExtendWith (.ref s.heap.objs.size) (.ref l) (.ref s.heap.objs.size)) _ _ { s with heap := s.heap.push (seqObj "list" #[] 0) }
  unfold Builtin.List.listExtendWith
  have ho' : (s.heap.push (seqObj "list" #[] 0)).get? l = some o := Heap.get?_push_of_some _ ho
  refine wpAny_bind (wpAny_typeOf (T := "tuple") ⟨o, ho', hc⟩ ?_)
  have ht : (Value.type "tuple" == Value.type "tuple") = true := by rfl
  rw [if_pos (by rw [ht]; simp)]
  refine wpAny_bind (listItems_at ho' hd ?_)
  refine wpAny_bind (listItems_at (xs := #[]) (n := 0) (Heap.get?_push_size _ rfl) rfl ?_)
  rw [if_neg (by simp)]
  refine wpAny_bind (listUpdate_at (xs := #[]) (n := 0) (Heap.get?_push_size _ rfl) rfl ?_ (Nat.zero_le _) (by show (#[] ++ vs.toArray).size ≤ sizeLine + 1; simp only [Array.size_append, List.size_toArray, List.length_nil]; omega))
  refine wpAny_pure ?_
  show wpAny (model prog w) A (do
      let o ← load s.heap.objs.size
      match o.data with
      | .seq xs _ => pure xs.toList
      | _ => unsupported "internal:collect") Q E { s with heap := (s.heap.push (seqObj "list" #[] 0)).update s.heap.objs.size (Obj.mapSeq (· ++ vs.toArray)) }
  refine wpAny_bind (wpAny_load (get?_update_seq (Heap.get?_push_size _ rfl) _) ?_)
  show wpAny _ _ (pure ((#[] : Array Value) ++ vs.toArray).toList) Q E _
  rw [show ((#[] : Array Value) ++ vs.toArray).toList = vs by simp]
  exact wpAny_pure h
theorem sorted_ordT {l : Addr} {vs : List Value} {ltv : Value → Value → Bool} {Q : Value → Shared → Prop} (O : Swo ltv) (hl : s.heap.IsTuple l vs.toArray) (hz : vs.length ≤ sizeLine)
    (hS : 2 ≤ vs.length → ∀ (h₁ : Heap) (a : Addr), h₁.get? a = some (seqObj "list" vs.toArray 0) → (∀ b o, s.heap.get? b = some o → b ≠ a ∧ h₁.get? b = some o) → SortableO prog w A.in1.in1 { s with heap := h₁ } a vs ltv)
    (h : ∀ out : List Value, Srtd ltv out → Stb ltv out vs → Q (.ref (s.heap.objs.size + 1)) { s with heap := sortedAll s.heap vs out.toArray }) :
    wpAny (model prog w) A (call (.builtin "sorted") [.ref l]) Q E s := by
  refine Calls.call_function_entry kind_sorted plain_sorted entry_sorted (args_sorted1 _) ?_
  unfold Builtin.«sorted»
  refine wpAny_bind (m := checkCount "sorted" 1 1 _) (wpAny_pure ?_)
  refine wpAny_bind (collect_tupT hl ?_ hz)
  refine wpAny_bind (wpAny_newList ?_ hz)
  have hsz : ((s.heap.push (seqObj "list" #[] 0)).update s.heap.objs.size (Obj.mapSeq (· ++ vs.toArray))).objs.size = s.heap.objs.size + 1 := by
    rw [Heap.size_update, size_push']
  have hoL : (((s.heap.push (seqObj "list" #[] 0)).update s.heap.objs.size (Obj.mapSeq (· ++ vs.toArray))).push (seqObj "list" vs.toArray 0)).get? (s.heap.objs.size + 1) = some (seqObj "list" vs.toArray 0) := by
    rw [← hsz]; exact Heap.get?_push_size _ rfl
  have keep : ∀ b o, s.heap.get? b = some o → b ≠ s.heap.objs.size + 1 ∧ (((s.heap.push (seqObj "list" #[] 0)).update s.heap.objs.size (Obj.mapSeq (· ++ vs.toArray))).push (seqObj "list" vs.toArray 0)).get? b = some o := fun b o q => by
    have hlt : b < s.heap.objs.size := Heap.lt_size q
    refine ⟨Nat.ne_of_lt (Nat.lt_succ_of_lt hlt), Heap.get?_push_of_some _ ?_⟩
    rw [Heap.get?_update_ne _ _ _ _ (Nat.ne_of_lt hlt)]
    exact Heap.get?_push_of_some _ q
  show wpAny _ _ _ _ _ { s with heap := ((s.heap.push (seqObj "list" #[] 0)).update s.heap.objs.size (Obj.mapSeq (· ++ vs.toArray))).push (seqObj "list" vs.toArray 0) }
  rw [hsz]
  refine wpAny_bind (wpAny_holding (wpAny_call_entry slot_list_sort ⟨_, hoL, rfl⟩ entry_list_sort (list_sort_ord O hoL hz (fun h2 => hS h2 _ _ hoL keep) fun out hs hb => ⟨_, rfl, ?_⟩) (args_list_sort _)))
  exact wpAny_pure ⟨_, rfl, h out hs hb⟩
end
def rSortedTI (K : PySem.W.Frag) : List V → Hp → VK → Prop := fun vs H Q => ∃ (a : Addr) (ns : List Int), vs = [V.ref a] ∧ SqT K H a (ns.map V.int) ∧
  ∀ (ns' : List Int) (p : Addr), ns'.Perm ns → ns'.Pairwise (· ≤ ·) → H p = none → Q (.ref p) (upd H p (.lst (ns'.map V.int)))
theorem cr_sortedTI {X : Cx} : CallR X (.builtin "sorted") (rSortedTI X.K) := by
  intro pins s σ H vs us Q I r h
  obtain ⟨a, ns, rfl, hs, q⟩ := h
  obtain ⟨its, rv, hl, hz⟩ := I.tuple hs
  rw [Vals.ref1 r]
  have hi := rv.ints
  refine sorted_ordT SrtO.swo_int hl (by rw [← rv.length]; exact hz) (fun h2 h₁ a' _ _ => SrtO.ints_sortable hi h2) fun out h1 h2 => ?_
  obtain ⟨k1, k2, k3⟩ := SrtO.ints_out hi h1 h2
  obtain ⟨ep, he'⟩ := PyProof.Rows.sortedAll_at s.heap its out.toArray
  have hlen : ((out.map SrtO.iv).map V.int).length ≤ sizeLine := by
    rw [List.length_map, k2.length_eq]
    rw [List.length_map] at hz
    exact hz
  exact ⟨.ref _, upd H (s.heap.objs.size + 1) (.lst ((out.map SrtO.iv).map V.int)), I.laid (t' := s.toks) (fun _ _ => PyProof.Rows.sortedAll_old) (Nat.le_succ _) ⟨hlen, out, ep, vals_of_ints k1, he'⟩, rfl, q _ _ k2 k3 (I.hok.fresh (Nat.le_succ _))⟩
/-! ### t[::-1] of a tuple -/
theorem fm_congr {α β : Type} {f g : α → Option β} : ∀ {l : List α}, (∀ x ∈ l, f x = g x) → l.filterMap f = l.filterMap g
  | [], _ => rfl
  | x :: l, h => by
    rw [List.filterMap_cons, List.filterMap_cons, h x (by simp), fm_congr (l := l) fun y hy => h y (List.mem_cons_of_mem _ hy)]
theorem back_pick (items : Array Value) : ((List.range items.size).filterMap fun (k : Nat) => items[((items.size : Int) - 1 + (k : Int) * (-1)).toNat]?).toArray = items.toList.reverse.toArray := by
  have e : (List.range items.size).filterMap (fun (k : Nat) => items[((items.size : Int) - 1 + (k : Int) * (-1)).toNat]?) = ((List.range items.size).map fun k => items.size - 1 - k).filterMap (items[·]?) := by
    rw [List.filterMap_map]
    refine fm_congr fun k hk => ?_
    have := List.mem_range.mp hk
    show _ = items[items.size - 1 - k]?
    congr 1
    omega
  rw [e, PySem.W.krv_range, List.filterMap_reverse, PySem.W.krv_all]
section
variable {P : Program} {w : World} {A : PySem.Around} {E : Value → Shared → Prop} {s : Shared}
theorem applied_back {sl : Addr} {vk : Value} {n : Nat} {Q : Int × Int × Nat → Shared → Prop} (hs : s.heap.IsSliceOf sl .none .none vk) (pk : IsPart vk (some (-1))) (h : Q ((n : Int) - 1, -1, n) s) : wpAny (model P w) A (Builtin.Slice.sliceApplied (.ref sl) (pure (n : Int))) Q E s := by
  obtain ⟨os, look, _, flds⟩ := id hs
  unfold Builtin.Slice.sliceApplied Builtin.Slice.sliceFields
  refine wpAny_bind (wpAny_bind (wpAny_field look flds (x := .none) rfl (wpAny_bind (wpAny_field look flds (x := .none) rfl (wpAny_bind (wpAny_field look flds (x := vk) rfl (wpAny_pure ?_)))))))
  refine wpAny_bind (HT.slicePart_ pk ?_)
  show wpAny _ _ (if ((-1 : Int) == 0) = true then _ else _) _ _ s
  rw [if_neg (by decide)]
  refine wpAny_bind (HT.slicePart_ .none (wpAny_bind (HT.slicePart_ .none (wpAny_bind (wpAny_pure ?_)))))
  have pl : Builtin.Slice.slicePlaces ((n : Int) - 1) (-1) (-1) = n := by
    unfold Builtin.Slice.slicePlaces
    rw [if_neg (by decide)]
    by_cases z : (n : Int) - 1 > -1
    · rw [if_pos z, show (-(-1) : Int) = 1 from by decide, Int.ediv_one]
      omega
    · rw [if_neg z]
      omega
  show wpAny _ _ (pure ((n : Int) - 1, (-1 : Int), Builtin.Slice.slicePlaces ((n : Int) - 1) (-1) (-1))) _ _ s
  rw [pl]
  exact wpAny_pure h
theorem getItem_back {t sl : Addr} {items : Array Value} {vk : Value} {Q : Value → Shared → Prop} (ht : IsTup s.heap t items) (hs : s.heap.IsSliceOf sl .none .none vk) (pk : IsPart vk (some (-1))) (hsz : items.size ≤ sizeLine)
    (h : Q (.ref s.heap.objs.size) { s with heap := s.heap.push { cls := .type "tuple", data := .seq items.toList.reverse.toArray } }) : wpAny (model P w) A (getItem (.ref t) (.ref sl)) Q E s := by
  have small : sizeOk (.seq items.toList.reverse.toArray) := by
    show items.toList.reverse.toArray.size ≤ sizeLine
    rw [List.size_toArray, List.length_reverse, Array.length_toList]
    exact hsz
  obtain ⟨os, look, kind, _⟩ := id hs
  have isSl : s.TypeIs (.ref sl) "slice" := ⟨os, look, kind⟩
  unfold getItem
  try with_reducible refine wpAny_holding ?_
  first | refine wpAny_bind (wpAny_pure ?_) | skip
  refine wpAny_bind (wpAny_sequenceKey ht.typeIs (by decide) ?_)
  refine wpAny_bind (wpAny_callSpecial?_slot (name := Str.ofString "__getitem__") ht.typeIs PyProof.Rows.slot_tuple_getitem (wpAny_call_entry PyProof.Rows.slot_tuple_getitem ht.typeIs PySem.F.entry_tuple_getitem ?_ (PySem.F.args_tuple_getitem_2 _ _)))
  show wpAny _ _ (Builtin.Tuple.tupleItemsOf (.ref t) >>= _) _ _ s
  refine wpAny_bind (tupleItemsOf_ ht ?_)
  refine wpAny_bind (wpAny_typeOf isSl ?_)
  rw [if_pos (by decide)]
  refine wpAny_bind (applied_back hs pk ?_)
  have no : ¬ (((items.size : Int) - 1 == 0 && (-1 : Int) == 1 && items.size == items.size) = true) := by
    intro z
    rw [Bool.and_eq_true, Bool.and_eq_true] at z
    exact absurd z.1.2 (by decide)
  show wpAny _ _ (if ((items.size : Int) - 1 == 0 && (-1 : Int) == 1 && items.size == items.size) = true then _ else _) _ _ s
  rw [if_neg no, back_pick]
  first
    | exact wpAny_bind (m := Builtin.Tuple.tupleExact _) (wpAny_newObj_type (wpAny_pure ⟨_, rfl, wpAny_pure h⟩) small)
    | exact wpAny_bind (wpAny_bind (m := Builtin.Tuple.tupleExact _) (wpAny_newObj_type (wpAny_pure (wpAny_pure ⟨_, rfl, wpAny_pure h⟩)) small))
    | exact wpAny_bind (m := Builtin.Tuple.tupleExact _) (wpAny_newObj_type (wpAny_bind (wpAny_pure (wpAny_pure ⟨_, rfl, wpAny_pure h⟩))) small)
end
def tRevT (K : PySem.W.Frag) (te : TE) : TE := fun σ H Q => te σ H fun x H1 => ∃ a xs, x = .ref a ∧ SqT K H1 a xs ∧ ∀ p, H1 p = none → Q (.ref p) (upd H1 p (.tup xs.reverse))
theorem pe_revT {X : Cx} {e : Expr} {te : TE} {k : Nat} {p1 p2 p3 pos : Pos} (he : PE X e te) : PE X (.Subscript e (.Slice none none (some (.UnaryOp .USub (.Constant (.int 1) k p1) p2)) p3) pos) (tRevT X.K te) := by
  refine ⟨fun pins s σ H Q I want => Subscript_ (thn (he.run pins s σ H _ I want) fun v s1 got => ?_)⟩
  obtain ⟨x, H1, I1, r1, a, xs, ex, hx, q⟩ := got
  subst ex
  obtain rfl : v = Value.ref a := r1
  have step : PO X (some (.UnaryOp .USub (.Constant (.int 1) k p1) p2)) (tPart (tUn (rU fun i => .int (-i)) (tC (.int 1)))) := po_some (pe_un un_neg pe_int)
  refine wpAny_Slice (thn (po_none.run pins s1 σ H1 (fun o H2 => o = none ∧ H2 = H1) I1 ⟨rfl, rfl⟩) fun vl s2 got2 => ?_)
  obtain ⟨_, _, I2, pl, rfl, rfl⟩ := got2
  refine thn (po_none.run pins s2 σ _ (fun o H3 => o = none ∧ H3 = _) I2 ⟨rfl, rfl⟩) fun vu s3 got3 => ?_
  obtain ⟨_, _, I3, pu, rfl, rfl⟩ := got3
  refine thn (step.run pins s3 σ _ (fun o H4 => o = some (-1) ∧ H4 = _) I3 ⟨1, rfl, -1, rfl, rfl, rfl⟩) fun vk s4 got4 => ?_
  obtain ⟨_, H4, I4, pk, rfl, rfl⟩ := got4
  cases pl
  cases pu
  have I5 : Inv X pins σ H4 { s4 with heap := s4.heap.push { cls := .type "slice", data := .fields #[.none, .none, vk] } } := I4.kept (t' := s4.toks) fun b ob z => Heap.get?_push_of_some _ z
  obtain ⟨its, rel, tup, small⟩ := I5.tuple hx
  have hlen := rel.length
  show wpAny (model X.prog X.w) X.A (subscriptTail e (.Slice none none (some (.UnaryOp .USub (.Constant (.int 1) k p1) p2)) p3) (.ref a) (.ref s4.heap.objs.size)) (EP X pins σ Q) X.xe _
  refine tail_any (ops := [.ref a, .ref s4.heap.objs.size]) tup.typeIs PyProof.Rows.slot_tuple_getitem.lookup ?_ (by with_unfolding_all rfl)
  refine getItem_back tup (Heap.IsSliceOf.new _ .none .none vk) pk (by rw [List.size_toArray]; omega) ?_
  refine ⟨.ref _, _, I5.laid (t' := s4.toks) (o := .tup xs.reverse) (fun b ob z => Heap.get?_push_of_some _ z) (Nat.le_refl _) ?_, rfl, q _ (I5.hok.fresh (Nat.le_refl _))⟩
  exact ⟨by rw [List.length_reverse]; exact small, _, rel.reverse, IsTup.new _ _⟩
/-! ### orders: what ties a place has -/
def isEnd (p : Int) (t : Tie) : Bool := decide (t.one = p) || decide (t.other = p)
def dueN (ts : List Tie) (p : Int) (j : Nat) : List Int := ((List.range j).filter fun k => isEnd p (tieAt ts (k : Nat))).map fun k : Nat => (k : Int)
theorem dueN_succ (ts : List Tie) (p : Int) (j : Nat) : dueN ts p (j + 1) = dueN ts p j ++ (if isEnd p (tieAt ts (j : Nat)) = true then [(j : Int)] else []) := by
  unfold dueN
  rw [List.range_succ, List.filter_append, List.map_append]
  congr 1
  rw [List.filter_cons]
  split <;> rfl
theorem dueN_mem {ts : List Tie} {p : Int} {j : Nat} {x : Int} : x ∈ dueN ts p j ↔ 0 ≤ x ∧ x < (j : Int) ∧ isEnd p (tieAt ts x) = true := by
  unfold dueN
  rw [List.mem_map]
  constructor
  · rintro ⟨k, hk, rfl⟩
    obtain ⟨h1, h2⟩ := List.mem_filter.mp hk
    have := List.mem_range.mp h1
    exact ⟨by omega, by omega, h2⟩
  · rintro ⟨h0, h1, h2⟩
    obtain ⟨k, rfl⟩ : ∃ k : Nat, x = (k : Int) := ⟨x.toNat, by omega⟩
    exact ⟨k, List.mem_filter.mpr ⟨List.mem_range.mpr (by omega), h2⟩, rfl⟩
theorem dueN_sorted (ts : List Tie) (p : Int) (j : Nat) : (dueN ts p j).Pairwise (· < ·) := by
  unfold dueN
  refine List.pairwise_map.mpr ((List.pairwise_lt_range.filter _).imp fun h => ?_)
  omega
theorem dueN_len (ts : List Tie) (p : Int) (j : Nat) : (dueN ts p j).length ≤ j := by
  unfold dueN
  rw [List.length_map]
  have := List.length_filter_le (fun k => isEnd p (tieAt ts (k : Nat))) (List.range j)
  rw [List.length_range] at this
  exact this
/-- the rows that are told, j ties long -/
def RwD (ts : List Tie) (n j : Nat) (rs : List (List Int)) : Prop := rs.length = n ∧ ∀ p : Nat, p < n → rs[p]? = some (dueN ts p j)
theorem RwD.put {ts : List Tie} {n j : Nat} {rs : List (List Int)} (h : RwD ts n j rs) {t : Tie} (et : ts[j]? = some t) (ok : TieOk n t) : RwD ts n (j + 1) ((rs.set t.one.toNat (dueN ts t.one j ++ [(j : Int)])).set t.other.toNat (dueN ts t.other j ++ [(j : Int)])) := by
  obtain ⟨a0, a1, b0, b1, ne⟩ := ok
  have e : tieAt ts (j : Nat) = t := by
    unfold tieAt
    rw [Int.toNat_natCast, List.getD_eq_getElem?_getD, et]
    rfl
  refine ⟨by rw [List.length_set, List.length_set]; exact h.1, fun p hp => ?_⟩
  have hl := h.1
  rw [dueN_succ, e]
  by_cases hb : t.other.toNat = p
  · rw [hb, List.getElem?_set_self (by rw [List.length_set]; omega)]
    have : (p : Int) = t.other := by omega
    rw [this, if_pos (by unfold isEnd; simp)]
  · rw [List.getElem?_set_ne hb]
    by_cases ha : t.one.toNat = p
    · rw [ha, List.getElem?_set_self (by omega)]
      have : (p : Int) = t.one := by omega
      rw [this, if_pos (by unfold isEnd; simp)]
    · rw [List.getElem?_set_ne ha, h.2 p hp, if_neg, List.append_nil]
      unfold isEnd
      rw [Bool.or_eq_true, decide_eq_true_iff, decide_eq_true_iff]
      omega
/-- a web of a few places more -/
structure WebF (n : Int) (ts : List Tie) : Prop where
  lo : 1 ≤ n
  hi : n ≤ 50
  few : ts.length ≤ 120
  ok : ∀ t ∈ ts, TieOk n t
def spTiesAt : Sp := fun vs H Q _ => ∃ (wv : V) (n : Nat) (ts : List Tie), vs = [wv] ∧ WebAt H wv n ts ∧ WebF n ts ∧ ∀ r A rs H', H' r = some (.lst (A.map V.ref)) → Rw H' A rs → RwD ts n ts.length rs → Same H H' → Q (.ref r) H'
section
variable {P : Program} {w : World} {K : PySem.W.Frag} {mg : Str → Option Value} {base : Heap}
set_option maxHeartbeats 2000000 in
theorem ok_ties_at {f : Addr} {fd : FuncData} (F : Fun K "ties_at" "ties_at" s_ties_at f fd) (M : Free mg) (m_enumerate : mg "enumerate" = none) : FnOk P w K mg base CX0 1 f fd ["web"] spTiesAt := by
  refine F.ok sc_ties_at (fun vs H Q E h => ?_) (fun cdv A outer s H vs Q E hr h => ?_)
  · obtain ⟨wv, n, ts, rfl, _⟩ := h
    rfl
  · obtain ⟨wv, n, ts, rfl, ⟨wa, wb, us, rfl, hwa, hwb, hp⟩, ok, q⟩ := h
    refine ⟨_, (pss_cons (ps_setLc (i := 1) (own := [("place", 2)]) (g := (gName 2)) (tt := tYes) rfl sc_ties_at.nd rfl rfl (sw_true rfl rfl rfl (by decide +kernel)) (pi_range1 (by rfl) M.range (pa_cons (pe_ix ix_tup (pv 0) pe_int (fun _ _ => rfl)) pa_nil)) (blkOk_by (N := N_ties_at) (sc := defScope s_ties_at) (own := [("place", 2)]) (by decide +kernel)) (fun _ _ _ _ _ => (pg_name (i := 2) sc_ties_at.nd rfl (.inl rfl))) (fun _ _ _ _ _ => pts_nil) (fun _ _ _ _ _ => (pe_lst pa_nil)))
      (pss_cons (ps_for PassesOwn.never rfl (pi_enumT (by rfl) m_enumerate (pa_cons (pe_ix ix_tup (pv 0) pe_int (fun _ _ => rfl)) pa_nil)) (pg_tup rfl (pgs_cons (pg_name (i := 3) sc_ties_at.nd rfl (.inl rfl)) (pgs_cons (pg_tup rfl (pgs_cons (pg_name (i := 4) sc_ties_at.nd rfl (.inl rfl)) (pgs_cons (pg_name (i := 5) sc_ties_at.nd rfl (.inl rfl)) (pgs_cons (pg_name (i := 6) sc_ties_at.nd rfl (.inl rfl)) pgs_nil)))) pgs_nil)))
        (pss_cons (ps_expr (pe_bm PySem.F.plainAttrs_list PySem.F.slot_list_append PySem.F.type_list_append mt_append (pe_ix ix_list (pv 1) (pv 4) (fun _ _ => rfl)) (pa_cons (pv 3) pa_nil)))
        (pss_one (ps_expr (pe_bm PySem.F.plainAttrs_list PySem.F.slot_list_append PySem.F.type_list_append mt_append (pe_ix ix_list (pv 1) (pv 5) (fun _ _ => rfl)) (pa_cons (pv 3) pa_nil))))))
      (pss_one (ps_ret (pv 1))))), ?_⟩
    have lu : us.length = ts.length := Paired.length hp
    have n40 := ok.hi
    have few := ok.few
    refine ⟨.ref wa, rfl, wa, _, 0, .int n, rfl, rfl, SqT.of hwa, rfl, n, rfl, by omega, by omega, fun R nR => ?_⟩
    rw [Int.toNat_natCast]
    refine lc_range (lo := 0) (n := n) (fun i H' => ∃ A : List Addr, H' R = some (.lst (A.map V.ref)) ∧ Rw H' A (List.replicate i []) ∧ (∀ a ∈ A, H a = none ∧ a ≠ R) ∧ Same H H') ⟨[], upd_same, ⟨List.nodup_nil, rfl, fun j a e => by simp at e⟩, fun a h => (by cases h), same_new nR⟩ ?_ ?_
    · rintro i H1 hi ⟨A, hR, rw', fr, s1⟩
      have lA := rw'.len
      rw [List.length_replicate] at lA
      refine ⟨rfl, Nat.zero_le _, fun a na => ?_⟩
      have sa := same_new (o := .lst []) na
      have aR : a ≠ R := (ne_of_none hR na).symm
      refine ⟨_, sa _ _ hR, by rw [List.length_map, lA]; exact small1000 (by omega), A ++ [a], by rw [upd_same, List.map_append]; rfl, ?_, fun b hb => ?_, Same.mut (s1.trans sa) nR⟩
      · have m := rw'.more na []
        rw [List.replicate_succ']
        refine m.ext fun b hb x e => ?_
        rw [upd_ne]
        · exact e
        · rcases List.mem_append.mp hb with z | z
          · exact (fr b z).2
          · rw [List.mem_singleton.mp z]
            exact aR
      · rcases List.mem_append.mp hb with z | z
        · exact fr b z
        · rw [List.mem_singleton.mp z]
          exact ⟨s1.free na, aR⟩
    rintro H1 ⟨A, hR, rw', fr, s1⟩
    refine ⟨.ref wa, rfl, wa, _, 1, .ref wb, rfl, rfl, SqT.of (s1 _ _ hwa), rfl, wb, us, rfl, SqT.of (s1 _ _ hwb), ?_⟩
    refine for_it (walk_enumT (xs := us)) (fun i σ' H' => ∃ (y2 y3 y4 y5 y6 : Option V) (rs : List (List Int)), σ' = [some (.ref wa), some (.ref R), y2, y3, y4, y5, y6] ∧ H' R = some (.lst (A.map V.ref)) ∧ Rw H' A rs ∧ RwD ts n i rs ∧ Same H H') ⟨_, _, _, _, _, _, rfl, hR, rw', ⟨List.length_replicate, fun p hp => by rw [List.getElem?_replicate, if_pos hp]; rfl⟩, s1⟩ (fun i σ' H' _ h => by
      obtain ⟨_, _, _, _, _, _, _, _, _, _, s⟩ := h
      exact SqT.of (s _ _ hwb)) ?_ ?_
    · rintro i x σ' H2 H3 hi ⟨y2, y3, y4, y5, y6, rs, rfl, hR2, rw2, dd, s2⟩ ⟨T, x1, y1, rfl, nT, rfl, gx, gy⟩
      obtain rfl : V.int (i : Nat) = x1 := Option.some.inj gx
      have gy : us[i]? = some y1 := gy
      obtain ⟨t, et, c, rfl, hc⟩ := Paired.at hp gy
      obtain ⟨a0, a1, b0, b1, ne⟩ := id (ok.ok t (List.mem_of_getElem? et))
      have sT := same_new (o := .tup [.int (i : Nat), .ref c]) nT
      have hT3 := upd_same (H := H2) (a := T) (o := .tup [.int (i : Nat), .ref c])
      have hR3 := sT _ _ hR2
      have rw3 := rw2.ext fun a _ x e => sT a x e
      have s3 := s2.trans sT
      generalize upd H2 T (.tup [.int (i : Nat), .ref c]) = H3 at hT3 hR3 rw3 s3
      clear sT hR2 rw2 s2
      have lA := rw3.len
      have lr := dd.1
      refine ⟨T, _, rfl, SqT.of hT3, rfl, _, _, rfl, _, _, rfl, c, _, rfl, SqT.of (s3 _ _ hc), rfl, _, _, rfl, _, _, rfl, _, _, rfl, rfl, rfl, ?_⟩
      obtain ⟨u1, e1, e2⟩ := getI (xs := A.map V.ref) a0 (by rw [List.length_map]; omega)
      rw [List.getElem?_map] at e2
      obtain ⟨r1, er1, rfl⟩ := Option.map_eq_some_iff.mp e2
      obtain ⟨row1, ew1, hr1⟩ := rw3.each _ _ er1
      have d1 := dd.2 t.one.toNat (by omega)
      rw [ew1] at d1
      rw [show ((t.one.toNat : Nat) : Int) = t.one by omega] at d1
      obtain rfl := Option.some.inj d1
      refine ⟨.ref R, rfl, .int t.one, rfl, R, _, t.one, .ref r1, rfl, rfl, SqL.of hR3, e1, .inl ⟨rfl, _, SqL.of hr1⟩, .int (i : Nat), rfl, r1, _, _, rfl, rfl, hr1, by rw [List.length_map]; have := dueN_len ts t.one i; exact small1000 (by omega), ?_⟩
      have f1 := fr r1 (List.mem_of_getElem? er1)
      have rw4 := rw3.put er1 (dueN ts t.one i ++ [(i : Int)])
      rw [List.map_append] at rw4
      have s4 := Same.mut (o := .lst ((dueN ts t.one i).map V.int ++ [V.int (i : Nat)])) s3 f1.1
      have hR4 : (upd H3 r1 (.lst ((dueN ts t.one i).map V.int ++ [V.int (i : Nat)]))) R = some (.lst (A.map V.ref)) := by rw [upd_ne (Ne.symm f1.2)]; exact hR3
      have rw4 : Rw (upd H3 r1 (.lst ((dueN ts t.one i).map V.int ++ [V.int (i : Nat)]))) A _ := rw4
      generalize upd H3 r1 (.lst ((dueN ts t.one i).map V.int ++ [V.int (i : Nat)])) = H4 at rw4 s4 hR4
      obtain ⟨u2, g1, g2⟩ := getI (xs := A.map V.ref) b0 (by rw [List.length_map]; omega)
      rw [List.getElem?_map] at g2
      obtain ⟨r2, er2, rfl⟩ := Option.map_eq_some_iff.mp g2
      obtain ⟨row2, ew2, hr2⟩ := rw4.each _ _ er2
      rw [List.getElem?_set_ne (by omega), dd.2 t.other.toNat (by omega)] at ew2
      rw [show ((t.other.toNat : Nat) : Int) = t.other by omega] at ew2
      obtain rfl := Option.some.inj ew2
      refine ⟨.ref R, rfl, .int t.other, rfl, R, _, t.other, .ref r2, rfl, rfl, SqL.of hR4, g1, .inl ⟨rfl, _, SqL.of hr2⟩, .int (i : Nat), rfl, r2, _, _, rfl, rfl, hr2, by rw [List.length_map]; have := dueN_len ts t.other i; exact small1000 (by omega), ?_⟩
      have f2 := fr r2 (List.mem_of_getElem? er2)
      have rw5 := rw4.put er2 (dueN ts t.other i ++ [(i : Int)])
      rw [List.map_append] at rw5
      exact ⟨_, _, _, _, _, _, rfl, by rw [upd_ne (Ne.symm f2.2)]; exact hR4, rw5, dd.put et (ok.ok t (List.mem_of_getElem? et)), Same.mut s4 f2.1⟩
    · rintro σ' H2 ⟨y2, y3, y4, y5, y6, rs, rfl, hR2, rw2, dd, s2⟩
      rw [lu] at dd
      exact ⟨.ref R, rfl, q R A rs H2 hR2 rw2 dd s2⟩
end
/-! ### orders judged by the law -/
def oddV (y : V) : Bool := isB y || !isI y
def rowB (H : Hp) (due : List Int) (x : V) : Bool := match parts H x with
  | some ys => (ys.filter oddV).isEmpty && (decide (ys.length = due.length) && (due.filter fun k => !inV (V.int k) ys).isEmpty)
  | none => false
def judgB (H : Hp) (n : Nat) (ts : List Tie) (v : V) : Bool := match parts H v with
  | some xs => decide (xs.length = n) && (List.range n).all fun p : Nat => rowB H (dueN ts (p : Int) ts.length) (xs.getD p .non)
  | none => false
def Thing51 (H : Hp) (v : V) : Prop := Thing2 H v ∧ ∀ xs, parts H v = some xs → xs.length ≤ 1000
theorem kn_parts_same {H H' : Hp} (s : Same H H') {v : V} (h : Kn H v) : parts H' v = parts H v := by
  cases v with
  | ref a =>
    unfold parts
    rcases h with ⟨xs, h⟩ | ⟨xs, h⟩ | ⟨xs, h⟩
    · simp only [h, s _ _ h]
    · simp only [h, s _ _ h]
    · simp only [h, s _ _ h]
  | _ => rfl
theorem kn_same {H H' : Hp} (s : Same H H') {v : V} (h : Kn H v) : Kn H' v := by
  cases v with
  | ref a =>
    rcases h with ⟨xs, h⟩ | ⟨xs, h⟩ | ⟨xs, h⟩
    · exact .inl ⟨xs, s _ _ h⟩
    · exact .inr (.inl ⟨xs, s _ _ h⟩)
    · exact .inr (.inr ⟨xs, s _ _ h⟩)
  | _ => exact h
theorem odd_ints {ys : List V} : (ys.filter oddV).isEmpty = true → ∃ zs : List Int, ys = zs.map V.int := by
  induction ys with
  | nil => exact fun _ => ⟨[], rfl⟩
  | cons y ys ih =>
    intro h
    rw [List.filter_cons] at h
    split at h
    · cases h
    · rename_i no
      obtain ⟨zs, rfl⟩ := ih h
      cases y with
      | int i => exact ⟨i :: zs, rfl⟩
      | _ => exact absurd rfl no
theorem ints_odd (zs : List Int) : ((zs.map V.int).filter oddV).isEmpty = true := by
  rw [List.isEmpty_iff, List.filter_eq_nil_iff]
  intro y hy
  obtain ⟨z, _, rfl⟩ := List.mem_map.mp hy
  exact Bool.false_ne_true
theorem in51 (k : Int) (ks : List Int) : inV (.int k) (ks.map V.int) = ks.contains k := by
  unfold inV
  rw [Bool.eq_iff_iff, List.any_map, List.any_eq_true, List.contains_iff_mem]
  constructor
  · rintro ⟨x, hx, e⟩
    have e' : (x == k) = true := e
    rw [beq_iff_eq] at e'
    rw [← e']
    exact hx
  · intro h
    exact ⟨k, h, by show (k == k) = true; simp⟩
theorem flat51 (ks : List Int) : (ks.map V.int).all flatV = true := by
  rw [List.all_eq_true]
  intro x hx
  obtain ⟨k, _, rfl⟩ := List.mem_map.mp hx
  rfl
theorem in_end (p : Int) (t : Tie) : inV (.int p) [V.int t.one, .int t.other] = isEnd p t := by
  rw [show [V.int t.one, .int t.other] = [t.one, t.other].map V.int from rfl, in51, Bool.eq_iff_iff, List.contains_iff_mem]
  unfold isEnd
  rw [Bool.or_eq_true, decide_eq_true_iff, decide_eq_true_iff]
  simp only [List.mem_cons, List.not_mem_nil, or_false]
  constructor
  · rintro (h | h)
    · exact .inl h.symm
    · exact .inr h.symm
  · rintro (h | h)
    · exact .inl h.symm
    · exact .inr h.symm
def spJudged : Sp := fun vs H Q _ => ∃ (wv v : V) (n : Nat) (ts : List Tie), vs = [wv, v] ∧ WebAt H wv n ts ∧ WebF n ts ∧ Thing51 H v ∧ ∀ H', Same H H' → Q (.bl (judgB H n ts v)) H'
section
variable {P : Program} {w : World} {K : PySem.W.Frag} {mg : Str → Option Value} {base : Heap}
set_option maxHeartbeats 4000000 in
theorem ok_l_judged {f : Addr} {fd : FuncData} (F : Fun K "_law_judged" "_law_judged" s_l_judged f fd) (M : Free mg) (m_enumerate : mg "enumerate" = none) : FnOk P w K mg base CX0 1 f fd ["_law_web_here", "_law_thing"] spJudged := by
  refine F.ok sc_l_judged (fun vs H Q E h => ?_) (fun cdv A outer s H vs Q E hr h => ?_)
  · obtain ⟨wv, v, n, ts, rfl, _⟩ := h
    rfl
  · obtain ⟨wv, v, n, ts, rfl, ⟨wa, wb, us, rfl, hwa, hwb, hp⟩, ok, ⟨⟨hk, hsub⟩, hfew⟩, q⟩ := h
    refine ⟨_, (pss_cons (ps_if (PW.pt (pw_or (pt_not (pt_val (pe_callB call_isi (by rfl) M.isinstance (by decide +kernel) (pa_cons (pv 1) (pa_cons (pe_bltn (v := .ty "tuple") (by rfl) M.tuple (by decide +kernel) rfl) pa_nil))))) (pw_or1 (pt_cmpR op_ne (pe_callB call_len_seq (by rfl) M.len PySem.boot_len (pa_cons (pv 1) pa_nil)) (pe_ix ix_tup (pv 0) pe_int (fun _ _ => rfl)) (nomark _)))))
        (pss_one (ps_ret pe_bl))
        pss_nil)
      (pss_cons (ps_for PassesOwn.never rfl (pi_range1 (by rfl) M.range (pa_cons (pe_ix ix_tup (pv 0) pe_int (fun _ _ => rfl)) pa_nil)) (pg_name (i := 2) sc_l_judged.nd rfl (.inr rfl))
        (pss_cons (ps_set (i := 3) sc_l_judged.nd rfl (.inr rfl) (pe_ix ix_tup (pv 1) (pv 2) (fun _ _ => rfl)))
        (pss_cons (ps_if (pt_not (pt_val (pe_callB call_isi (by rfl) M.isinstance (by decide +kernel) (pa_cons (pv 3) (pa_cons (pe_bltn (v := .ty "tuple") (by rfl) M.tuple (by decide +kernel) rfl) pa_nil)))))
          (pss_one (ps_ret pe_bl))
          pss_nil)
        (pss_cons (ps_setLc (i := 4) (own := [("_law_number", 5), ("_law_tie", 6)]) (g := (gTup K 2 (gCons (gName 5) (gCons (gName 6) gNil)))) (te := tVar 5) rfl sc_l_judged.nd rfl rfl (sw_true rfl rfl rfl (by decide +kernel)) (pi_enumT (by rfl) m_enumerate (pa_cons (pe_ix ix_tup (pv 0) pe_int (fun _ _ => rfl)) pa_nil)) (blkOk_by (N := N_l_judged) (sc := defScope s_l_judged) (own := [("_law_number", 5), ("_law_tie", 6)]) (by decide +kernel)) (fun _ _ _ _ _ => (pg_tup rfl (pgs_cons (pg_name (i := 5) sc_l_judged.nd rfl (.inl rfl)) (pgs_cons (pg_name (i := 6) sc_l_judged.nd rfl (.inl rfl)) pgs_nil)))) (fun _ _ _ _ _ => (pts_one (pt_cmpR (r := rIn K false) op_in_seq (pv 2) (pe_slice sl_tupU (pv 6) po_none (po_some pe_int)) rfl))) (fun _ _ _ _ _ => (pv 5)))
        (pss_cons (ps_if (pt_cmpR (op_neE hr.units0) (pe_lc (own := [("_law_one", 7)]) (g := (gName 7)) (te := tVar 7) rfl sc_l_judged.nd (pi_tup (pv 3)) (blkOk_by (N := N_l_judged) (sc := defScope s_l_judged) (own := [("_law_one", 7)]) (by decide +kernel)) (fun _ _ _ _ _ => (pg_name (i := 7) sc_l_judged.nd rfl (.inl rfl))) (fun _ _ _ _ _ => (pts_one (PW.pt (pw_or (pt_val (pe_callB (r := rIsi K) call_isi (by rfl) M.isinstance (by decide +kernel) (pa_cons (pv 7) (pa_cons (pe_bltn (v := .ty "bool") (by rfl) M.bool (by decide +kernel) rfl) pa_nil)))) (pw_or1 (pt_not (pt_val (pe_callB (r := rIsi K) call_isi (by rfl) M.isinstance (by decide +kernel) (pa_cons (pv 7) (pa_cons (pe_bltn (v := .ty "int") (by rfl) M.int (by decide +kernel) rfl) pa_nil)))))))))) (fun _ _ _ _ _ => (pv 7))) (pe_lst pa_nil) (nomark _))
          (pss_one (ps_ret pe_bl))
          pss_nil)
        (pss_one (ps_if (PW.pt (pw_or (pt_cmpR op_ne (pe_callB call_len_seq (by rfl) M.len PySem.boot_len (pa_cons (pv 3) pa_nil)) (pe_callB call_len_seq (by rfl) M.len PySem.boot_len (pa_cons (pv 4) pa_nil)) (nomark _)) (pw_or1 (pt_cmpR (op_neE hr.units0) (pe_lc (own := [("_law_number", 5)]) (g := (gName 5)) (te := tVar 5) rfl sc_l_judged.nd (pi_list (pv 4)) (blkOk_by (N := N_l_judged) (sc := defScope s_l_judged) (own := [("_law_number", 5)]) (by decide +kernel)) (fun _ _ _ _ _ => (pg_name (i := 5) sc_l_judged.nd rfl (.inl rfl))) (fun _ _ _ _ _ => (pts_one (pt_cmpR (r := rIn K true) op_notIn_seq (pv 5) (pv 3) rfl))) (fun _ _ _ _ _ => (pv 5))) (pe_lst pa_nil) (nomark _)))))
          (pss_one (ps_ret pe_bl))
          pss_nil)))))))
      (pss_one (ps_ret pe_bl)))), ?_⟩
    have lu : us.length = ts.length := Paired.length hp
    have n40 := ok.hi
    have few := ok.few
    obtain ⟨t1, h1, e1⟩ := kn_tup (K := K) hk
    refine ⟨v, rfl, v, _, t1, _, _, rfl, .ty "tuple", h1, e1, _, rfl, ?_⟩
    cases hi : isT H v with
    | false =>
      have e : judgB H n ts v = false := by unfold judgB; rw [parts_none hi]
      rw [e] at q
      exact q _ (fun _ _ e => e)
    | true =>
    obtain ⟨a, xs, rfl, ea⟩ := isT_at hi
    have hxs := hsub xs (parts_of' ea)
    have lxs := hfew xs (parts_of' ea)
    refine ⟨.ref a, rfl, a, _, rfl, .inr (SqT.of ea), .ref wa, rfl, wa, _, 0, .int n, rfl, rfl, SqT.of hwa, rfl, rfl, _, rfl, ?_⟩
    have ej : judgB H n ts (.ref a) = (decide (xs.length = n) && (List.range n).all fun p : Nat => rowB H (dueN ts (p : Int) ts.length) (xs.getD p .non)) := by unfold judgB; rw [parts_of' ea]
    rw [ej] at q
    refine ite2 (fun h => ?_) (fun h => ?_)
    · have hl : ¬ xs.length = n := fun z => by
        rw [z, decide_eq_true rfl] at h
        cases h
      rw [decide_eq_false hl] at q
      exact q _ (fun _ _ e => e)
    have hl : xs.length = n := Classical.byContradiction fun z => h (by rw [decide_eq_false (fun w => z (by have := V.int.inj w; omega))]; rfl)
    rw [decide_eq_true hl, Bool.true_and] at q
    clear h ej e1 h1 hi
    refine ⟨.ref wa, rfl, wa, _, 0, .int n, rfl, rfl, SqT.of hwa, rfl, n, rfl, by omega, by omega, ?_⟩
    rw [Int.toNat_natCast]
    refine for_range (lo := 0) (n := n) (fun i σ' H' => ∃ y2 y3 y4 y5 y6 y7 : Option V, σ' = [some (.ref wa), some (.ref a), y2, y3, y4, y5, y6, y7] ∧ (∀ p < i, rowB H (dueN ts (p : Int) ts.length) (xs.getD p .non) = true) ∧ Same H H') ⟨_, _, _, _, _, _, rfl, fun p hp => absurd hp (Nat.not_lt_zero _), fun _ _ e => e⟩ ?_ ?_
    · rintro i σ' H1 hi ⟨y2, y3, y4, y5, y6, y7, rfl, hall, s1⟩
      have ex : xs[i]? = some (xs[i]'(by omega)) := List.getElem?_eq_getElem _
      have eg : xs.getD i .non = xs[i]'(by omega) := by rw [List.getD_eq_getElem?_getD, ex]; rfl
      generalize xs[i]'(by omega) = x at ex eg
      have hx := hxs x (List.mem_of_getElem? ex)
      rw [Int.zero_add]
      refine ⟨.ref a, rfl, .int (i : Nat), rfl, a, _, i, x, rfl, rfl, SqT.of (s1 _ _ ea), atI_nat ex, ?_⟩
      have bad : ∀ H', Same H H' → rowB H (dueN ts (i : Int) ts.length) x = false → Q (.bl false) H' := fun H' s' hb => by
        have e : ((List.range n).all fun p : Nat => rowB H (dueN ts (p : Int) ts.length) (xs.getD p .non)) = false := by
          rw [List.all_eq_false]
          exact ⟨i, List.mem_range.mpr hi, by rw [eg, hb]; exact Bool.false_ne_true⟩
        rw [e] at q
        exact q _ s'
      have hk1 := kn_same s1 hx.1
      obtain ⟨t1, h1, e1⟩ := kn_tup (K := K) hk1
      refine ⟨x, rfl, x, _, t1, _, _, rfl, .ty "tuple", h1, e1, _, rfl, ?_⟩
      cases hi' : isT H1 x with
      | false =>
        refine bad _ s1 ?_
        unfold rowB
        rw [← kn_parts_same s1 hx.1, parts_none hi']
      | true =>
      obtain ⟨o, ys, rfl, eo⟩ := isT_at hi'
      have ep := parts_of' eo
      rw [kn_parts_same s1 hx.1] at ep
      obtain ⟨hys, lys⟩ := hx.2 ys ep
      have er : rowB H (dueN ts (i : Int) ts.length) (.ref o) = ((ys.filter oddV).isEmpty && (decide (ys.length = (dueN ts (i : Int) ts.length).length) && ((dueN ts (i : Int) ts.length).filter fun k => !inV (V.int k) ys).isEmpty)) := by unfold rowB; rw [ep]
      rw [er] at bad
      refine ⟨.ref wa, rfl, wa, _, 1, .ref wb, rfl, rfl, SqT.of (s1 _ _ hwa), rfl, wb, us, rfl, SqT.of (s1 _ _ hwb), fun Z nZ => ?_⟩
      refine lc_it (walk_enumT (xs := us)) (fun j H' => H' Z = some (.lst ((dueN ts i j).map V.int)) ∧ Same H1 H') ⟨upd_same, same_new nZ⟩ (fun j H' _ h => SqT.of (h.2 _ _ (s1 _ _ hwb))) ?_ ?_
      · rintro j x H2 H3 hj ⟨hZ, s2⟩ ⟨T, x1, y, rfl, nT, rfl, g1, g2⟩
        obtain rfl : V.int (j : Nat) = x1 := Option.some.inj g1
        obtain ⟨t, et, c, rfl, hc⟩ := Paired.at hp g2
        have s3 := s2.trans (same_new (o := .tup [.int (j : Nat), .ref c]) nT)
        have hZ3 := same_new (o := .tup [.int (j : Nat), .ref c]) nT _ _ hZ
        have hc3 := (s1.trans s3) _ _ hc
        have hT3 := upd_same (H := H2) (a := T) (o := .tup [.int (j : Nat), .ref c])
        generalize upd H2 T (.tup [.int (j : Nat), .ref c]) = H3 at s3 hZ3 hc3 hT3
        refine ⟨T, _, rfl, SqT.of hT3, rfl, _, _, rfl, _, _, rfl, rfl, rfl, .int (i : Nat), rfl, .ref c, rfl, 2, rfl, c, _, rfl, hc3, fun r1 H4 s4 h4 => ?_⟩
        have h4 : H4 r1 = some (.tup [.int t.one, .int t.other]) := h4
        refine ⟨r1, _, rfl, .inr (SqT.of h4), rfl, rfl, _, rfl, ?_⟩
        have et2 : tieAt ts (j : Nat) = t := by
          unfold tieAt
          rw [Int.toNat_natCast, List.getD_eq_getElem?_getD, et]
          rfl
        have lb := dueN_len ts i j
        have st := s3.trans s4
        have hZ4 := s4 _ _ hZ3
        rw [dueN_succ, et2, List.map_append]
        show (if inV (.int (i : Nat)) [V.int t.one, .int t.other] = true then _ else _)
        rw [in_end]
        cases hb : isEnd (i : Nat) t with
        | true =>
          rw [if_pos rfl, if_pos rfl]
          exact ⟨.int j, rfl, _, hZ4, by rw [List.length_map]; exact small1000 (by omega), upd_same, Same.mut st nZ⟩
        | false =>
          rw [if_neg Bool.false_ne_true, if_neg Bool.false_ne_true, List.map_nil, List.append_nil]
          exact ⟨hZ4, st⟩
      rintro H2 ⟨hZ, s2⟩
      rw [lu] at hZ
      have s02 := s1.trans s2
      generalize hdue : dueN ts (i : Int) ts.length = due at hZ er bad
      have ldue : due.length ≤ 120 := by rw [← hdue]; have := dueN_len ts i ts.length; omega
      refine ⟨.ref o, rfl, o, rfl, ⟨_, SqT.of (s2 _ _ eo)⟩, fun Y nY => ?_⟩
      refine lc_tup (xs := ys) (fun j H' => H' Y = some (.lst ((ys.take j).filter oddV)) ∧ Same H2 H') ⟨upd_same, same_new nY⟩ (fun j H' _ h => SqT.of ((s2.trans h.2) _ _ eo)) ?_ ?_
      · rintro j y H3 ej ⟨hY, s3⟩
        have hky := kn_same (s02.trans s3) (hys y (List.mem_of_getElem? ej))
        obtain ⟨tb, hb1, hb2⟩ := kn_bool (K := K) hky
        obtain ⟨ti, hi1, hi2⟩ := kn_int (K := K) hky
        have lt : ((ys.take j).filter oddV).length ≤ 1000 := by
          have := List.length_filter_le oddV (ys.take j)
          rw [List.length_take] at this
          omega
        rw [List.take_add_one, ej, List.filter_append]
        refine ⟨rfl, y, rfl, y, _, tb, _, _, rfl, .ty "bool", hb1, hb2, _, rfl, ?_⟩
        have yes : oddV y = true → ∃ acc, H3 Y = some (.lst acc) ∧ acc.length < sizeLine ∧ upd H3 Y (.lst (acc ++ [y])) Y = some (.lst ((ys.take j).filter oddV ++ (some y).toList.filter oddV)) ∧ Same H2 (upd H3 Y (.lst (acc ++ [y]))) := fun h => ⟨_, hY, small1000 lt, by rw [upd_same]; show _ = some (HO.lst (_ ++ [y].filter oddV)); rw [List.filter_cons, if_pos h]; rfl, Same.mut s3 nY⟩
        cases hB : isB y with
        | true => exact ⟨y, rfl, yes (by unfold oddV; rw [hB]; rfl)⟩
        | false =>
          refine ⟨y, rfl, y, _, ti, _, _, rfl, .ty "int", hi1, hi2, _, rfl, ?_⟩
          cases hI : isI y with
          | false => exact ⟨y, rfl, yes (by unfold oddV; rw [hB, hI]; rfl)⟩
          | true =>
            have e : (some y).toList.filter oddV = [] := by
              show [y].filter oddV = []
              rw [List.filter_cons, if_neg (by unfold oddV; rw [hB, hI]; exact Bool.false_ne_true)]
              rfl
            rw [e, List.append_nil]
            exact ⟨hY, s3⟩
      rintro H3 ⟨hY, s3⟩
      rw [List.take_length] at hY
      have hZ3 := s3 _ _ hZ
      have s03 := s02.trans s3
      refine ⟨Nat.zero_le _, fun E nE => ⟨Y, E, _, rfl, rfl, SqL.of (same_new nE _ _ hY), SqL.of upd_same, _, rfl, ?_⟩⟩
      have sE := same_new (o := .lst []) nE
      have s04 := s03.trans sE
      have hZ4 := sE _ _ hZ3
      generalize upd H3 E (.lst []) = H4 at s04 hZ4
      clear sE nE hY hZ3 s03 s3 s02 hZ
      cases ho : (ys.filter oddV).isEmpty with
      | false =>
        refine bad _ s04 ?_
        rw [ho]
        rfl
      | true =>
      rw [ho, Bool.true_and] at er bad
      obtain ⟨zs, rfl⟩ := odd_ints ho
      have eo4 := s04 _ _ (show H o = some (.tup (zs.map V.int)) from by obtain ⟨o', e1, e2⟩ := parts_at ep; cases e1; exact e2)
      refine ⟨.ref o, rfl, o, _, rfl, .inr (SqT.of eo4), .ref Z, rfl, Z, _, rfl, .inl (SqL.of hZ4), rfl, _, rfl, ?_⟩
      by_cases hlen : ¬ (zs.map V.int).length = due.length
      · rw [decide_eq_false (fun w => hlen (by have := V.int.inj w; rw [List.length_map] at this ⊢; rw [List.length_map] at this; omega))]
        refine bad _ s04 ?_
        rw [decide_eq_false hlen]
        rfl
      have hlen := Classical.not_not.mp hlen
      rw [decide_eq_true hlen, Bool.true_and] at er bad
      rw [decide_eq_true (show V.int (((zs.map V.int).length : Nat) : Int) = V.int (((due.map V.int).length : Nat) : Int) by rw [hlen, List.length_map])]
      refine ⟨.ref Z, rfl, Z, rfl, ⟨_, SqL.of hZ4⟩, fun X nX => ?_⟩
      refine lc_list (xs := due.map V.int) (fun j H' => H' X = some (.lst (((due.take j).filter fun k => !inV (V.int k) (zs.map V.int)).map V.int)) ∧ Same H4 H') ⟨upd_same, same_new nX⟩ (fun j H' _ h => SqL.of (h.2 _ _ hZ4)) ?_ ?_
      · rintro j y H5 ej ⟨hX, s5⟩
        rw [List.getElem?_map] at ej
        obtain ⟨k, ek, rfl⟩ := Option.map_eq_some_iff.mp ej
        refine ⟨rfl, .int k, rfl, .ref o, rfl, o, _, rfl, .inr (SqT.of (s5 _ _ eo4)), rfl, flat51 _, _, rfl, ?_⟩
        have lt : ((due.take j).filter fun k => !inV (V.int k) (zs.map V.int)).length ≤ 1000 := by
          have := List.length_filter_le (fun k => !inV (V.int k) (zs.map V.int)) (due.take j)
          rw [List.length_take] at this
          omega
        rw [List.take_add_one, ek, List.filter_append, List.map_append]
        cases hb : inV (V.int k) (zs.map V.int) with
        | false =>
          refine ⟨.int k, rfl, _, hX, by rw [List.length_map]; exact small1000 lt, ?_, Same.mut s5 nX⟩
          rw [upd_same]
          show some (HO.lst (_ ++ [V.int k])) = some (HO.lst (_ ++ ([k].filter fun k => !inV (V.int k) (zs.map V.int)).map V.int))
          rw [List.filter_cons, hb]
          rfl
        | true =>
          have e : (some k).toList.filter (fun k => !inV (V.int k) (zs.map V.int)) = [] := by
            show [k].filter (fun k => !inV (V.int k) (zs.map V.int)) = []
            rw [List.filter_cons, hb]
            rfl
          rw [e, List.map_nil, List.append_nil]
          exact ⟨hX, s5⟩
      rintro H5 ⟨hX, s5⟩
      rw [List.length_map, List.take_length] at hX
      refine ⟨Nat.zero_le _, fun E nE => ⟨X, E, _, rfl, rfl, SqL.of (same_new nE _ _ hX), SqL.of upd_same, _, rfl, ?_⟩⟩
      have s06 := (s04.trans s5).trans (same_new (o := .lst []) nE)
      generalize upd H5 E (.lst []) = H6 at s06
      have em : ∀ l : List Int, (l.map V.int).isEmpty = l.isEmpty := fun l => by cases l <;> rfl
      rw [em]
      cases hn : (due.filter fun k => !inV (V.int k) (zs.map V.int)).isEmpty with
      | false => exact bad _ s06 hn
      | true =>
        refine ⟨_, _, _, _, _, _, rfl, fun p hp => ?_, s06⟩
        by_cases e : p = i
        · rw [e, eg, hdue, er]
          exact hn
        · exact hall p (by omega)
    · rintro σ' H1 ⟨y2, y3, y4, y5, y6, y7, rfl, hall, s1⟩
      have e : ((List.range n).all fun p : Nat => rowB H (dueN ts (p : Int) ts.length) (xs.getD p .non)) = true := by
        rw [List.all_eq_true]
        exact fun p hp => hall p (List.mem_range.mp hp)
      rw [e] at q
      exact q _ s1
end
/-! ### is_orders -/
theorem perm_of_sub : ∀ {ds zs : List Int}, ds.Nodup → (∀ x ∈ ds, x ∈ zs) → zs.length = ds.length → zs.Perm ds
  | [], zs, _, _, l => by rw [List.length_eq_zero_iff.mp l]
  | d :: ds, zs, nd, s, l => by
    have h1 := s d List.mem_cons_self
    refine (List.perm_cons_erase h1).trans (List.Perm.cons d (perm_of_sub (List.nodup_cons.mp nd).2 (fun x hx => ?_) ?_))
    · have ne : x ≠ d := fun z => (List.nodup_cons.mp nd).1 (z ▸ hx)
      exact (List.mem_erase_of_ne ne).mpr (s x (List.mem_cons_of_mem _ hx))
    · rw [List.length_erase_of_mem h1, l]
      rfl
theorem le_lt_same {ns ms : List Int} (h : ns.Pairwise (· ≤ ·)) (p : ns.Perm ms) (r : ms.Pairwise (· < ·)) : ns = ms := by
  have nd : ns.Nodup := p.nodup_iff.mpr (r.imp fun {a b} h => by omega)
  have h2 : ns.Pairwise (· < ·) := (List.Pairwise.and h nd).imp fun {a b} h => by
    have h1 := h.1
    have h2 := h.2
    omega
  exact List.Perm.eq_of_pairwise (fun a b _ _ h1 h2 => absurd (show a < b from h1) (by have : b < a := h2; omega)) h2 r p
theorem rowB_iff {H : Hp} {due : List Int} {x : V} (sd : due.Pairwise (· < ·)) : rowB H due x = true ↔ ∃ zs : List Int, parts H x = some (zs.map V.int) ∧ zs.Perm due := by
  have nd : due.Nodup := sd.imp fun {a b} h => by omega
  unfold rowB
  cases e : parts H x with
  | none =>
    constructor
    · intro h
      cases h
    · rintro ⟨zs, h, _⟩
      cases h
  | some ys =>
    constructor
    · intro h
      have h : ((ys.filter oddV).isEmpty && (decide (ys.length = due.length) && (due.filter fun k => !inV (V.int k) ys).isEmpty)) = true := h
      rw [Bool.and_eq_true, Bool.and_eq_true] at h
      obtain ⟨h1, h2, h3⟩ := h
      obtain ⟨zs, rfl⟩ := odd_ints h1
      refine ⟨zs, rfl, perm_of_sub nd (fun k hk => ?_) (by have := of_decide_eq_true h2; rw [List.length_map] at this; exact this)⟩
      rw [List.isEmpty_iff, List.filter_eq_nil_iff] at h3
      have h4 := h3 k hk
      rw [in51] at h4
      cases hc : zs.contains k with
      | true => exact List.contains_iff_mem.mp hc
      | false => rw [hc] at h4; exact absurd rfl h4
    · rintro ⟨zs, h, p⟩
      obtain rfl := Option.some.inj h
      show ((((zs.map V.int).filter oddV).isEmpty && (decide ((zs.map V.int).length = due.length) && (due.filter fun k => !inV (V.int k) (zs.map V.int)).isEmpty)) = true)
      rw [ints_odd, List.length_map, decide_eq_true p.length_eq, Bool.true_and, Bool.true_and, List.isEmpty_iff, List.filter_eq_nil_iff]
      intro k hk
      rw [in51, List.contains_iff_mem.mpr (p.mem_iff.mpr hk)]
      exact Bool.false_ne_true
theorem row_unl {H : Hp} {ts : List Tie} {p : Int} {x : V} (h : rowB H (dueN ts p ts.length) x = true) : unl ts.length (parts H x) = true := by
  have sd := dueN_sorted ts p ts.length
  obtain ⟨zs, e, pm⟩ := (rowB_iff sd).mp h
  rw [e]
  show ((zs.map V.int).all (wbelow ts.length) && decide (zs.map V.int).Nodup) = true
  rw [Bool.and_eq_true, decide_eq_true_iff, nodup_ints, List.all_eq_true]
  refine ⟨fun y hy => ?_, pm.nodup_iff.mpr (sd.imp fun {a b} h => by omega)⟩
  obtain ⟨z, hz, rfl⟩ := List.mem_map.mp hy
  obtain ⟨h0, h1, _⟩ := dueN_mem.mp (pm.mem_iff.mp hz)
  show (decide (0 ≤ z) && decide (z < (ts.length : Int))) = true
  rw [decide_eq_true h0, decide_eq_true h1]
  rfl
theorem row_sort {H : Hp} {due zs ss : List Int} {x : V} (sd : due.Pairwise (· < ·)) (e : parts H x = some (zs.map V.int)) (pm : ss.Perm zs) (so : ss.Pairwise (· ≤ ·)) : rowB H due x = decide (ss = due) := by
  rw [Bool.eq_iff_iff, rowB_iff sd, decide_eq_true_iff]
  constructor
  · rintro ⟨zs', e', p⟩
    rw [e] at e'
    have := Option.some.inj e'
    have ez : zs = zs' := by
      have f := congrArg (List.map toI) this
      rw [toI_map, toI_map] at f
      exact f
    subst ez
    exact le_lt_same so (pm.trans p) sd
  · intro h
    exact ⟨zs, e, by rw [← h]; exact pm.symm⟩
def spIsOrders (Ps : List Addr) : Sp := fun vs H Q _ => ∃ (wv v : V) (n : Nat) (ts : List Tie), vs = [wv, v] ∧ WebAt H wv n ts ∧ WebF n ts ∧ Thing51 H v ∧ Tabs Ps H ∧ ∀ H', Kt Ps H H' → Q (.bl (judgB H n ts v)) H'
section
variable {P : Program} {w : World} {K : PySem.W.Frag} {mg : Str → Option Value} {base : Heap}
set_option maxHeartbeats 4000000 in
theorem ok_is_orders {f c Pt : Addr} {fd : FuncData} {Ps : List Addr} (F : FunC K "is_orders" "is_orders" s_is_orders f fd c) (TB : GxR.TabB base mg c Pt) (hPt : Pt ∈ Ps) (M : Free mg) (m_all : mg "all" = none) (m_sorted : mg "sorted" = none) (m_zip : mg "zip" = none) (D_is_tuple_of : Df P w K mg base 1 "is_tuple_of" ["length", "thing"] spTupleOf) (D_are_unlike_below : Df P w K mg base 4 "are_unlike_below" ["limit", "thing"] (spUnlike Ps)) (D_ties_at : Df P w K mg base 1 "ties_at" ["web"] spTiesAt) : FnOk P w K mg base CX0 6 f fd ["web", "thing"] (spIsOrders Ps) := by
  obtain ⟨f_is_tuple_of, fd_is_tuple_of, G_is_tuple_of, g_is_tuple_of, k_is_tuple_of, b_is_tuple_of⟩ := D_is_tuple_of
  obtain ⟨f_are_unlike_below, fd_are_unlike_below, G_are_unlike_below, g_are_unlike_below, k_are_unlike_below, b_are_unlike_below⟩ := D_are_unlike_below
  obtain ⟨f_ties_at, fd_ties_at, G_ties_at, g_ties_at, k_ties_at, b_ties_at⟩ := D_ties_at
  refine F.ok sc_is_orders (fun vs H Q E h => ?_) (fun A outer s H vs Q E hr h => ?_)
  · obtain ⟨wv, v, n, ts, rfl, _⟩ := h
    rfl
  · obtain ⟨wv, v, n, ts, rfl, ⟨wa, wb, us, rfl, hwa, hwb, hp⟩, ok, ⟨⟨hk, hsub⟩, hfew⟩, hT, q⟩ := h
    refine ⟨_, (pss_cons (ps_if (pt_not (pt_val (pe_call G_is_tuple_of (hr.mono (by decide)) (by rfl) g_is_tuple_of k_is_tuple_of b_is_tuple_of .nil pass0 (pa_cons (pe_ix ix_tup (pv 0) pe_int (fun _ _ => rfl)) (pa_cons (pv 1) pa_nil)))))
        (pss_one (ps_ret pe_bl))
        pss_nil)
      (pss_cons (ps_if (pt_not (pt_val (pe_all (k := 4) (own := [("row", 2)]) (g := gName 2) hr TB rfl rfl sc_is_orders.nd (by rfl) m_all (pi_tup (pv 1)) (blkOk_by (N := N_is_orders) (sc := defScope s_is_orders) (own := [("row", 2)]) (by decide +kernel)) ⟨rfl, by decide +kernel, by decide +kernel⟩ (show (".0" : Str) ∉ N_is_orders by decide +kernel) (fun _ _ _ _ _ _ _ => (pg_name (i := 2) sc_is_orders.nd rfl (.inl rfl))) (fun _ _ _ _ _ _ _ hr' => (pe_call G_are_unlike_below hr' (by rfl) g_are_unlike_below k_are_unlike_below b_are_unlike_below .nil pass0 (pa_cons (pe_callB (r := rLenKF K) call_len_seq (by rfl) M.len PySem.boot_len (pa_cons (pe_ix (r := rIxT K) ix_tup (pv 0) pe_int (fun _ _ => rfl)) pa_nil)) (pa_cons (pv 2) pa_nil)))))))
        (pss_one (ps_ret pe_bl))
        pss_nil)
      (pss_one (ps_ret (pe_all (k := 4) (own := [("row", 2), ("ties", 3)]) (g := gTup K 2 (gCons (gName 2) (gCons (gName 3) gNil))) hr TB rfl rfl sc_is_orders.nd (by rfl) m_all (pi_zipM (by rfl) m_zip (pa_cons (pv 1) (pa_cons (pe_call G_ties_at (hr.mono (by decide)) (by rfl) g_ties_at k_ties_at b_ties_at .nil pass0 (pa_cons (pv 0) pa_nil)) pa_nil))) (blkOk_by (N := N_is_orders) (sc := defScope s_is_orders) (own := [("row", 2), ("ties", 3)]) (by decide +kernel)) ⟨rfl, by decide +kernel, by decide +kernel⟩ (show (".0" : Str) ∉ N_is_orders by decide +kernel) (fun _ _ _ _ _ _ _ => (pg_tup rfl (pgs_cons (pg_name (i := 2) sc_is_orders.nd rfl (.inl rfl)) (pgs_cons (pg_name (i := 3) sc_is_orders.nd rfl (.inl rfl)) pgs_nil)))) (fun _ _ _ _ _ _ _ hr' => (pe_cmpR (r := rEqD K) (op_eqD hr'.units) (pe_callB (r := rSortedTI K) cr_sortedTI (by rfl) m_sorted (by decide +kernel) (pa_cons (pv 2) pa_nil)) (pv 3) (nomark _)))))))), ?_⟩
    have lu : us.length = ts.length := Paired.length hp
    refine ⟨.ref wa, rfl, wa, _, 0, .int n, rfl, rfl, SqT.of hwa, rfl, v, rfl, n, v, rfl, hk, _, rfl, ?_⟩
    cases hpv : parts H v with
    | none =>
      have e1 : lenIs H v n = false := by unfold lenIs; rw [hpv]
      have e2 : judgB H n ts v = false := by unfold judgB; rw [hpv]
      rw [e1]
      rw [e2] at q
      exact q _ (Kt.refl hT)
    | some xs =>
    obtain ⟨a, rfl, ea⟩ := parts_at hpv
    have e1 : lenIs H (.ref a) n = decide ((xs.length : Int) = n) := by unfold lenIs; rw [hpv]
    rw [e1]
    have e2 : judgB H n ts (.ref a) = (decide (xs.length = n) && (List.range n).all fun p : Nat => rowB H (dueN ts (p : Int) ts.length) (xs.getD p .non)) := by unfold judgB; rw [hpv]
    rw [e2] at q
    by_cases hl : ¬ xs.length = n
    · rw [decide_eq_false (show ¬ (xs.length : Int) = n by omega)]
      rw [decide_eq_false hl] at q
      exact q _ (Kt.refl hT)
    have hl := Classical.not_not.mp hl
    rw [decide_eq_true (show (xs.length : Int) = n by omega)]
    rw [decide_eq_true hl, Bool.true_and] at q
    have hxs := hsub xs hpv
    have bad : ∀ H' (i : Nat) x, Kt Ps H H' → xs[i]? = some x → rowB H (dueN ts (i : Int) ts.length) x = false → Q (.bl false) H' := fun H' i x k' ex hb => by
      have e : ((List.range n).all fun p : Nat => rowB H (dueN ts (p : Int) ts.length) (xs.getD p .non)) = false := by
        rw [List.all_eq_false]
        refine ⟨i, List.mem_range.mpr (by have := (List.getElem?_eq_some_iff.mp ex).1; omega), ?_⟩
        rw [List.getD_eq_getElem?_getD, ex]
        show ¬ rowB H _ x = true
        rw [hb]
        exact Bool.false_ne_true
      rw [e] at q
      exact q _ k'
    refine ⟨.ref a, rfl, a, rfl, ⟨_, SqT.of ea⟩, hT Pt hPt, fun i m H' => i + m = xs.length ∧ Kt Ps H H' ∧ ∀ j x, j < i → xs[j]? = some x → unl ts.length (parts H x) = true, fun H2 hH2 => ⟨xs.length, by omega, Kt.tabbed hT hPt hH2, fun j x hj => absurd hj (Nat.not_lt_zero _)⟩, fun i m H' hw => ?_⟩
    obtain ⟨em, kt, hal⟩ := hw
    have ea' := kt.tup hT ea
    by_cases hi : i < xs.length
    · refine .inr ⟨⟨_, _, SqT.of ea', List.getElem?_eq_getElem hi⟩, fun H3 => Kt Ps H H3 ∧ ∀ j x, j < i + 1 → xs[j]? = some x → unl ts.length (parts H x) = true, fun H3 n3 => ⟨m - 1, by omega, by omega, n3.1, n3.2⟩, fun x H3 hy => ?_⟩
      obtain ⟨rfl, fy⟩ := hy
      have ex : xs[i]? = some x := fy _ (SqT.of ea')
      have hx := hxs x (List.mem_of_getElem? ex)
      have hx' := hx.kt kt hT
      refine ⟨rfl, .ref wa, rfl, wa, _, 1, .ref wb, rfl, rfl, SqT.of (kt.tup hT hwa), rfl, wb, us, rfl, .inr (SqT.of (kt.tup hT hwb)), x, rfl, _, x, rfl, hx'.1, hx'.2, kt.tab, fun H4 k4 => ⟨_, rfl, ?_⟩⟩
      rw [kt_parts kt hT hx.1, lu]
      cases hu : unl ts.length (parts H x) with
      | true =>
        refine ⟨kt.trans k4, fun j y hj ey => ?_⟩
        by_cases e : j = i
        · rw [e, ex] at ey
          obtain rfl := Option.some.inj ey
          exact hu
        · exact hal j y (by omega) ey
      | false =>
        refine ⟨_, rfl, bad _ i x (kt.trans k4) ex ?_⟩
        cases hb : rowB H (dueN ts (i : Int) ts.length) x with
        | false => rfl
        | true => rw [row_unl hb] at hu; cases hu
    · refine .inl ⟨⟨_, SqT.of ea', by omega⟩, _, rfl, ?_⟩
      refine ⟨.ref a, rfl, .ref wa, rfl, .ref wa, n, ts, rfl, ⟨wa, wb, us, rfl, kt.tup hT hwa, kt.tup hT hwb, ties_tk (kt.tk hT) hp⟩, ok, fun r A rs H1 hr1 rw1 rd s1 => ?_⟩
      have k1 := kt.trans (Kt.same kt.tab s1)
      have lA : A.length = n := by rw [rw1.len, rd.1]
      refine ⟨a, r, xs, _, rfl, SqT.of (k1.tup hT ea), SqL.of hr1, k1.tab Pt hPt, fun i m H2 => i + m = n ∧ Kt Ps H1 H2 ∧ (∀ j x, j < i → xs[j]? = some x → rowB H (dueN ts (j : Int) ts.length) x = true), fun H2 t2 => ⟨n, by omega, Kt.tabbed k1.tab hPt t2, fun j x hj => absurd hj (Nat.not_lt_zero _)⟩, fun i m H2 hw => ?_⟩
      obtain ⟨em2, k2, hal2⟩ := hw
      have k12 := k1.trans k2
      have ea2 := k12.tup hT ea
      have hr2 := k2.lst k1.tab hr1
      by_cases hi2 : i < n
      · refine .inr ⟨⟨xs, A.map V.ref, ⟨SqT.of ea2, SqL.of hr2⟩, by omega, by rw [List.length_map, lA, hl]⟩, fun H3 => Kt Ps H1 H3 ∧ (∀ j x, j < i + 1 → xs[j]? = some x → rowB H (dueN ts (j : Int) ts.length) x = true), fun H3 n3 => ⟨m - 1, by omega, by omega, n3.1, n3.2⟩, fun y H3 hy => ?_⟩
        obtain ⟨T, x, y2, rfl, nT, rfl, fx, fy⟩ := hy
        have ex := fx _ (SqT.of ea2)
        have ey := fy _ (SqL.of hr2)
        rw [List.getElem?_map] at ey
        obtain ⟨b, eb, rfl⟩ := Option.map_eq_some_iff.mp ey
        obtain ⟨row, er, hb⟩ := rw1.each _ _ eb
        rw [rd.2 i hi2] at er
        obtain rfl := Option.some.inj er
        have hu := hal i x (by omega) ex
        cases hpx : parts H x with
        | none => rw [hpx] at hu; cases hu
        | some ys =>
        rw [hpx] at hu
        obtain ⟨o, rfl, eo⟩ := parts_at hpx
        have hu : (ys.all (wbelow ts.length) && decide ys.Nodup) = true := hu
        obtain ⟨zs, rfl, hz⟩ := ints_of (Bool.and_eq_true_iff.mp hu).1
        have sT := same_new (o := .tup [.ref o, .ref b]) nT
        have kT := k2.trans (Kt.same k2.tab sT)
        have eo3 := sT _ _ (k12.tup hT eo)
        have hb3 := sT _ _ (k2.lst k1.tab hb)
        have hT3 := upd_same (H := H2) (a := T) (o := .tup [.ref o, .ref b])
        generalize upd H2 T (.tup [.ref o, .ref b]) = H3 at sT kT eo3 hb3 hT3
        refine ⟨T, _, rfl, SqT.of hT3, rfl, _, _, rfl, _, _, rfl, rfl, rfl, ?_⟩
        refine ⟨.ref o, rfl, o, zs, rfl, SqT.of eo3, fun ss q1 pm srt nq => ?_⟩
        have sq := same_new (o := .lst (ss.map V.int)) nq
        have e4 := row_sort (H := H) (x := .ref o) (dueN_sorted ts (i : Int) ts.length) hpx pm srt
        refine ⟨.ref b, rfl, listD ss, listD (dueN ts (i : Int) ts.length), .lst (SqL.of upd_same) (dp_ints _), .lst (SqL.of (sq _ _ hb3)) (dp_ints _), shaped_listD _, shaped_listD _, _, rfl, ?_⟩
        rw [eqv_listD, ← e4]
        have k4 := kT.trans (Kt.same kT.tab sq)
        cases hB : rowB H (dueN ts (i : Int) ts.length) (.ref o) with
        | true =>
          refine ⟨k4, fun j y hj ey => ?_⟩
          by_cases e : j = i
          · rw [e, ex] at ey
            obtain rfl := Option.some.inj ey
            rw [e]
            exact hB
          · exact hal2 j y (by omega) ey
        | false => exact bad _ i _ (k1.trans k4) ex hB
      · refine .inl ⟨⟨xs, A.map V.ref, ⟨SqT.of ea2, SqL.of hr2⟩, by omega, by rw [List.length_map]; omega⟩, ?_⟩
        have e : ((List.range n).all fun p : Nat => rowB H (dueN ts (p : Int) ts.length) (xs.getD p .non)) = true := by
          rw [List.all_eq_true]
          intro p hpn
          have hpn := List.mem_range.mp hpn
          have exp : xs[p]? = some (xs[p]'(by omega)) := List.getElem?_eq_getElem _
          rw [List.getD_eq_getElem?_getD, exp]
          exact hal2 p _ (by omega) exp
        rw [e] at q
        exact q _ k12
end
/-! ### orders mingled -/
def spMingled : Sp := fun vs H Q _ => ∃ (H0 : Hp) (d T O : Addr) (us : List V) (es : List (Int × Int)) (A : List Addr) (rs : List (List Int)), vs = [.ref d, .ref O] ∧ Grw H0 d T O H us es A rs ∧ Ord rs es ∧ rs.length ≤ 100 ∧ es.length ≤ 200 ∧
  ∀ r vs' rs' H', H' r = some (.tup vs') → Paired (IntsV H') vs' rs' → Ord rs' es → rs'.length = rs.length → Grw H0 d T O H' us es A rs → Kp d d H H' → Q (.ref r) H'
theorem eras_map (f : Int → V) : ∀ (xs : List Int) (k : Nat), (xs.map f).eraseIdx k = (xs.eraseIdx k).map f
  | [], _ => rfl
  | x :: xs, 0 => rfl
  | x :: xs, k + 1 => by
    show f x :: (xs.map f).eraseIdx k = f x :: (xs.eraseIdx k).map f
    rw [eras_map f xs k]
theorem eras_perm : ∀ {xs : List Int} {k : Nat} {y : Int}, xs[k]? = some y → (y :: xs.eraseIdx k).Perm xs
  | x :: xs, 0, y, h => by
    obtain rfl := Option.some.inj h
    exact List.Perm.refl _
  | x :: xs, k + 1, y, h => by
    have h : xs[k]? = some y := h
    exact (List.Perm.swap x y _).trans ((eras_perm h).cons x)
section
variable {P : Program} {w : World} {K : PySem.W.Frag} {mg : Str → Option Value} {base : Heap}
set_option maxHeartbeats 4000000 in
theorem ok_l_mingled {f : Addr} {fd : FuncData} (F : Fun K "_law_mingled" "_law_mingled" s_l_mingled f fd) (M : Free mg) (D_l_take : Df P w K mg base 2 "_law_take" ["_law_deck_here", "_law_most"] spTake) : FnOk P w K mg base CX0 3 f fd ["_law_deck_here", "_law_orders"] spMingled := by
  obtain ⟨f_l_take, fd_l_take, G_l_take, g_l_take, k_l_take, b_l_take⟩ := D_l_take
  refine F.ok sc_l_mingled (fun vs H Q E h => ?_) (fun cdv A outer s H vs Q E hr h => ?_)
  · obtain ⟨H0, d, T, O, us, es, A, rs, rfl, _⟩ := h
    rfl
  · obtain ⟨H0, d, T, O, us, es, A, rs, rfl, g, od, lr, le, q⟩ := h
    refine ⟨_, (pss_cons (ps_set (i := 2) sc_l_mingled.nd rfl (.inl rfl) (pe_lst pa_nil))
      (pss_cons (ps_for PassesOwn.never rfl (pi_list (pv 1)) (pg_name (i := 3) sc_l_mingled.nd rfl (.inl rfl))
        (pss_cons (ps_set (i := 4) sc_l_mingled.nd rfl (.inl rfl) (pe_callTy call_list_of (by rfl) M.list (by decide +kernel) (pa_cons (pv 3) pa_nil)))
        (pss_cons (ps_set (i := 5) sc_l_mingled.nd rfl (.inl rfl) (pe_tup pa_nil))
        (pss_cons (ps_while PassesOwn.never (pt_cmpR (op_neE hr.units0) (pv 4) (pe_lst pa_nil) (nomark _))
          (pss_one (ps_set (i := 5) sc_l_mingled.nd rfl (.inl rfl) (pe_op op_catU (pv 5) (pe_tup (pa_cons (pe_bm PySem.F.plainAttrs_list PySem.F.slot_list_pop PySem.F.type_list_pop mt_popAt (pv 4) (pa_cons (pe_call G_l_take (hr.mono (by decide)) (by rfl) g_l_take k_l_take b_l_take .nil pass0 (pa_cons (pv 0) (pa_cons (pe_callB call_len_seq (by rfl) M.len PySem.boot_len (pa_cons (pv 4) pa_nil)) pa_nil))) pa_nil)) pa_nil))))))
        (pss_one (ps_expr (pe_bm PySem.F.plainAttrs_list PySem.F.slot_list_append PySem.F.type_list_append mt_append (pv 2) (pa_cons (pv 5) pa_nil))))))))
      (pss_one (ps_ret (pe_callTy call_tuple_of (by rfl) M.tuple (by decide +kernel) (pa_cons (pv 2) pa_nil)))))), ?_⟩
    have lA := g.rw'.len
    refine ⟨Nat.zero_le _, fun L nL => ?_⟩
    have sL := same_new (o := .lst []) nL
    have hL1 : (upd H L (.lst [])) L = some (.lst []) := upd_same
    have g1 := g.same sL
    have Ld : L ≠ d := g.dk.ned nL
    have K1 : Kp d d H (upd H L (.lst [])) := Same.kp sL
    have nL0 := g.kp.free nL Ld Ld
    have LA : ∀ a ∈ A, a ≠ L := fun a ha z => by
      obtain ⟨j, ej⟩ := List.getElem?_of_mem ha
      obtain ⟨_, _, e2⟩ := g.rw'.each _ _ ej
      rw [z, nL] at e2
      cases e2
    have LT : T ≠ L := ne_of_none g.hT nL
    have LO : O ≠ L := ne_of_none g.hO nL
    generalize upd H L (.lst []) = H1 at sL hL1 g1 K1
    refine ⟨.ref O, rfl, O, rfl, ⟨_, SqL.of g1.hO⟩, ?_⟩
    refine for_list (xs := A.map V.ref) (fun i σ' H' => ∃ (y3 y4 y5 : Option V) (vs : List V) (rs' : List (List Int)), σ' = [some (.ref d), some (.ref O), some (.ref L), y3, y4, y5] ∧ H' L = some (.lst vs) ∧ Paired (IntsV H') vs rs' ∧ rs'.length = i ∧ (∀ (j : Nat) (row' : List Int), rs'[j]? = some row' → ∃ row, rs[j]? = some row ∧ row'.Perm row) ∧ Grw H0 d T O H' us es A rs ∧ Kp d d H H') ⟨none, none, none, [], [], rfl, hL1, .nil, rfl, fun j row' e => by simp at e, g1, K1⟩ (fun i σ' H' _ h => by
      obtain ⟨_, _, _, _, _, _, _, _, _, _, g, _⟩ := h
      exact SqL.of g.hO) ?_ ?_
    · rintro i x σ' H2 ex ⟨y3, y4, y5, vs, rs', rfl, hL, hv, li, each, g2, K2⟩
      have lv := Paired.length hv
      rw [List.getElem?_map] at ex
      obtain ⟨ra, ea, rfl⟩ := Option.map_eq_some_iff.mp ex
      obtain ⟨row, er, hra⟩ := g2.rw'.each _ _ ea
      have hlt := (List.getElem?_eq_some_iff.mp er).1
      have lrow := od.row_len (List.mem_of_getElem? er)
      refine ⟨.ref ra, rfl, ra, _, rfl, .inl (SqL.of hra), fun F nF => ?_⟩
      have sF := same_new (o := .lst (row.map V.int)) nF
      have hF3 := upd_same (H := H2) (a := F) (o := .lst (row.map V.int))
      have Fd : F ≠ d := g2.dk.ned nF
      have nF0 := g2.kp.free nF Fd Fd
      have FA : ∀ a ∈ A, a ≠ F := fun a ha z => by
        obtain ⟨j, ej⟩ := List.getElem?_of_mem ha
        obtain ⟨_, _, e2⟩ := g2.rw'.each _ _ ej
        rw [z, nF] at e2
        cases e2
      have FT : T ≠ F := ne_of_none g2.hT nF
      have FO : O ≠ F := ne_of_none g2.hO nF
      have FL : L ≠ F := ne_of_none hL nF
      have nFH : H F = none := K2.free nF Fd Fd
      have g3 := g2.same sF
      have hL3 := sF _ _ hL
      have hv3 : Paired (IntsV (upd H2 F (.lst (row.map V.int)))) vs rs' := Paired.mono (fun _ _ x => x.tk (Same.tk sF)) hv
      have K3 := K2.trans (Same.kp (d := d) (c := d) sF)
      generalize upd H2 F (.lst (row.map V.int)) = H3 at sF hF3 g3 hL3 hv3 K3
      refine ⟨Nat.zero_le _, fun R0 nR0 => ?_⟩
      have sR := same_new (o := .tup []) nR0
      have hR4 := upd_same (H := H3) (a := R0) (o := .tup [])
      have hF4 := sR _ _ hF3
      have g4 := g3.same sR
      have hL4 := sR _ _ hL3
      have hv4 : Paired (IntsV (upd H3 R0 (.tup []))) vs rs' := Paired.mono (fun _ _ x => x.tk (Same.tk sR)) hv3
      have K4 := K3.trans (Same.kp (d := d) (c := d) sR)
      generalize upd H3 R0 (.tup []) = H4 at hR4 hF4 g4 hL4 hv4 K4
      clear sR sF K3 hL3 hv3 g3 hF3 nR0 hra hL hv g2 K2 g1 K1 hL1 sL g
      refine ⟨fun m σ' H' => ∃ (left done : List Int) (R : Addr), m = left.length ∧ σ' = [some (.ref d), some (.ref O), some (.ref L), some (.ref ra), some (.ref F), some (.ref R)] ∧ H' F = some (.lst (left.map V.int)) ∧ H' R = some (.tup (done.map V.int)) ∧ (done ++ left).Perm row ∧ H' L = some (.lst vs) ∧ Paired (IntsV H') vs rs' ∧ Grw H0 d T O H' us es A rs ∧ Kp d d H H', ⟨_, row, [], R0, rfl, rfl, hF4, hR4, List.Perm.refl _, hL4, hv4, g4, K4⟩, ?_⟩
      clear hR4 hF4 g4 hL4 hv4 K4
      rintro m σ' H5 ⟨left, done, R, rfl, rfl, hF, hR, pm, hL, hv, g, K5⟩
      refine ⟨.ref F, rfl, Nat.zero_le _, fun Z nZ => ⟨F, Z, _, rfl, rfl, SqL.of (same_new nZ _ _ hF), SqL.of upd_same, _, rfl, ?_⟩⟩
      have sZ := same_new (o := .lst []) nZ
      have hF6 := sZ _ _ hF
      have hR6 := sZ _ _ hR
      have hL6 := sZ _ _ hL
      have hv6 : Paired (IntsV (upd H5 Z (.lst []))) vs rs' := Paired.mono (fun _ _ x => x.tk (Same.tk sZ)) hv
      have g6 := g.same sZ
      have K6 := K5.trans (Same.kp (d := d) (c := d) sZ)
      generalize upd H5 Z (.lst []) = H6 at hF6 hR6 hL6 hv6 g6 K6
      clear hF hR hL hv g K5 sZ nZ
      have ll := pm.length_eq
      rw [List.length_append] at ll
      by_cases en : left = []
      · subst en
        rw [List.append_nil] at pm
        refine ⟨.ref L, rfl, .inl ⟨rfl, _, SqL.of hL6⟩, .ref R, rfl, L, vs, _, rfl, rfl, hL6, small1000 (by omega), ?_⟩
        have tk := tk_lst (ys := vs ++ [.ref R]) hL6
        refine ⟨_, _, _, vs ++ [.ref R], rs' ++ [done], rfl, upd_same, Paired.snoc (Paired.mono (fun _ _ x => x.tk tk) hv6) ⟨R, rfl, tk _ _ hR6⟩, by simp [li], fun j row' e => ?_, g6.oth LA LT LO Ld nL0 hL6, K6.mut nL⟩
        by_cases hj : j < rs'.length
        · rw [List.getElem?_append_left hj] at e
          exact each j row' e
        · have hj2 := (List.getElem?_eq_some_iff.mp e).1
          rw [List.length_append, List.length_singleton] at hj2
          rw [List.getElem?_append_right (by omega), show j - rs'.length = 0 by omega] at e
          cases e
          rw [show j = i by omega]
          exact ⟨row, er, pm⟩
      · have lpos := List.length_pos_iff.mpr en
        rw [show (!(left.map V.int).isEmpty) = true from by cases left; exact absurd rfl en; rfl]
        refine ⟨fun σ' H' => ∃ (left' done : List Int) (R : Addr), left'.length < left.length ∧ σ' = [some (.ref d), some (.ref O), some (.ref L), some (.ref ra), some (.ref F), some (.ref R)] ∧ H' F = some (.lst (left'.map V.int)) ∧ H' R = some (.tup (done.map V.int)) ∧ (done ++ left').Perm row ∧ H' L = some (.lst vs) ∧ Paired (IntsV H') vs rs' ∧ Grw H0 d T O H' us es A rs ∧ Kp d d H H', fun σ' H' h => ?_, ?_⟩
        · obtain ⟨left', done', R', h1, h2⟩ := h
          exact ⟨_, h1, left', done', R', rfl, h2⟩
        refine ⟨.ref R, rfl, .ref F, rfl, .inl ⟨rfl, _, SqL.of hF6⟩, .ref d, rfl, .ref F, rfl, F, _, rfl, .inl (SqL.of hF6), d, _, rfl, g6.dk, by rw [List.length_map]; omega, by rw [List.length_map]; omega, fun k H7 k0 k1 D7 K7 => ?_⟩
        rw [List.length_map] at k1
        have tk7 := g6.dk.tk K7
        have hF7 := K7 _ _ Fd Fd hF6
        have hL7 := K7 _ _ Ld Ld hL6
        have hR7 := tk7 _ _ hR6
        have g7 := g6.take K7 D7
        have hv7 : Paired (IntsV H7) vs rs' := Paired.mono (fun _ _ x => x.tk tk7) hv6
        have K17 := K6.trans K7
        have ey : left[k.toNat]? = some _ := List.getElem?_eq_getElem (by omega)
        refine ⟨F, _, k, k.toNat, _, rfl, rfl, hF7, by omega, by omega, seqIndex_of k0 (by rw [List.length_map]; omega), by rw [List.getElem?_map, ey]; rfl, ?_⟩
        generalize left[k.toNat]'(by omega) = y at ey ⊢
        rw [eras_map]
        have tk8 := tk_lst (ys := (left.eraseIdx k.toNat).map V.int) hF7
        have g8 := g7.oth (ys := (left.eraseIdx k.toNat).map V.int) FA FT FO Fd nF0 hF7
        have hF8 := upd_same (H := H7) (a := F) (o := .lst ((left.eraseIdx k.toNat).map V.int))
        have hL8 : (upd H7 F (.lst ((left.eraseIdx k.toNat).map V.int))) L = some (.lst vs) := by rw [upd_ne FL]; exact hL7
        have hR8 := tk8 _ _ hR7
        have hv8 : Paired (IntsV (upd H7 F (.lst ((left.eraseIdx k.toNat).map V.int)))) vs rs' := Paired.mono (fun _ _ x => x.tk tk8) hv7
        have K8 := K17.mut (o := .lst ((left.eraseIdx k.toNat).map V.int)) nFH
        generalize upd H7 F (.lst ((left.eraseIdx k.toNat).map V.int)) = H8 at g8 hF8 hL8 hR8 hv8 K8
        refine ⟨by show 1 ≤ sizeLine; decide, fun p np => ?_⟩
        have sp := same_new (o := .tup [V.int y]) np
        have pp := (eras_perm ey).append_left done
        refine ⟨R, p, _, _, rfl, rfl, sp _ _ hR8, upd_same, by rw [List.length_map]; show done.length + 1 ≤ 100000; omega, fun R' H9 s9 h9 => ?_⟩
        have s89 := sp.trans s9
        refine ⟨left.eraseIdx k.toNat, done ++ [y], R', ?_, rfl, s89 _ _ hF8, by rw [h9, List.map_append]; rfl, ?_, s89 _ _ hL8, Paired.mono (fun _ _ x => x.tk (Same.tk s89)) hv8, g8.same s89, K8.trans (Same.kp s89)⟩
        · rw [List.length_eraseIdx_of_lt (by omega)]
          omega
        · rw [List.append_assoc]
          exact pp.trans pm
    · rintro σ' H2 ⟨y3, y4, y5, vs, rs', rfl, hL, hv, li, each, g2, K2⟩
      rw [List.length_map, lA] at li
      refine ⟨.ref L, rfl, L, _, rfl, .inl ⟨SqL.of hL, fun a na => ?_⟩⟩
      have sa := same_new (o := .tup vs) na
      exact q a vs rs' _ upd_same (Paired.mono (fun _ _ x => x.tk (Same.tk sa)) hv) (od.perm li each) li (g2.same sa) (K2.trans (Same.kp sa))
end
/-! ### lists of values, one by one -/
theorem fm_nil {R : V → Prop} : ∀ x ∈ ([] : List V), R x := fun x h => by cases h
theorem fm {R : V → Prop} {a : V} {l : List V} (h : R a) (t : ∀ x ∈ l, R x) : ∀ x ∈ a :: l, R x := fun x hx => by
  rcases List.mem_cons.mp hx with e | e
  · rw [e]; exact h
  · exact t x e
theorem fm_app {R : V → Prop} {l m : List V} (h : ∀ x ∈ l, R x) (t : ∀ x ∈ m, R x) : ∀ x ∈ l ++ m, R x := fun x hx => by
  rcases List.mem_append.mp hx with e | e
  · exact h x e
  · exact t x e
theorem fm_cut {R : V → Prop} {l : List V} (h : ∀ x ∈ l, R x) (lo hi : Option Int) : ∀ x ∈ cutV l lo hi, R x := fun x hx => by
  unfold cutV at hx
  exact h x (List.mem_of_mem_drop (List.mem_of_mem_take hx))
theorem len_cut (l : List V) (lo hi : Option Int) : (cutV l lo hi).length ≤ l.length := by
  unfold cutV
  rw [List.length_take, List.length_drop]
  omega
theorem pickV {R : V → Prop} {xs : List V} {v : Int} (h0 : 0 ≤ v) (h1 : v < (xs.length : Int)) (all : ∀ x ∈ xs, R x) : ∃ x, atI xs v = some x ∧ R x := by
  obtain ⟨x, e1, e2⟩ := getI h0 h1
  exact ⟨x, e1, all x (List.mem_of_getElem? e2)⟩
/-! ### things of a few depths, off the deck -/
def K0 (d : Addr) (H : Hp) : V → Prop
  | .non => True
  | .bl _ => True
  | .int _ => True
  | .str _ => True
  | .ref a => a ≠ d ∧ ((∃ xs, H a = some (.lst xs)) ∨ (∃ xs, H a = some (.tup xs)) ∨ ∃ kvs, H a = some (.dK kvs))
  | _ => False
theorem K0.kn {d : Addr} {H : Hp} {v : V} (h : K0 d H v) : Kn H v := by
  cases v with
  | ref a => exact h.2
  | byt _ => exact h.elim
  | flt _ => exact h.elim
  | ty _ => exact h.elim
  | _ => trivial
theorem K0.kp {d : Addr} {H H' : Hp} {v : V} (h : K0 d H v) (k : Kp d d H H') : K0 d H' v := by
  cases v with
  | ref a =>
    obtain ⟨ne, h⟩ := h
    refine ⟨ne, ?_⟩
    rcases h with ⟨xs, h⟩ | ⟨xs, h⟩ | ⟨xs, h⟩
    · exact .inl ⟨xs, k _ _ ne ne h⟩
    · exact .inr (.inl ⟨xs, k _ _ ne ne h⟩)
    · exact .inr (.inr ⟨xs, k _ _ ne ne h⟩)
  | byt _ => exact h.elim
  | flt _ => exact h.elim
  | ty _ => exact h.elim
  | _ => trivial
theorem K0.tup_back {d a : Addr} {H H' : Hp} {xs : List V} (h : K0 d H (.ref a)) (k : Kp d d H H') (e : H' a = some (.tup xs)) : H a = some (.tup xs) := by
  obtain ⟨ne, h⟩ := h
  rcases h with ⟨ys, h⟩ | ⟨ys, h⟩ | ⟨ys, h⟩
  all_goals
    have := k _ _ ne ne h
    rw [this] at e
    cases e
  exact h
def K1 (d : Addr) (H : Hp) (v : V) : Prop := K0 d H v ∧ ∀ a xs, v = .ref a → H a = some (.tup xs) → xs.length ≤ 1000 ∧ ∀ x ∈ xs, K0 d H x
def K2 (d : Addr) (H : Hp) (v : V) : Prop := K0 d H v ∧ ∀ a xs, v = .ref a → H a = some (.tup xs) → xs.length ≤ 1000 ∧ ∀ x ∈ xs, K1 d H x
theorem K1.kp {d : Addr} {H H' : Hp} {v : V} (h : K1 d H v) (k : Kp d d H H') : K1 d H' v := ⟨h.1.kp k, fun a xs e h' => by
  subst e
  obtain ⟨l, m⟩ := h.2 a xs rfl (h.1.tup_back k h')
  exact ⟨l, fun x hx => (m x hx).kp k⟩⟩
theorem K2.kp {d : Addr} {H H' : Hp} {v : V} (h : K2 d H v) (k : Kp d d H H') : K2 d H' v := ⟨h.1.kp k, fun a xs e h' => by
  subst e
  obtain ⟨l, m⟩ := h.2 a xs rfl (h.1.tup_back k h')
  exact ⟨l, fun x hx => (m x hx).kp k⟩⟩
def OwnF (d : Addr) (H : Hp) (p : Addr) (o : HO) : Prop := p ≠ d ∧ H p = some o
theorem OwnF.kp {d p : Addr} {o : HO} {H H' : Hp} (h : OwnF d H p o) (k : Kp d d H H') : OwnF d H' p o := ⟨h.1, k _ _ h.1 h.1 h.2⟩
theorem OwnF.new {d p : Addr} {o : HO} {H : Hp} (D : FDk H d) (n : H p = none) : OwnF d (upd H p o) p o := ⟨D.ned n, upd_same⟩
theorem OwnF.tup {d p : Addr} {xs : List V} {H : Hp} (D : FDk H d) (h : H p = some (.tup xs)) : OwnF d H p (.tup xs) := by
  obtain ⟨ns, h1, _⟩ := D
  exact ⟨ne_of h h1 (by intro z; cases z), h⟩
section
variable {d p : Addr} {H : Hp} {xs : List V}
theorem OwnF.k0 (o : OwnF d H p (.tup xs)) : K0 d H (.ref p) := ⟨o.1, .inr (.inl ⟨_, o.2⟩)⟩
theorem OwnF.k0L (o : OwnF d H p (.lst xs)) : K0 d H (.ref p) := ⟨o.1, .inl ⟨_, o.2⟩⟩
theorem OwnF.k0D {kvs : List (Key × V)} (o : OwnF d H p (.dK kvs)) : K0 d H (.ref p) := ⟨o.1, .inr (.inr ⟨_, o.2⟩)⟩
theorem OwnF.k1 (o : OwnF d H p (.tup xs)) (l : xs.length ≤ 1000) (h : ∀ x ∈ xs, K0 d H x) : K1 d H (.ref p) := ⟨o.k0, fun a ys e h' => by
  cases e
  rw [o.2] at h'
  cases h'
  exact ⟨l, h⟩⟩
theorem OwnF.k1L (o : OwnF d H p (.lst xs)) : K1 d H (.ref p) := ⟨o.k0L, fun a ys e h' => by
  cases e
  rw [o.2] at h'
  cases h'⟩
theorem OwnF.k1D {kvs : List (Key × V)} (o : OwnF d H p (.dK kvs)) : K1 d H (.ref p) := ⟨o.k0D, fun a ys e h' => by
  cases e
  rw [o.2] at h'
  cases h'⟩
theorem OwnF.k2 (o : OwnF d H p (.tup xs)) (l : xs.length ≤ 1000) (h : ∀ x ∈ xs, K1 d H x) : K2 d H (.ref p) := ⟨o.k0, fun a ys e h' => by
  cases e
  rw [o.2] at h'
  cases h'
  exact ⟨l, h⟩⟩
theorem OwnF.k2L (o : OwnF d H p (.lst xs)) : K2 d H (.ref p) := ⟨o.k0L, fun a ys e h' => by
  cases e
  rw [o.2] at h'
  cases h'⟩
theorem OwnF.k2D {kvs : List (Key × V)} (o : OwnF d H p (.dK kvs)) : K2 d H (.ref p) := ⟨o.k0D, fun a ys e h' => by
  cases e
  rw [o.2] at h'
  cases h'⟩
end
theorem k1_int {d : Addr} {H : Hp} (i : Int) : K1 d H (.int i) := ⟨trivial, fun a xs e => by cases e⟩
theorem k1_bl {d : Addr} {H : Hp} (i : Bool) : K1 d H (.bl i) := ⟨trivial, fun a xs e => by cases e⟩
theorem k1_str {d : Addr} {H : Hp} (i : Str) : K1 d H (.str i) := ⟨trivial, fun a xs e => by cases e⟩
theorem k1_non {d : Addr} {H : Hp} : K1 d H .non := ⟨trivial, fun a xs e => by cases e⟩
theorem k2_int {d : Addr} {H : Hp} (i : Int) : K2 d H (.int i) := ⟨trivial, fun a xs e => by cases e⟩
theorem k2_bl {d : Addr} {H : Hp} (i : Bool) : K2 d H (.bl i) := ⟨trivial, fun a xs e => by cases e⟩
theorem k2_str {d : Addr} {H : Hp} (i : Str) : K2 d H (.str i) := ⟨trivial, fun a xs e => by cases e⟩
theorem k2_non {d : Addr} {H : Hp} : K2 d H .non := ⟨trivial, fun a xs e => by cases e⟩
theorem k0_ints {d : Addr} {H : Hp} (zs : List Int) : ∀ x ∈ zs.map V.int, K0 d H x := fun x hx => by
  obtain ⟨z, _, rfl⟩ := List.mem_map.mp hx
  trivial
theorem at_tup {H : Hp} {a : Addr} {xs : List V} (h : parts H (.ref a) = some xs) : H a = some (.tup xs) := by
  obtain ⟨o, e, h2⟩ := parts_at h
  cases e
  exact h2
theorem K1.part {d : Addr} {H : Hp} {v : V} (h : K1 d H v) : Part2 H v := ⟨h.1.kn, fun ys e => by
  obtain ⟨a, rfl, e2⟩ := parts_at e
  obtain ⟨l, m⟩ := h.2 a ys rfl e2
  exact ⟨fun y hy => (m y hy).kn, l⟩⟩
theorem K2.thing {d : Addr} {H : Hp} {v : V} (h : K2 d H v) : Thing51 H v := ⟨⟨h.1.kn, fun xs e => by
  obtain ⟨a, rfl, e2⟩ := parts_at e
  exact fun x hx => ((h.2 a xs rfl e2).2 x hx).part⟩, fun xs e => by
  obtain ⟨a, rfl, e2⟩ := parts_at e
  exact (h.2 a xs rfl e2).1⟩
/-! ### orders bent -/
def spBentOrder : Sp := fun vs H Q _ => ∃ (d o : Addr) (wv : V) (n : Int) (ts : List Tie) (row : List Int), vs = [.ref d, wv, .ref o] ∧ FDk H d ∧ WebAt H wv n ts ∧ H o = some (.tup (row.map V.int)) ∧ row.length ≤ 200 ∧ ∀ v H', K1 d H' v → FDk H' d → Kp d d H H' → Q v H'
def spBent : Sp := fun vs H Q _ => ∃ (d o : Addr) (wv : V) (n : Int) (ts : List Tie) (us : List V) (rs : List (List Int)), vs = [.ref d, wv, .ref o] ∧ FDk H d ∧ WebAt H wv n ts ∧ H o = some (.tup us) ∧ Paired (IntsV H) us rs ∧ (∀ r ∈ rs, r.length ≤ 200) ∧ 1 ≤ us.length ∧ us.length ≤ 100 ∧ ∀ v H', K2 d H' v → FDk H' d → Kp d d H H' → Q v H'
section
variable {P : Program} {w : World} {K : PySem.W.Frag} {mg : Str → Option Value} {base : Heap}
set_option maxHeartbeats 8000000 in
theorem ok_l_bent_order {f : Addr} {fd : FuncData} (F : Fun K "_law_bent_order" "_law_bent_order" s_l_bent_order f fd) (M : Free mg) (D_l_take : Df P w K mg base 2 "_law_take" ["_law_deck_here", "_law_most"] spTake) : FnOk P w K mg base CX0 3 f fd ["_law_deck_here", "_law_web_here", "_law_order"] spBentOrder := by
  obtain ⟨f_l_take, fd_l_take, G_l_take, g_l_take, k_l_take, b_l_take⟩ := D_l_take
  refine F.ok sc_l_bent_order (fun vs H Q E h => ?_) (fun cdv A outer s H vs Q E hr h => ?_)
  · obtain ⟨d, o, wv, n, ts, row, rfl, _⟩ := h
    rfl
  · obtain ⟨d, o, wv, n, ts, row, rfl, D, hW, ho, lr, q⟩ := h
    refine ⟨_, (pss_cons (ps_set (i := 3) sc_l_bent_order.nd rfl (.inl rfl) (pe_call G_l_take (hr.mono (by decide)) (by rfl) g_l_take k_l_take b_l_take .nil pass0 (pa_cons (pv 0) (pa_cons (pe_op op_add (pe_callB call_len_seq (by rfl) M.len PySem.boot_len (pa_cons (pv 2) pa_nil)) pe_int) pa_nil))))
      (pss_cons (ps_set (i := 4) sc_l_bent_order.nd rfl (.inl rfl) (pe_lst (pa_cons (pe_op op_catU (pe_slice sl_tupU (pv 2) po_none (po_some (pv 3))) (pe_slice sl_tupU (pv 2) (po_some (pe_op op_add (pv 3) pe_int)) po_none)) (pa_cons (pe_op op_catU (pe_op op_catU (pe_slice sl_tupU (pv 2) po_none (po_some (pv 3))) (pe_slice sl_tupU (pv 2) (po_some (pv 3)) (po_some (pe_op op_add (pv 3) pe_int)))) (pe_slice sl_tupU (pv 2) (po_some (pv 3)) po_none)) (pa_cons (pe_callTy call_list_of (by rfl) M.list (by decide +kernel) (pa_cons (pv 2) pa_nil)) (pa_cons pe_non (pa_cons pe_str (pa_cons pe_int pa_nil))))))))
      (pss_cons (ps_set (i := 5) sc_l_bent_order.nd rfl (.inl rfl) (pe_ix ix_list (pe_lst (pa_cons (pe_un un_neg pe_int) (pa_cons (pe_callB call_len_seq (by rfl) M.len PySem.boot_len (pa_cons (pe_ix ix_tup (pv 1) pe_int (fun _ _ => rfl)) pa_nil)) (pa_cons (pe_op op_sub (pe_callB call_len_seq (by rfl) M.len PySem.boot_len (pa_cons (pe_ix ix_tup (pv 1) pe_int (fun _ _ => rfl)) pa_nil)) pe_int) (pa_cons pe_int (pa_cons pe_bl (pa_cons pe_bl (pa_cons pe_non (pa_cons pe_str (pa_cons (pe_tup (pa_cons pe_int pa_nil)) (pa_cons (pe_op op_pow pe_int pe_int) pa_nil))))))))))) (pe_call G_l_take (hr.mono (by decide)) (by rfl) g_l_take k_l_take b_l_take .nil pass0 (pa_cons (pv 0) (pa_cons pe_int pa_nil))) (fun _ _ => rfl)))
      (pss_cons (ps_set (i := 4) sc_l_bent_order.nd rfl (.inl rfl) (pe_op op_cat (pv 4) (pe_lst (pa_cons (pe_op op_catU (pe_op op_catU (pe_slice sl_tupU (pv 2) po_none (po_some (pv 3))) (pe_tup (pa_cons (pv 5) pa_nil))) (pe_slice sl_tupU (pv 2) (po_some (pv 3)) po_none)) (pa_cons (pe_op op_catU (pe_op op_catU (pe_slice sl_tupU (pv 2) po_none (po_some (pv 3))) (pe_tup (pa_cons (pv 5) pa_nil))) (pe_slice sl_tupU (pv 2) (po_some (pe_op op_add (pv 3) pe_int)) po_none)) (pa_cons (pe_revT (pv 2)) pa_nil))))))
      (pss_one (ps_ret (pe_ix ix_list (pv 4) (pe_call G_l_take (hr.mono (by decide)) (by rfl) g_l_take k_l_take b_l_take .nil pass0 (pa_cons (pv 0) (pa_cons pe_int pa_nil))) (fun _ _ => rfl)))))))), ?_⟩
    obtain ⟨wa, wb, us, rfl, hwa, hwb, hp⟩ := hW
    have KK : Kp d d H H := Kp.refl
    clear hp
    refine ⟨.ref d, rfl, .ref o, rfl, o, _, rfl, .inr (SqT.of ho), _, _, rfl, rfl, d, _, rfl, D, by omega, by rw [List.length_map]; omega, fun v1 G1 a1 b1 D1 kq1 => ?_⟩
    have hwa := (D.tk kq1) _ _ hwa
    have hwb := (D.tk kq1) _ _ hwb
    have ho := (D.tk kq1) _ _ ho
    have KK := KK.trans kq1
    have D := D1
    obtain ⟨k, rfl⟩ : ∃ k : Nat, v1 = (k : Int) := ⟨v1.toNat, by omega⟩
    obtain ⟨m1, em1, lm1⟩ := cutV_ints row none (some (k : Int))
    refine ⟨.ref o, rfl, .int k, rfl, k, rfl, o, _, rfl, ho, fun r2 G2 s2 h2 => ?_⟩
    rw [em1] at h2
    have D := D.same s2
    have hwa := s2 _ _ hwa
    have hwb := s2 _ _ hwb
    have ho := s2 _ _ ho
    have KK := KK.trans (Same.kp s2)
    obtain ⟨m2, em2, lm2⟩ := cutV_ints row (some ((k : Int) + 1)) none
    refine ⟨.ref o, rfl, .int k, rfl, k, 1, rfl, rfl, _, rfl, o, _, rfl, ho, fun r3 G3 s3 h3 => ?_⟩
    rw [em2] at h3
    have D := D.same s3
    have hwa := s3 _ _ hwa
    have hwb := s3 _ _ hwb
    have ho := s3 _ _ ho
    have KK := KK.trans (Same.kp s3)
    have h2 := s3 _ _ h2
    refine ⟨r2, r3, _, _, rfl, rfl, h2, h3, by simp only [List.length_append, List.length_map, List.length_cons, List.length_nil]; omega, fun r4 G4 s4 h4 => ?_⟩
    rw [← List.map_append] at h4
    have D := D.same s4
    have hwa := s4 _ _ hwa
    have hwb := s4 _ _ hwb
    have ho := s4 _ _ ho
    have KK := KK.trans (Same.kp s4)
    have h2 := s4 _ _ h2
    have h3 := s4 _ _ h3
    have c1 : K1 d G4 (.ref r4) := (OwnF.tup D h4).k1 (by simp only [List.length_append, List.length_map]; omega) (k0_ints _)
    obtain ⟨m3, em3, lm3⟩ := cutV_ints row none (some (k : Int))
    refine ⟨.ref o, rfl, .int k, rfl, k, rfl, o, _, rfl, ho, fun r5 G5 s5 h5 => ?_⟩
    rw [em3] at h5
    have D := D.same s5
    have hwa := s5 _ _ hwa
    have hwb := s5 _ _ hwb
    have ho := s5 _ _ ho
    have KK := KK.trans (Same.kp s5)
    have c1 := c1.kp (Same.kp s5)
    obtain ⟨m4, em4, lm4⟩ := cutV_ints row (some (k : Int)) (some ((k : Int) + 1))
    refine ⟨.ref o, rfl, .int k, rfl, k, rfl, .int k, rfl, k, 1, rfl, rfl, _, rfl, o, _, rfl, ho, fun r6 G6 s6 h6 => ?_⟩
    rw [em4] at h6
    have D := D.same s6
    have hwa := s6 _ _ hwa
    have hwb := s6 _ _ hwb
    have ho := s6 _ _ ho
    have KK := KK.trans (Same.kp s6)
    have c1 := c1.kp (Same.kp s6)
    have h5 := s6 _ _ h5
    refine ⟨r5, r6, _, _, rfl, rfl, h5, h6, by simp only [List.length_append, List.length_map, List.length_cons, List.length_nil]; omega, fun r7 G7 s7 h7 => ?_⟩
    rw [← List.map_append] at h7
    have D := D.same s7
    have hwa := s7 _ _ hwa
    have hwb := s7 _ _ hwb
    have ho := s7 _ _ ho
    have KK := KK.trans (Same.kp s7)
    have c1 := c1.kp (Same.kp s7)
    have h5 := s7 _ _ h5
    have h6 := s7 _ _ h6
    obtain ⟨m5, em5, lm5⟩ := cutV_ints row (some (k : Int)) none
    refine ⟨.ref o, rfl, .int k, rfl, k, rfl, o, _, rfl, ho, fun r8 G8 s8 h8 => ?_⟩
    rw [em5] at h8
    have D := D.same s8
    have hwa := s8 _ _ hwa
    have hwb := s8 _ _ hwb
    have ho := s8 _ _ ho
    have KK := KK.trans (Same.kp s8)
    have c1 := c1.kp (Same.kp s8)
    have h5 := s8 _ _ h5
    have h6 := s8 _ _ h6
    have h7 := s8 _ _ h7
    refine ⟨r7, r8, _, _, rfl, rfl, h7, h8, by simp only [List.length_append, List.length_map, List.length_cons, List.length_nil]; omega, fun r9 G9 s9 h9 => ?_⟩
    rw [← List.map_append] at h9
    have D := D.same s9
    have hwa := s9 _ _ hwa
    have hwb := s9 _ _ hwb
    have ho := s9 _ _ ho
    have KK := KK.trans (Same.kp s9)
    have c1 := c1.kp (Same.kp s9)
    have h5 := s9 _ _ h5
    have h6 := s9 _ _ h6
    have h7 := s9 _ _ h7
    have h8 := s9 _ _ h8
    have c2 : K1 d G9 (.ref r9) := (OwnF.tup D h9).k1 (by simp only [List.length_append, List.length_map]; omega) (k0_ints _)
    refine ⟨.ref o, rfl, o, _, rfl, .inr (SqT.of ho), fun r10 n10 => ?_⟩
    have s10 := same_new (o := .lst (row.map V.int)) n10
    have h10 := OwnF.new (o := .lst (row.map V.int)) D n10
    have D := D.same s10
    have hwa := s10 _ _ hwa
    have hwb := s10 _ _ hwb
    have ho := s10 _ _ ho
    have KK := KK.trans (Same.kp s10)
    have c1 := c1.kp (Same.kp s10)
    have c2 := c2.kp (Same.kp s10)
    generalize upd G9 r10 (.lst (row.map V.int)) = G10 at D hwa hwb ho KK c1 c2 h10 s10 ⊢
    have c3 : K1 d G10 (.ref r10) := h10.k1L
    refine ⟨by show 6 ≤ sizeLine; decide, fun r11 n11 => ?_⟩
    have s11 := same_new (o := .lst [.ref r4, .ref r9, .ref r10, .non, .str "", .int 0]) n11
    have h11 := OwnF.new (o := .lst [.ref r4, .ref r9, .ref r10, .non, .str "", .int 0]) D n11
    have D := D.same s11
    have hwa := s11 _ _ hwa
    have hwb := s11 _ _ hwb
    have ho := s11 _ _ ho
    have KK := KK.trans (Same.kp s11)
    have c1 := c1.kp (Same.kp s11)
    have c2 := c2.kp (Same.kp s11)
    have c3 := c3.kp (Same.kp s11)
    generalize upd G10 r11 (.lst [.ref r4, .ref r9, .ref r10, .non, .str "", .int 0]) = G11 at D hwa hwb ho KK c1 c2 c3 h11 s11 ⊢
    refine ⟨1, rfl, .ref wa, rfl, wa, _, 1, .ref wb, rfl, rfl, SqT.of hwa, rfl, wb, us, rfl, .inr (SqT.of hwb), .ref wa, rfl, wa, _, 1, .ref wb, rfl, rfl, SqT.of hwa, rfl, wb, us, rfl, .inr (SqT.of hwb), _, 1, rfl, rfl, by show 1 ≤ sizeLine; decide, fun r12 n12 => ?_⟩
    have s12 := same_new (o := .tup [.int 0]) n12
    have h12 := OwnF.new (o := .tup [.int 0]) D n12
    have D := D.same s12
    have hwa := s12 _ _ hwa
    have hwb := s12 _ _ hwb
    have ho := s12 _ _ ho
    have KK := KK.trans (Same.kp s12)
    have c1 := c1.kp (Same.kp s12)
    have c2 := c2.kp (Same.kp s12)
    have c3 := c3.kp (Same.kp s12)
    have h11 := h11.kp (Same.kp s12)
    generalize upd G11 r12 (.tup [.int 0]) = G12 at D hwa hwb ho KK c1 c2 c3 h11 h12 s12 ⊢
    have z0 : K0 d G12 (.ref r12) := h12.k0
    refine ⟨10, 40, rfl, rfl, ⟨by decide, by decide, by decide⟩, by show 10 ≤ sizeLine; decide, fun r13 n13 => ?_⟩
    have s13 := same_new (o := .lst [.int (-1), .int us.length, .int ((us.length : Int) - 1), .int 0, .bl true, .bl false, .non, .str "0", .ref r12, .int (10 ^ (40 : Int).toNat)]) n13
    have h13 := OwnF.new (o := .lst [.int (-1), .int us.length, .int ((us.length : Int) - 1), .int 0, .bl true, .bl false, .non, .str "0", .ref r12, .int (10 ^ (40 : Int).toNat)]) D n13
    have D := D.same s13
    have hwa := s13 _ _ hwa
    have hwb := s13 _ _ hwb
    have ho := s13 _ _ ho
    have KK := KK.trans (Same.kp s13)
    have c1 := c1.kp (Same.kp s13)
    have c2 := c2.kp (Same.kp s13)
    have c3 := c3.kp (Same.kp s13)
    have h11 := h11.kp (Same.kp s13)
    have z0 := z0.kp (Same.kp s13)
    generalize upd G12 r13 (.lst [.int (-1), .int us.length, .int ((us.length : Int) - 1), .int 0, .bl true, .bl false, .non, .str "0", .ref r12, .int (10 ^ (40 : Int).toNat)]) = G13 at D hwa hwb ho KK c1 c2 c3 h11 z0 h13 s13 ⊢
    refine ⟨.ref d, rfl, d, 10, rfl, D, by decide, by decide, fun v14 G14 a14 b14 D14 kq14 => ?_⟩
    have hwa := (D.tk kq14) _ _ hwa
    have hwb := (D.tk kq14) _ _ hwb
    have ho := (D.tk kq14) _ _ ho
    have KK := KK.trans kq14
    have c1 := c1.kp kq14
    have c2 := c2.kp kq14
    have c3 := c3.kp kq14
    have h11 := h11.kp kq14
    have z0 := z0.kp kq14
    have h13 := h13.kp kq14
    have D := D14
    obtain ⟨odd, eo, z1⟩ := pickV (R := fun x => K0 d G14 x) a14 (xs := [.int (-1), .int us.length, .int ((us.length : Int) - 1), .int 0, .bl true, .bl false, .non, .str "0", .ref r12, .int (10 ^ (40 : Int).toNat)]) b14 (fm trivial (fm trivial (fm trivial (fm trivial (fm trivial (fm trivial (fm trivial (fm trivial (fm z0 (fm trivial fm_nil))))))))))
    refine ⟨r13, _, v14, odd, rfl, rfl, SqL.of h13.2, eo, ?_⟩
    obtain ⟨m6, em6, lm6⟩ := cutV_ints row none (some (k : Int))
    refine ⟨.ref r11, rfl, .ref o, rfl, .int k, rfl, k, rfl, o, _, rfl, ho, fun r15 G15 s15 h15 => ?_⟩
    rw [em6] at h15
    have D := D.same s15
    have hwa := s15 _ _ hwa
    have hwb := s15 _ _ hwb
    have ho := s15 _ _ ho
    have KK := KK.trans (Same.kp s15)
    have c1 := c1.kp (Same.kp s15)
    have c2 := c2.kp (Same.kp s15)
    have c3 := c3.kp (Same.kp s15)
    have h11 := h11.kp (Same.kp s15)
    have z1 := z1.kp (Same.kp s15)
    refine ⟨odd, rfl, by show 1 ≤ sizeLine; decide, fun r16 n16 => ?_⟩
    have s16 := same_new (o := .tup [odd]) n16
    have h16 := OwnF.new (o := .tup [odd]) D n16
    have D := D.same s16
    have hwa := s16 _ _ hwa
    have hwb := s16 _ _ hwb
    have ho := s16 _ _ ho
    have KK := KK.trans (Same.kp s16)
    have c1 := c1.kp (Same.kp s16)
    have c2 := c2.kp (Same.kp s16)
    have c3 := c3.kp (Same.kp s16)
    have h11 := h11.kp (Same.kp s16)
    have z1 := z1.kp (Same.kp s16)
    have h15 := s16 _ _ h15
    generalize upd G15 r16 (.tup [odd]) = G16 at D hwa hwb ho KK c1 c2 c3 h11 z1 h15 h16 s16 ⊢
    have h16 := h16.2
    refine ⟨r15, r16, _, _, rfl, rfl, h15, h16, by simp only [List.length_append, List.length_map, List.length_cons, List.length_nil]; omega, fun r17 G17 s17 h17 => ?_⟩
    have D := D.same s17
    have hwa := s17 _ _ hwa
    have hwb := s17 _ _ hwb
    have ho := s17 _ _ ho
    have KK := KK.trans (Same.kp s17)
    have c1 := c1.kp (Same.kp s17)
    have c2 := c2.kp (Same.kp s17)
    have c3 := c3.kp (Same.kp s17)
    have h11 := h11.kp (Same.kp s17)
    have z1 := z1.kp (Same.kp s17)
    have h15 := s17 _ _ h15
    have h16 := s17 _ _ h16
    obtain ⟨m7, em7, lm7⟩ := cutV_ints row (some (k : Int)) none
    refine ⟨.ref o, rfl, .int k, rfl, k, rfl, o, _, rfl, ho, fun r18 G18 s18 h18 => ?_⟩
    rw [em7] at h18
    have D := D.same s18
    have hwa := s18 _ _ hwa
    have hwb := s18 _ _ hwb
    have ho := s18 _ _ ho
    have KK := KK.trans (Same.kp s18)
    have c1 := c1.kp (Same.kp s18)
    have c2 := c2.kp (Same.kp s18)
    have c3 := c3.kp (Same.kp s18)
    have h11 := h11.kp (Same.kp s18)
    have z1 := z1.kp (Same.kp s18)
    have h15 := s18 _ _ h15
    have h16 := s18 _ _ h16
    have h17 := s18 _ _ h17
    refine ⟨r17, r18, _, _, rfl, rfl, h17, h18, by simp only [List.length_append, List.length_map, List.length_cons, List.length_nil]; omega, fun r19 G19 s19 h19 => ?_⟩
    have D := D.same s19
    have hwa := s19 _ _ hwa
    have hwb := s19 _ _ hwb
    have ho := s19 _ _ ho
    have KK := KK.trans (Same.kp s19)
    have c1 := c1.kp (Same.kp s19)
    have c2 := c2.kp (Same.kp s19)
    have c3 := c3.kp (Same.kp s19)
    have h11 := h11.kp (Same.kp s19)
    have z1 := z1.kp (Same.kp s19)
    have h15 := s19 _ _ h15
    have h16 := s19 _ _ h16
    have h17 := s19 _ _ h17
    have h18 := s19 _ _ h18
    have y19 : K1 d G19 (.ref r19) := (OwnF.tup D h19).k1 (by simp only [List.length_append, List.length_map, List.length_cons, List.length_nil]; omega) (fm_app (fm_app (k0_ints _) (fm z1 fm_nil)) (k0_ints _))
    obtain ⟨m8, em8, lm8⟩ := cutV_ints row none (some (k : Int))
    refine ⟨.ref o, rfl, .int k, rfl, k, rfl, o, _, rfl, ho, fun r20 G20 s20 h20 => ?_⟩
    rw [em8] at h20
    have D := D.same s20
    have hwa := s20 _ _ hwa
    have hwb := s20 _ _ hwb
    have ho := s20 _ _ ho
    have KK := KK.trans (Same.kp s20)
    have c1 := c1.kp (Same.kp s20)
    have c2 := c2.kp (Same.kp s20)
    have c3 := c3.kp (Same.kp s20)
    have h11 := h11.kp (Same.kp s20)
    have z1 := z1.kp (Same.kp s20)
    have y19 := y19.kp (Same.kp s20)
    refine ⟨odd, rfl, by show 1 ≤ sizeLine; decide, fun r21 n21 => ?_⟩
    have s21 := same_new (o := .tup [odd]) n21
    have h21 := OwnF.new (o := .tup [odd]) D n21
    have D := D.same s21
    have hwa := s21 _ _ hwa
    have hwb := s21 _ _ hwb
    have ho := s21 _ _ ho
    have KK := KK.trans (Same.kp s21)
    have c1 := c1.kp (Same.kp s21)
    have c2 := c2.kp (Same.kp s21)
    have c3 := c3.kp (Same.kp s21)
    have h11 := h11.kp (Same.kp s21)
    have z1 := z1.kp (Same.kp s21)
    have y19 := y19.kp (Same.kp s21)
    have h20 := s21 _ _ h20
    generalize upd G20 r21 (.tup [odd]) = G21 at D hwa hwb ho KK c1 c2 c3 h11 z1 y19 h20 h21 s21 ⊢
    have h21 := h21.2
    refine ⟨r20, r21, _, _, rfl, rfl, h20, h21, by simp only [List.length_append, List.length_map, List.length_cons, List.length_nil]; omega, fun r22 G22 s22 h22 => ?_⟩
    have D := D.same s22
    have hwa := s22 _ _ hwa
    have hwb := s22 _ _ hwb
    have ho := s22 _ _ ho
    have KK := KK.trans (Same.kp s22)
    have c1 := c1.kp (Same.kp s22)
    have c2 := c2.kp (Same.kp s22)
    have c3 := c3.kp (Same.kp s22)
    have h11 := h11.kp (Same.kp s22)
    have z1 := z1.kp (Same.kp s22)
    have y19 := y19.kp (Same.kp s22)
    have h20 := s22 _ _ h20
    have h21 := s22 _ _ h21
    obtain ⟨m9, em9, lm9⟩ := cutV_ints row (some ((k : Int) + 1)) none
    refine ⟨.ref o, rfl, .int k, rfl, k, 1, rfl, rfl, _, rfl, o, _, rfl, ho, fun r23 G23 s23 h23 => ?_⟩
    rw [em9] at h23
    have D := D.same s23
    have hwa := s23 _ _ hwa
    have hwb := s23 _ _ hwb
    have ho := s23 _ _ ho
    have KK := KK.trans (Same.kp s23)
    have c1 := c1.kp (Same.kp s23)
    have c2 := c2.kp (Same.kp s23)
    have c3 := c3.kp (Same.kp s23)
    have h11 := h11.kp (Same.kp s23)
    have z1 := z1.kp (Same.kp s23)
    have y19 := y19.kp (Same.kp s23)
    have h20 := s23 _ _ h20
    have h21 := s23 _ _ h21
    have h22 := s23 _ _ h22
    refine ⟨r22, r23, _, _, rfl, rfl, h22, h23, by simp only [List.length_append, List.length_map, List.length_cons, List.length_nil]; omega, fun r24 G24 s24 h24 => ?_⟩
    have D := D.same s24
    have hwa := s24 _ _ hwa
    have hwb := s24 _ _ hwb
    have ho := s24 _ _ ho
    have KK := KK.trans (Same.kp s24)
    have c1 := c1.kp (Same.kp s24)
    have c2 := c2.kp (Same.kp s24)
    have c3 := c3.kp (Same.kp s24)
    have h11 := h11.kp (Same.kp s24)
    have z1 := z1.kp (Same.kp s24)
    have y19 := y19.kp (Same.kp s24)
    have h20 := s24 _ _ h20
    have h21 := s24 _ _ h21
    have h22 := s24 _ _ h22
    have h23 := s24 _ _ h23
    have y24 : K1 d G24 (.ref r24) := (OwnF.tup D h24).k1 (by simp only [List.length_append, List.length_map, List.length_cons, List.length_nil]; omega) (fm_app (fm_app (k0_ints _) (fm z1 fm_nil)) (k0_ints _))
    refine ⟨.ref o, rfl, o, _, rfl, SqT.of ho, fun r25 n25 => ?_⟩
    have s25 := same_new (o := .tup (row.map V.int).reverse) n25
    have h25 := OwnF.new (o := .tup (row.map V.int).reverse) D n25
    have D := D.same s25
    have hwa := s25 _ _ hwa
    have hwb := s25 _ _ hwb
    have ho := s25 _ _ ho
    have KK := KK.trans (Same.kp s25)
    have c1 := c1.kp (Same.kp s25)
    have c2 := c2.kp (Same.kp s25)
    have c3 := c3.kp (Same.kp s25)
    have h11 := h11.kp (Same.kp s25)
    have z1 := z1.kp (Same.kp s25)
    have y19 := y19.kp (Same.kp s25)
    have y24 := y24.kp (Same.kp s25)
    generalize upd G24 r25 (.tup (row.map V.int).reverse) = G25 at D hwa hwb ho KK c1 c2 c3 h11 z1 y19 y24 h25 s25 ⊢
    have y25 : K1 d G25 (.ref r25) := h25.k1 (by rw [List.length_reverse, List.length_map]; omega) (fun x hx => k0_ints row x (List.mem_reverse.mp hx))
    refine ⟨by show 3 ≤ sizeLine; decide, fun r26 n26 => ?_⟩
    have s26 := same_new (o := .lst [.ref r19, .ref r24, .ref r25]) n26
    have h26 := OwnF.new (o := .lst [.ref r19, .ref r24, .ref r25]) D n26
    have D := D.same s26
    have hwa := s26 _ _ hwa
    have hwb := s26 _ _ hwb
    have ho := s26 _ _ ho
    have KK := KK.trans (Same.kp s26)
    have c1 := c1.kp (Same.kp s26)
    have c2 := c2.kp (Same.kp s26)
    have c3 := c3.kp (Same.kp s26)
    have h11 := h11.kp (Same.kp s26)
    have z1 := z1.kp (Same.kp s26)
    have y19 := y19.kp (Same.kp s26)
    have y24 := y24.kp (Same.kp s26)
    have y25 := y25.kp (Same.kp s26)
    generalize upd G25 r26 (.lst [.ref r19, .ref r24, .ref r25]) = G26 at D hwa hwb ho KK c1 c2 c3 h11 z1 y19 y24 y25 h26 s26 ⊢
    refine ⟨r11, r26, _, _, rfl, rfl, h11.2, h26.2, by show 9 ≤ sizeLine; decide, fun r27 n27 => ?_⟩
    have s27 := same_new (o := .lst ([.ref r4, .ref r9, .ref r10, .non, .str "", .int 0] ++ [.ref r19, .ref r24, .ref r25])) n27
    have h27 := OwnF.new (o := .lst ([.ref r4, .ref r9, .ref r10, .non, .str "", .int 0] ++ [.ref r19, .ref r24, .ref r25])) D n27
    have D := D.same s27
    have hwa := s27 _ _ hwa
    have hwb := s27 _ _ hwb
    have ho := s27 _ _ ho
    have KK := KK.trans (Same.kp s27)
    have c1 := c1.kp (Same.kp s27)
    have c2 := c2.kp (Same.kp s27)
    have c3 := c3.kp (Same.kp s27)
    have h11 := h11.kp (Same.kp s27)
    have z1 := z1.kp (Same.kp s27)
    have y19 := y19.kp (Same.kp s27)
    have y24 := y24.kp (Same.kp s27)
    have y25 := y25.kp (Same.kp s27)
    have h26 := h26.kp (Same.kp s27)
    generalize upd G26 r27 (.lst ([.ref r4, .ref r9, .ref r10, .non, .str "", .int 0] ++ [.ref r19, .ref r24, .ref r25])) = G27 at D hwa hwb ho KK c1 c2 c3 h11 z1 y19 y24 y25 h26 h27 s27 ⊢
    refine ⟨.ref r27, rfl, .ref d, rfl, d, 9, rfl, D, by decide, by decide, fun v28 G28 a28 b28 D28 kq28 => ?_⟩
    have hwa := (D.tk kq28) _ _ hwa
    have hwb := (D.tk kq28) _ _ hwb
    have ho := (D.tk kq28) _ _ ho
    have KK := KK.trans kq28
    have c1 := c1.kp kq28
    have c2 := c2.kp kq28
    have c3 := c3.kp kq28
    have h11 := h11.kp kq28
    have z1 := z1.kp kq28
    have y19 := y19.kp kq28
    have y24 := y24.kp kq28
    have y25 := y25.kp kq28
    have h26 := h26.kp kq28
    have h27 := h27.kp kq28
    have D := D28
    obtain ⟨z, ez, hz⟩ := pickV (R := fun x => K1 d G28 x) a28 (xs := [.ref r4, .ref r9, .ref r10, .non, .str "", .int 0, .ref r19, .ref r24, .ref r25]) b28 (fm c1 (fm c2 (fm c3 (fm k1_non (fm (k1_str _) (fm (k1_int _) (fm y19 (fm y24 (fm y25 fm_nil)))))))))
    exact ⟨r27, _, v28, z, rfl, rfl, SqL.of h27.2, ez, q z _ hz D KK⟩
end
/-! ### orders bent: the rows -/
theorem FDk.oth {H : Hp} {d a : Addr} {o : HO} (h : FDk H d) (ne : a ≠ d) : FDk (upd H a o) d := by
  obtain ⟨ns, h1, h2⟩ := h
  exact ⟨ns, by rw [upd_ne (Ne.symm ne)]; exact h1, h2⟩
section
variable {P : Program} {w : World} {K : PySem.W.Frag} {mg : Str → Option Value} {base : Heap}
set_option maxHeartbeats 8000000 in
theorem ok_l_bent {f : Addr} {fd : FuncData} (F : Fun K "_law_bent" "_law_bent" s_l_bent f fd) (M : Free mg) (D_l_take : Df P w K mg base 2 "_law_take" ["_law_deck_here", "_law_most"] spTake) (D_l_bent_order : Df P w K mg base 3 "_law_bent_order" ["_law_deck_here", "_law_web_here", "_law_order"] spBentOrder) : FnOk P w K mg base CX0 4 f fd ["_law_deck_here", "_law_web_here", "_law_orders"] spBent := by
  obtain ⟨f_l_take, fd_l_take, G_l_take, g_l_take, k_l_take, b_l_take⟩ := D_l_take
  obtain ⟨f_l_bent_order, fd_l_bent_order, G_l_bent_order, g_l_bent_order, k_l_bent_order, b_l_bent_order⟩ := D_l_bent_order
  refine F.ok sc_l_bent (fun vs H Q E h => ?_) (fun cdv A outer s H vs Q E hr h => ?_)
  · obtain ⟨d, o, wv, n, ts, us, rs, rfl, _⟩ := h
    rfl
  · obtain ⟨d, o, wv, n, ts, us, rs, rfl, D, hW, ho, hp, lrs, l1, l100, q⟩ := h
    refine ⟨_, (pss_cons (ps_set (i := 3) sc_l_bent.nd rfl (.inl rfl) (pe_call G_l_take (hr.mono (by decide)) (by rfl) g_l_take k_l_take b_l_take .nil pass0 (pa_cons (pv 0) (pa_cons (pe_callB call_len_seq (by rfl) M.len PySem.boot_len (pa_cons (pv 2) pa_nil)) pa_nil))))
      (pss_cons (ps_set (i := 4) sc_l_bent.nd rfl (.inl rfl) (pe_call G_l_take (hr.mono (by decide)) (by rfl) g_l_take k_l_take b_l_take .nil pass0 (pa_cons (pv 0) (pa_cons (pe_callB call_len_seq (by rfl) M.len PySem.boot_len (pa_cons (pv 2) pa_nil)) pa_nil))))
      (pss_cons (ps_set (i := 5) sc_l_bent.nd rfl (.inl rfl) (pe_call G_l_take (hr.mono (by decide)) (by rfl) g_l_take k_l_take b_l_take .nil pass0 (pa_cons (pv 0) (pa_cons pe_int pa_nil))))
      (pss_cons (ps_if (pt_cmpR op_lt (pv 5) pe_int (nomark _))
        (pss_one (ps_ret (pe_op op_catU (pe_op op_catU (pe_slice sl_tupU (pv 2) po_none (po_some (pv 3))) (pe_tup (pa_cons (pe_call G_l_bent_order (hr.mono (by decide)) (by rfl) g_l_bent_order k_l_bent_order b_l_bent_order .nil pass0 (pa_cons (pv 0) (pa_cons (pv 1) (pa_cons (pe_ix ix_tup (pv 2) (pv 3) (fun _ _ => rfl)) pa_nil)))) pa_nil))) (pe_slice sl_tupU (pv 2) (po_some (pe_op op_add (pv 3) pe_int)) po_none))))
        pss_nil)
      (pss_cons (ps_if (pt_cmpR op_eq (pv 5) pe_int (nomark _))
        (pss_cons (ps_set (i := 6) sc_l_bent.nd rfl (.inl rfl) (pe_callTy call_list_of (by rfl) M.list (by decide +kernel) (pa_cons (pv 2) pa_nil)))
        (pss_cons (ps_asg (pe_tup (pa_cons (pe_ix ix_list (pv 6) (pv 4) (fun _ _ => rfl)) (pa_cons (pe_ix ix_list (pv 6) (pv 3) (fun _ _ => rfl)) pa_nil))) (pg_tup rfl (pgs_cons (pg_sub (pv 6) (pv 3) set_list) (pgs_cons (pg_sub (pv 6) (pv 4) set_list) pgs_nil))))
        (pss_one (ps_ret (pe_callTy call_tuple_of (by rfl) M.tuple (by decide +kernel) (pa_cons (pv 6) pa_nil))))))
        pss_nil)
      (pss_cons (ps_set (i := 7) sc_l_bent.nd rfl (.inl rfl) (pe_lst (pa_cons (pe_op op_catU (pe_slice sl_tupU (pv 2) po_none (po_some (pv 3))) (pe_slice sl_tupU (pv 2) (po_some (pe_op op_add (pv 3) pe_int)) po_none)) (pa_cons (pe_op op_catU (pv 2) (pe_tup (pa_cons (pe_tup pa_nil) pa_nil))) (pa_cons (pe_op op_catU (pe_op op_catU (pe_slice sl_tupU (pv 2) po_none (po_some (pv 3))) (pe_slice sl_tupU (pv 2) (po_some (pv 3)) (po_some (pe_op op_add (pv 3) pe_int)))) (pe_slice sl_tupU (pv 2) (po_some (pv 3)) po_none)) pa_nil)))))
      (pss_one (ps_ret (pe_ix ix_list (pe_op op_cat (pv 7) (pe_lst (pa_cons (pe_callTy call_list_of (by rfl) M.list (by decide +kernel) (pa_cons (pv 2) pa_nil)) (pa_cons (pe_tup (pa_cons (pv 2) pa_nil)) (pa_cons (pe_revT (pv 2)) pa_nil))))) (pe_call G_l_take (hr.mono (by decide)) (by rfl) g_l_take k_l_take b_l_take .nil pass0 (pa_cons (pv 0) (pa_cons pe_int pa_nil))) (fun _ _ => rfl)))))))))), ?_⟩
    have KK : Kp d d H H := Kp.refl
    have hall : ∀ x ∈ us, K1 d H x := fun x hx => by
      obtain ⟨i, ei⟩ := List.getElem?_of_mem hx
      obtain ⟨row, er, a, rfl, ha⟩ := Paired.at hp ei
      exact (OwnF.tup D ha).k1 (by rw [List.length_map]; have := lrs row (List.mem_of_getElem? er); omega) (k0_ints _)
    refine ⟨.ref d, rfl, .ref o, rfl, o, _, rfl, .inr (SqT.of ho), d, _, rfl, D, by omega, by omega, fun v1 G1 a1 b1 D1 kq1 => ?_⟩
    have hW := hW.tk (D.tk kq1)
    have ho := (D.tk kq1) _ _ ho
    have KK := KK.trans kq1
    have hall := fun x hx => (hall x hx).kp kq1
    have D := D1
    have ek : us[v1.toNat]? = some _ := List.getElem?_eq_getElem (by omega)
    generalize us[v1.toNat]'(by omega) = xk at ek
    obtain ⟨row, er, ak, rfl, hak⟩ := Paired.at hp ek
    have lrow := lrs row (List.mem_of_getElem? er)
    have hak := (OwnF.tup ‹FDk H d› hak).2
    have hak := kq1 _ _ (OwnF.tup ‹FDk H d› hak).1 (OwnF.tup ‹FDk H d› hak).1 hak
    clear er
    obtain ⟨k, rfl⟩ : ∃ k : Nat, v1 = (k : Int) := ⟨v1.toNat, by omega⟩
    rw [Int.toNat_natCast] at ek
    refine ⟨.ref d, rfl, .ref o, rfl, o, _, rfl, .inr (SqT.of ho), d, _, rfl, D, by omega, by omega, fun v2 G2 a2 b2 D2 kq2 => ?_⟩
    have hW := hW.tk (D.tk kq2)
    have ho := (D.tk kq2) _ _ ho
    have KK := KK.trans kq2
    have hall := fun x hx => (hall x hx).kp kq2
    have hak := (D.tk kq2) _ _ hak
    have D := D2
    have et : us[v2.toNat]? = some _ := List.getElem?_eq_getElem (by omega)
    generalize us[v2.toNat]'(by omega) = xt at et
    obtain ⟨t, rfl⟩ : ∃ t : Nat, v2 = (t : Int) := ⟨v2.toNat, by omega⟩
    rw [Int.toNat_natCast] at et
    refine ⟨.ref d, rfl, d, 8, rfl, D, by decide, by decide, fun v3 G3 a3 b3 D3 kq3 => ?_⟩
    have hW := hW.tk (D.tk kq3)
    have ho := (D.tk kq3) _ _ ho
    have KK := KK.trans kq3
    have hall := fun x hx => (hall x hx).kp kq3
    have hak := (D.tk kq3) _ _ hak
    have D := D3
    refine ⟨.int v3, rfl, _, _, rfl, rfl, _, rfl, ?_⟩
    clear D3 D2 D1 kq1 kq2 kq3 hp lrs
    refine ite2 (fun _ => ?_) (fun _ => ?_)
    · refine ⟨.ref o, rfl, .int k, rfl, k, rfl, o, _, rfl, ho, fun r4 G4 s4 h4 => ?_⟩
      have D := D.same s4
      have hW := hW.tk (Same.tk s4)
      have ho := s4 _ _ ho
      have KK := KK.trans (Same.kp s4)
      have hall := fun x hx => (hall x hx).kp (Same.kp (d := d) (c := d) s4)
      have hak := s4 _ _ hak
      refine ⟨.ref d, rfl, wv, rfl, .ref o, rfl, .int k, rfl, o, _, k, _, rfl, rfl, SqT.of ho, atI_nat ek, d, ak, wv, n, ts, row, rfl, D, hW, hak, lrow, fun z G hz D' kq => ?_⟩
      have hW := hW.tk (D.tk kq)
      have ho := (D.tk kq) _ _ ho
      have KK := KK.trans kq
      have hall := fun x hx => (hall x hx).kp kq
      have hak := (D.tk kq) _ _ hak
      have h4 := (D.tk kq) _ _ h4
      have D := D'
      refine ⟨by show 1 ≤ sizeLine; decide, fun r5 n5 => ?_⟩
      have s5 := same_new (o := .tup [z]) n5
      have h5 := OwnF.new (o := .tup [z]) D n5
      have D := D.same s5
      have hW := hW.tk (Same.tk s5)
      have ho := s5 _ _ ho
      have KK := KK.trans (Same.kp s5)
      have hall := fun x hx => (hall x hx).kp (Same.kp (d := d) (c := d) s5)
      have hak := s5 _ _ hak
      have h4 := s5 _ _ h4
      have hz := hz.kp (Same.kp s5)
      generalize upd G r5 (.tup [z]) = G5 at D hW ho KK hall hak h4 hz h5 s5 ⊢
      have h5 := h5.2
      have lc1 := len_cut us none (some (k : Int))
      have lc2 := len_cut us (some ((k : Int) + 1)) none
      refine ⟨r4, r5, _, _, rfl, rfl, h4, h5, by simp only [List.length_cons, List.length_nil]; omega, fun r6 G6 s6 h6 => ?_⟩
      have D := D.same s6
      have hW := hW.tk (Same.tk s6)
      have ho := s6 _ _ ho
      have KK := KK.trans (Same.kp s6)
      have hall := fun x hx => (hall x hx).kp (Same.kp (d := d) (c := d) s6)
      have hak := s6 _ _ hak
      have h4 := s6 _ _ h4
      have hz := hz.kp (Same.kp s6)
      have h5 := s6 _ _ h5
      refine ⟨.ref o, rfl, .int k, rfl, k, 1, rfl, rfl, _, rfl, o, _, rfl, ho, fun r7 G7 s7 h7 => ?_⟩
      have D := D.same s7
      have hW := hW.tk (Same.tk s7)
      have ho := s7 _ _ ho
      have KK := KK.trans (Same.kp s7)
      have hall := fun x hx => (hall x hx).kp (Same.kp (d := d) (c := d) s7)
      have hak := s7 _ _ hak
      have h4 := s7 _ _ h4
      have hz := hz.kp (Same.kp s7)
      have h5 := s7 _ _ h5
      have h6 := s7 _ _ h6
      refine ⟨r6, r7, _, _, rfl, rfl, h6, h7, by simp only [List.length_append, List.length_cons, List.length_nil]; omega, fun r8 G8 s8 h8 => ?_⟩
      have D := D.same s8
      have hW := hW.tk (Same.tk s8)
      have ho := s8 _ _ ho
      have KK := KK.trans (Same.kp s8)
      have hall := fun x hx => (hall x hx).kp (Same.kp (d := d) (c := d) s8)
      have hak := s8 _ _ hak
      have h4 := s8 _ _ h4
      have hz := hz.kp (Same.kp s8)
      have h5 := s8 _ _ h5
      have h6 := s8 _ _ h6
      have h7 := s8 _ _ h7
      exact q _ _ ((OwnF.tup D h8).k2 (by simp only [List.length_append, List.length_cons, List.length_nil]; omega) (fm_app (fm_app (fm_cut hall _ _) (fm hz fm_nil)) (fm_cut hall _ _))) D KK
    refine ⟨.int v3, rfl, rfl, _, rfl, ?_⟩
    refine ite2 (fun _ => ?_) (fun _ => ?_)
    · refine ⟨.ref o, rfl, o, _, rfl, .inr (SqT.of ho), fun R nR => ?_⟩
      have Rd := D.ned nR
      have R0 := KK.free nR Rd Rd
      have D5 := D.same (same_new (o := .lst us) nR)
      have kR := Kp.new (d := d) (c := d) (o := .lst us) nR
      have hR := upd_same (H := G3) (a := R) (o := .lst us)
      generalize upd G3 R (.lst us) = G5 at D5 kR hR ⊢
      refine ⟨.ref R, rfl, .int t, rfl, R, _, t, _, rfl, rfl, SqL.of hR, atI_nat et, .ref R, rfl, .int k, rfl, R, _, k, _, rfl, rfl, SqL.of hR, atI_nat ek, by show 2 ≤ sizeLine; decide, fun c nc => ?_⟩
      have hc := upd_same (H := G5) (a := c) (o := .tup [xt, .ref ak])
      have sc := same_new (o := .tup [xt, .ref ak]) nc
      have D6 := D5.same sc
      have k6 := kR.trans (Same.kp (d := d) (c := d) sc)
      have hR6 := sc _ _ hR
      generalize upd G5 c (.tup [xt, .ref ak]) = G6 at hc D6 k6 hR6 ⊢
      refine ⟨c, _, rfl, SqT.of hc, rfl, _, _, rfl, .ref R, rfl, .int k, rfl, R, us, k, k, rfl, rfl, hR6, ixN_of (i := (k : Int)) (by omega) (by omega), _, _, rfl, .ref R, rfl, .int t, rfl, R, us.set k xt, t, t, rfl, rfl, upd_same, ixN_of (i := (t : Int)) (by omega) (by rw [List.length_set]; omega), rfl, ?_⟩
      refine ⟨.ref R, rfl, R, _, rfl, .inl ⟨SqL.of upd_same, fun p np => ?_⟩⟩
      rw [upd_upd] at np ⊢
      have D7 := D6.oth (o := .lst ((us.set k xt).set t (.ref ak))) Rd
      have k7 := k6.mut (o := .lst ((us.set k xt).set t (.ref ak))) nR
      have o8 := OwnF.new (o := .tup ((us.set k xt).set t (.ref ak))) D7 np
      have k8 := k7.trans (Kp.new (d := d) (c := d) (o := .tup ((us.set k xt).set t (.ref ak))) np)
      refine q _ _ (o8.k2 (by rw [List.length_set, List.length_set]; omega) fun x hx => ?_) (D7.same (same_new np)) (KK.trans k8)
      have hx2 : x ∈ us := by
        rcases List.mem_or_eq_of_mem_set hx with h | h
        · rcases List.mem_or_eq_of_mem_set h with h | h
          · exact h
          · rw [h]
            exact List.mem_of_getElem? et
        · rw [h]
          exact List.mem_of_getElem? ek
      exact (hall x hx2).kp k8
    have lc1 := len_cut us none (some (k : Int))
    have lc2 := len_cut us (some ((k : Int) + 1)) none
    have lc3 := len_cut us (some (k : Int)) (some ((k : Int) + 1))
    have lc4 := len_cut us (some (k : Int)) none
    refine ⟨.ref o, rfl, .int k, rfl, k, rfl, o, _, rfl, ho, fun r4 G4 s4 h4 => ?_⟩
    have D := D.same s4
    have hW := hW.tk (Same.tk s4)
    have ho := s4 _ _ ho
    have KK := KK.trans (Same.kp s4)
    have hall := fun x hx => (hall x hx).kp (Same.kp (d := d) (c := d) s4)
    have hak := s4 _ _ hak
    refine ⟨.ref o, rfl, .int k, rfl, k, 1, rfl, rfl, _, rfl, o, _, rfl, ho, fun r5 G5 s5 h5 => ?_⟩
    have D := D.same s5
    have hW := hW.tk (Same.tk s5)
    have ho := s5 _ _ ho
    have KK := KK.trans (Same.kp s5)
    have hall := fun x hx => (hall x hx).kp (Same.kp (d := d) (c := d) s5)
    have hak := s5 _ _ hak
    have h4 := s5 _ _ h4
    refine ⟨r4, r5, _, _, rfl, rfl, h4, h5, by (try simp only [List.length_append, List.length_cons, List.length_nil]); omega, fun r6 G6 s6 h6 => ?_⟩
    have D := D.same s6
    have hW := hW.tk (Same.tk s6)
    have ho := s6 _ _ ho
    have KK := KK.trans (Same.kp s6)
    have hall := fun x hx => (hall x hx).kp (Same.kp (d := d) (c := d) s6)
    have hak := s6 _ _ hak
    have h4 := s6 _ _ h4
    have h5 := s6 _ _ h5
    have y6 : K2 d G6 (.ref r6) := (OwnF.tup D h6).k2 (by (try simp only [List.length_append, List.length_cons, List.length_nil]); omega) (fm_app (fm_cut hall _ _) (fm_cut hall _ _))
    refine ⟨.ref o, rfl, Nat.zero_le _, fun r7 n7 => ?_⟩
    have s7 := same_new (o := .tup []) n7
    have h7 := OwnF.new (o := .tup []) D n7
    have D := D.same s7
    have hW := hW.tk (Same.tk s7)
    have ho := s7 _ _ ho
    have KK := KK.trans (Same.kp s7)
    have hall := fun x hx => (hall x hx).kp (Same.kp (d := d) (c := d) s7)
    have hak := s7 _ _ hak
    have y6 := y6.kp (Same.kp s7)
    generalize upd G6 r7 (.tup []) = G7 at D hW ho KK hall hak y6 h7 s7 ⊢
    have u0 : K1 d G7 (.ref r7) := h7.k1 (Nat.zero_le _) fm_nil
    refine ⟨by show 1 ≤ sizeLine; decide, fun r8 n8 => ?_⟩
    have s8 := same_new (o := .tup [.ref r7]) n8
    have h8 := OwnF.new (o := .tup [.ref r7]) D n8
    have D := D.same s8
    have hW := hW.tk (Same.tk s8)
    have ho := s8 _ _ ho
    have KK := KK.trans (Same.kp s8)
    have hall := fun x hx => (hall x hx).kp (Same.kp (d := d) (c := d) s8)
    have hak := s8 _ _ hak
    have y6 := y6.kp (Same.kp s8)
    have u0 := u0.kp (Same.kp s8)
    generalize upd G7 r8 (.tup [.ref r7]) = G8 at D hW ho KK hall hak y6 u0 h8 s8 ⊢
    have h8 := h8.2
    refine ⟨o, r8, _, _, rfl, rfl, ho, h8, by (try simp only [List.length_append, List.length_cons, List.length_nil]); omega, fun r9 G9 s9 h9 => ?_⟩
    have D := D.same s9
    have hW := hW.tk (Same.tk s9)
    have ho := s9 _ _ ho
    have KK := KK.trans (Same.kp s9)
    have hall := fun x hx => (hall x hx).kp (Same.kp (d := d) (c := d) s9)
    have hak := s9 _ _ hak
    have y6 := y6.kp (Same.kp s9)
    have u0 := u0.kp (Same.kp s9)
    have h8 := s9 _ _ h8
    have y9 : K2 d G9 (.ref r9) := (OwnF.tup D h9).k2 (by (try simp only [List.length_append, List.length_cons, List.length_nil]); omega) (fm_app hall (fm u0 fm_nil))
    refine ⟨.ref o, rfl, .int k, rfl, k, rfl, o, _, rfl, ho, fun r10 G10 s10 h10 => ?_⟩
    have D := D.same s10
    have hW := hW.tk (Same.tk s10)
    have ho := s10 _ _ ho
    have KK := KK.trans (Same.kp s10)
    have hall := fun x hx => (hall x hx).kp (Same.kp (d := d) (c := d) s10)
    have hak := s10 _ _ hak
    have y6 := y6.kp (Same.kp s10)
    have y9 := y9.kp (Same.kp s10)
    refine ⟨.ref o, rfl, .int k, rfl, k, rfl, .int k, rfl, k, 1, rfl, rfl, _, rfl, o, _, rfl, ho, fun r11 G11 s11 h11 => ?_⟩
    have D := D.same s11
    have hW := hW.tk (Same.tk s11)
    have ho := s11 _ _ ho
    have KK := KK.trans (Same.kp s11)
    have hall := fun x hx => (hall x hx).kp (Same.kp (d := d) (c := d) s11)
    have hak := s11 _ _ hak
    have y6 := y6.kp (Same.kp s11)
    have y9 := y9.kp (Same.kp s11)
    have h10 := s11 _ _ h10
    refine ⟨r10, r11, _, _, rfl, rfl, h10, h11, by (try simp only [List.length_append, List.length_cons, List.length_nil]); omega, fun r12 G12 s12 h12 => ?_⟩
    have D := D.same s12
    have hW := hW.tk (Same.tk s12)
    have ho := s12 _ _ ho
    have KK := KK.trans (Same.kp s12)
    have hall := fun x hx => (hall x hx).kp (Same.kp (d := d) (c := d) s12)
    have hak := s12 _ _ hak
    have y6 := y6.kp (Same.kp s12)
    have y9 := y9.kp (Same.kp s12)
    have h10 := s12 _ _ h10
    have h11 := s12 _ _ h11
    refine ⟨.ref o, rfl, .int k, rfl, k, rfl, o, _, rfl, ho, fun r13 G13 s13 h13 => ?_⟩
    have D := D.same s13
    have hW := hW.tk (Same.tk s13)
    have ho := s13 _ _ ho
    have KK := KK.trans (Same.kp s13)
    have hall := fun x hx => (hall x hx).kp (Same.kp (d := d) (c := d) s13)
    have hak := s13 _ _ hak
    have y6 := y6.kp (Same.kp s13)
    have y9 := y9.kp (Same.kp s13)
    have h10 := s13 _ _ h10
    have h11 := s13 _ _ h11
    have h12 := s13 _ _ h12
    refine ⟨r12, r13, _, _, rfl, rfl, h12, h13, by (try simp only [List.length_append, List.length_cons, List.length_nil]); omega, fun r14 G14 s14 h14 => ?_⟩
    have D := D.same s14
    have hW := hW.tk (Same.tk s14)
    have ho := s14 _ _ ho
    have KK := KK.trans (Same.kp s14)
    have hall := fun x hx => (hall x hx).kp (Same.kp (d := d) (c := d) s14)
    have hak := s14 _ _ hak
    have y6 := y6.kp (Same.kp s14)
    have y9 := y9.kp (Same.kp s14)
    have h10 := s14 _ _ h10
    have h11 := s14 _ _ h11
    have h12 := s14 _ _ h12
    have h13 := s14 _ _ h13
    have y14 : K2 d G14 (.ref r14) := (OwnF.tup D h14).k2 (by (try simp only [List.length_append, List.length_cons, List.length_nil]); omega) (fm_app (fm_app (fm_cut hall _ _) (fm_cut hall _ _)) (fm_cut hall _ _))
    refine ⟨by show 3 ≤ sizeLine; decide, fun r15 n15 => ?_⟩
    have s15 := same_new (o := .lst [.ref r6, .ref r9, .ref r14]) n15
    have h15 := OwnF.new (o := .lst [.ref r6, .ref r9, .ref r14]) D n15
    have D := D.same s15
    have hW := hW.tk (Same.tk s15)
    have ho := s15 _ _ ho
    have KK := KK.trans (Same.kp s15)
    have hall := fun x hx => (hall x hx).kp (Same.kp (d := d) (c := d) s15)
    have hak := s15 _ _ hak
    have y6 := y6.kp (Same.kp s15)
    have y9 := y9.kp (Same.kp s15)
    have y14 := y14.kp (Same.kp s15)
    generalize upd G14 r15 (.lst [.ref r6, .ref r9, .ref r14]) = G15 at D hW ho KK hall hak y6 y9 y14 h15 s15 ⊢
    refine ⟨.ref r15, rfl, .ref o, rfl, o, _, rfl, .inr (SqT.of ho), fun r16 n16 => ?_⟩
    have s16 := same_new (o := .lst us) n16
    have h16 := OwnF.new (o := .lst us) D n16
    have D := D.same s16
    have hW := hW.tk (Same.tk s16)
    have ho := s16 _ _ ho
    have KK := KK.trans (Same.kp s16)
    have hall := fun x hx => (hall x hx).kp (Same.kp (d := d) (c := d) s16)
    have hak := s16 _ _ hak
    have y6 := y6.kp (Same.kp s16)
    have y9 := y9.kp (Same.kp s16)
    have y14 := y14.kp (Same.kp s16)
    have h15 := h15.kp (Same.kp s16)
    generalize upd G15 r16 (.lst us) = G16 at D hW ho KK hall hak y6 y9 y14 h15 h16 s16 ⊢
    have y16 : K2 d G16 (.ref r16) := h16.k2L
    refine ⟨.ref o, rfl, by show 1 ≤ sizeLine; decide, fun r17 n17 => ?_⟩
    have s17 := same_new (o := .tup [.ref o]) n17
    have h17 := OwnF.new (o := .tup [.ref o]) D n17
    have D := D.same s17
    have hW := hW.tk (Same.tk s17)
    have ho := s17 _ _ ho
    have KK := KK.trans (Same.kp s17)
    have hall := fun x hx => (hall x hx).kp (Same.kp (d := d) (c := d) s17)
    have hak := s17 _ _ hak
    have y6 := y6.kp (Same.kp s17)
    have y9 := y9.kp (Same.kp s17)
    have y14 := y14.kp (Same.kp s17)
    have h15 := h15.kp (Same.kp s17)
    have y16 := y16.kp (Same.kp s17)
    generalize upd G16 r17 (.tup [.ref o]) = G17 at D hW ho KK hall hak y6 y9 y14 h15 y16 h17 s17 ⊢
    have y17 : K2 d G17 (.ref r17) := h17.k2 (by show 1 ≤ 1000; decide) (fm ((OwnF.tup D ho).k1 (by omega) fun x hx => (hall x hx).1) fm_nil)
    refine ⟨.ref o, rfl, o, _, rfl, SqT.of ho, fun r18 n18 => ?_⟩
    have s18 := same_new (o := .tup us.reverse) n18
    have h18 := OwnF.new (o := .tup us.reverse) D n18
    have D := D.same s18
    have hW := hW.tk (Same.tk s18)
    have ho := s18 _ _ ho
    have KK := KK.trans (Same.kp s18)
    have hall := fun x hx => (hall x hx).kp (Same.kp (d := d) (c := d) s18)
    have hak := s18 _ _ hak
    have y6 := y6.kp (Same.kp s18)
    have y9 := y9.kp (Same.kp s18)
    have y14 := y14.kp (Same.kp s18)
    have h15 := h15.kp (Same.kp s18)
    have y16 := y16.kp (Same.kp s18)
    have y17 := y17.kp (Same.kp s18)
    generalize upd G17 r18 (.tup us.reverse) = G18 at D hW ho KK hall hak y6 y9 y14 h15 y16 y17 h18 s18 ⊢
    have y18 : K2 d G18 (.ref r18) := h18.k2 (by rw [List.length_reverse]; omega) (fun x hx => hall x (List.mem_reverse.mp hx))
    refine ⟨by show 3 ≤ sizeLine; decide, fun r19 n19 => ?_⟩
    have s19 := same_new (o := .lst [.ref r16, .ref r17, .ref r18]) n19
    have h19 := OwnF.new (o := .lst [.ref r16, .ref r17, .ref r18]) D n19
    have D := D.same s19
    have hW := hW.tk (Same.tk s19)
    have ho := s19 _ _ ho
    have KK := KK.trans (Same.kp s19)
    have hall := fun x hx => (hall x hx).kp (Same.kp (d := d) (c := d) s19)
    have hak := s19 _ _ hak
    have y6 := y6.kp (Same.kp s19)
    have y9 := y9.kp (Same.kp s19)
    have y14 := y14.kp (Same.kp s19)
    have h15 := h15.kp (Same.kp s19)
    have y16 := y16.kp (Same.kp s19)
    have y17 := y17.kp (Same.kp s19)
    have y18 := y18.kp (Same.kp s19)
    generalize upd G18 r19 (.lst [.ref r16, .ref r17, .ref r18]) = G19 at D hW ho KK hall hak y6 y9 y14 h15 y16 y17 y18 h19 s19 ⊢
    refine ⟨r15, r19, _, _, rfl, rfl, h15.2, h19.2, by show 6 ≤ sizeLine; decide, fun r20 n20 => ?_⟩
    have s20 := same_new (o := .lst ([.ref r6, .ref r9, .ref r14] ++ [.ref r16, .ref r17, .ref r18])) n20
    have h20 := OwnF.new (o := .lst ([.ref r6, .ref r9, .ref r14] ++ [.ref r16, .ref r17, .ref r18])) D n20
    have D := D.same s20
    have hW := hW.tk (Same.tk s20)
    have ho := s20 _ _ ho
    have KK := KK.trans (Same.kp s20)
    have hall := fun x hx => (hall x hx).kp (Same.kp (d := d) (c := d) s20)
    have hak := s20 _ _ hak
    have y6 := y6.kp (Same.kp s20)
    have y9 := y9.kp (Same.kp s20)
    have y14 := y14.kp (Same.kp s20)
    have h15 := h15.kp (Same.kp s20)
    have y16 := y16.kp (Same.kp s20)
    have y17 := y17.kp (Same.kp s20)
    have y18 := y18.kp (Same.kp s20)
    have h19 := h19.kp (Same.kp s20)
    generalize upd G19 r20 (.lst ([.ref r6, .ref r9, .ref r14] ++ [.ref r16, .ref r17, .ref r18])) = G20 at D hW ho KK hall hak y6 y9 y14 h15 y16 y17 y18 h19 h20 s20 ⊢
    refine ⟨.ref d, rfl, d, 6, rfl, D, by decide, by decide, fun v21 G21 a21 b21 D21 kq21 => ?_⟩
    have hW := hW.tk (D.tk kq21)
    have ho := (D.tk kq21) _ _ ho
    have KK := KK.trans kq21
    have hall := fun x hx => (hall x hx).kp kq21
    have hak := (D.tk kq21) _ _ hak
    have y6 := y6.kp kq21
    have y9 := y9.kp kq21
    have y14 := y14.kp kq21
    have h15 := h15.kp kq21
    have y16 := y16.kp kq21
    have y17 := y17.kp kq21
    have y18 := y18.kp kq21
    have h19 := h19.kp kq21
    have h20 := h20.kp kq21
    have D := D21
    obtain ⟨z, ez, hz⟩ := pickV (R := fun x => K2 d G21 x) a21 (xs := [.ref r6, .ref r9, .ref r14, .ref r16, .ref r17, .ref r18]) b21 (fm y6 (fm y9 (fm y14 (fm y16 (fm y17 (fm y18 fm_nil))))))
    exact ⟨r20, _, v21, z, rfl, rfl, SqL.of h20.2, ez, q z _ hz D KK⟩
end
/-! ### the law of k51 -/
theorem perm_of_mem : ∀ {ds zs : List Int}, ds.Nodup → zs.Nodup → (∀ x, x ∈ ds ↔ x ∈ zs) → zs.Perm ds
  | [], zs, _, _, m => by
    cases zs with
    | nil => exact .refl _
    | cons z zs => exact absurd ((m z).mpr List.mem_cons_self) List.not_mem_nil
  | d :: ds, zs, n1, n2, m => by
    have h1 := (m d).mp List.mem_cons_self
    refine (List.perm_cons_erase h1).trans (List.Perm.cons d (perm_of_mem (List.nodup_cons.mp n1).2 (n2.erase _) fun x => ?_))
    rw [List.Nodup.mem_erase_iff n2, ← m x, List.mem_cons]
    constructor
    · intro hx
      exact ⟨fun z => (List.nodup_cons.mp n1).1 (z ▸ hx), .inr hx⟩
    · rintro ⟨h1, h2⟩
      exact h2.resolve_left h1
theorem judg_true {H : Hp} {o : Addr} {us : List V} {rs : List (List Int)} {es : List (Int × Int)} {ts : List Tie} (od : Ord rs es) (tw : TwE ts es) (ho : H o = some (.tup us)) (hp : Paired (IntsV H) us rs) : judgB H rs.length ts (.ref o) = true := by
  have lu : us.length = rs.length := Paired.length hp
  unfold judgB
  rw [parts_of' ho]
  show (decide (us.length = rs.length) && _) = true
  rw [decide_eq_true lu, Bool.true_and, List.all_eq_true]
  intro p hp'
  have hp' := List.mem_range.mp hp'
  have ex : us[p]? = some (us[p]'(by omega)) := List.getElem?_eq_getElem _
  rw [List.getD_eq_getElem?_getD, ex]
  show rowB H _ (us[p]'(by omega)) = true
  obtain ⟨row, er, a, ea, ha⟩ := Paired.at hp ex
  rw [ea, rowB_iff (dueN_sorted ts p ts.length)]
  have sd := dueN_sorted ts (p : Int) ts.length
  refine ⟨row, parts_of' ha, perm_of_mem (sd.imp fun {a b} h => by omega) (od.nd row (List.mem_of_getElem? er)) fun x => ?_⟩
  rw [dueN_mem, od.mem p row er x]
  constructor
  · rintro ⟨h0, h1, h2⟩
    obtain ⟨k, rfl⟩ : ∃ k : Nat, x = (k : Int) := ⟨x.toNat, by omega⟩
    have et : ts[k]? = some (ts[k]'(by omega)) := List.getElem?_eq_getElem _
    have ee : es[k]? = some (es[k]'(by have := tw.1; omega)) := List.getElem?_eq_getElem _
    have e : tieAt ts (k : Nat) = ts[k]'(by omega) := by
      unfold tieAt
      rw [Int.toNat_natCast, List.getD_eq_getElem?_getD, et]
      rfl
    rw [e] at h2
    unfold isEnd at h2
    rw [Bool.or_eq_true, decide_eq_true_iff, decide_eq_true_iff] at h2
    refine ⟨k, _, rfl, ee, ?_⟩
    rcases tw.2 k _ _ et ee with ⟨h3, h4⟩ | ⟨h3, h4⟩
    · rw [← h3, ← h4]
      exact h2
    · rw [← h3, ← h4]
      exact h2.symm
  · rintro ⟨k, e, rfl, ee, h2⟩
    have kl := (List.getElem?_eq_some_iff.mp ee).1
    have et : ts[k]? = some (ts[k]'(by have := tw.1; omega)) := List.getElem?_eq_getElem _
    have et2 : tieAt ts (k : Nat) = ts[k]'(by have := tw.1; omega) := by
      unfold tieAt
      rw [Int.toNat_natCast, List.getD_eq_getElem?_getD, et]
      rfl
    refine ⟨by omega, by have := tw.1; omega, ?_⟩
    rw [et2]
    unfold isEnd
    rw [Bool.or_eq_true, decide_eq_true_iff, decide_eq_true_iff]
    rcases tw.2 k _ _ et ee with ⟨h3, h4⟩ | ⟨h3, h4⟩
    · rw [h3, h4]
      exact h2
    · rw [h3, h4]
      exact h2.symm
theorem webF_of {rs : List (List Int)} {es : List (Int × Int)} {ts : List Tie} (od : Ord rs es) (tw : TwE ts es) (l1 : 1 ≤ rs.length) (l50 : rs.length ≤ 50) (le : es.length ≤ 100) : WebF (rs.length : Nat) ts := ⟨by omega, by omega, by have := tw.1; omega, fun t ht => by
  obtain ⟨k, et⟩ := List.getElem?_of_mem ht
  have kl := (List.getElem?_eq_some_iff.mp et).1
  have ee : es[k]? = some (es[k]'(by have := tw.1; omega)) := List.getElem?_eq_getElem _
  have h := od.ends _ (List.mem_of_getElem? ee)
  obtain ⟨⟨a0, a1⟩, ⟨b0, b1⟩, ne⟩ := h
  rcases tw.2 k _ _ et ee with ⟨h3, h4⟩ | ⟨h3, h4⟩
  · exact ⟨by omega, by omega, by omega, by omega, by rw [h3, h4]; exact ne⟩
  · exact ⟨by omega, by omega, by omega, by omega, by rw [h3, h4]; exact Ne.symm ne⟩⟩
def spRight51 (Ps : List Addr) : Sp := fun vs H Q _ => ∃ (wv v : V) (n : Nat) (ts : List Tie), vs = [wv, v] ∧ WebAt H wv n ts ∧ WebF n ts ∧ Thing51 H v ∧ Tabs Ps H ∧ ∀ H', Kt Ps H H' → Q (.bl true) H'
def spLaw (K : PySem.W.Frag) (Ps : List Addr) : Sp := fun vs H Q _ => ∃ (a : Addr) (ns : List Int), vs = [.ref a] ∧ SqL K H a (ns.map V.int) ∧ ns.length ≤ 63 ∧ Tabs Ps H ∧ ∀ H', Q (.bl true) H'
theorem Thing51.kt {Ps : List Addr} {H H' : Hp} {v : V} (h : Thing51 H v) (k : Kt Ps H H') (t : Tabs Ps H) : Thing51 H' v ∧ ∀ n ts, judgB H' n ts v = judgB H n ts v := by
  have hp := kt_parts k t h.1.1
  refine ⟨⟨⟨k.kn t h.1.1, fun xs e x hx => ?_⟩, fun xs e => ?_⟩, fun n ts => ?_⟩
  · rw [hp] at e
    exact (h.1.2 xs e x hx).kt k t
  · rw [hp] at e
    exact h.2 xs e
  · unfold judgB
    rw [hp]
    cases e : parts H v with
    | none => rfl
    | some xs =>
      show (decide (xs.length = n) && _) = (decide (xs.length = n) && _)
      by_cases hl : ¬ xs.length = n
      · rw [decide_eq_false hl]
        rfl
      have hl := Classical.not_not.mp hl
      rw [decide_eq_true hl, Bool.true_and, Bool.true_and, Bool.eq_iff_iff, List.all_eq_true, List.all_eq_true]
      have each : ∀ p ∈ List.range n, rowB H' (dueN ts (p : Int) ts.length) (xs.getD p .non) = rowB H (dueN ts (p : Int) ts.length) (xs.getD p .non) := fun p hp2 => by
        have hp2 := List.mem_range.mp hp2
        have ex : xs[p]? = some (xs[p]'(by omega)) := List.getElem?_eq_getElem _
        rw [List.getD_eq_getElem?_getD, ex]
        show rowB H' _ (xs[p]'(by omega)) = rowB H _ (xs[p]'(by omega))
        unfold rowB
        rw [kt_parts k t (h.1.2 xs e _ (List.mem_of_getElem? ex)).1]
      constructor
      · intro a p hp2
        rw [← each p hp2]
        exact a p hp2
      · intro a p hp2
        rw [each p hp2]
        exact a p hp2
section
variable {P : Program} {w : World} {K : PySem.W.Frag} {mg : Str → Option Value} {base : Heap}
set_option maxHeartbeats 4000000 in
theorem ok_l_right {f : Addr} {fd : FuncData} {Ps : List Addr} (F : Fun K "_law_right" "_law_right" s_l_right f fd) (M : Free mg) (D_l_judged : Df P w K mg base 1 "_law_judged" ["_law_web_here", "_law_thing"] spJudged) (D_is_orders : Df P w K mg base 6 "is_orders" ["web", "thing"] (spIsOrders Ps)) : FnOk P w K mg base CX0 7 f fd ["_law_web_here", "_law_thing"] (spRight51 Ps) := by
  obtain ⟨f_l_judged, fd_l_judged, G_l_judged, g_l_judged, k_l_judged, b_l_judged⟩ := D_l_judged
  obtain ⟨f_is_orders, fd_is_orders, G_is_orders, g_is_orders, k_is_orders, b_is_orders⟩ := D_is_orders
  refine F.ok sc_l_right (fun vs H Q E h => ?_) (fun cdv A outer s H vs Q E hr h => ?_)
  · obtain ⟨wv, v, n, ts, rfl, _⟩ := h
    rfl
  · obtain ⟨wv, v, n, ts, rfl, hW, ok, ht, hT, q⟩ := h
    refine ⟨_, (pss_cons (ps_set (i := 2) sc_l_right.nd rfl (.inl rfl) (pe_call G_l_judged (hr.mono (by decide)) (by rfl) g_l_judged k_l_judged b_l_judged .nil pass0 (pa_cons (pv 0) (pa_cons (pv 1) pa_nil))))
      (pss_cons (ps_for PassesOwn.never rfl (pi_range1 (by rfl) M.range (pa_cons pe_int pa_nil)) (pg_name (i := 3) sc_l_right.nd rfl (.inl rfl))
        (pss_cons (ps_set (i := 4) sc_l_right.nd rfl (.inl rfl) (pe_call G_is_orders (hr.mono (by decide)) (by rfl) g_is_orders k_is_orders b_is_orders .nil pass0 (pa_cons (pv 0) (pa_cons (pv 1) pa_nil))))
        (pss_one (ps_if (PW.pt (pw_or (pt_not (pt_val (pe_callB call_isi (by rfl) M.isinstance (by decide +kernel) (pa_cons (pv 4) (pa_cons (pe_bltn (v := .ty "bool") (by rfl) M.bool (by decide +kernel) rfl) pa_nil))))) (pw_or1 (pt_cmpR op_ne (pv 4) (pv 2) (nomark _)))))
          (pss_one (ps_ret pe_bl))
          pss_nil))))
      (pss_one (ps_ret pe_bl)))), ?_⟩
    refine ⟨wv, rfl, v, rfl, wv, v, n, ts, rfl, hW, ok, ht, fun H1 s1 => ?_⟩
    have k1 := Kt.same hT s1
    refine ⟨2, rfl, by decide, by decide, ?_⟩
    refine for_range (lo := 0) (n := 2) (fun i σ' H' => ∃ y3 y4 : Option V, σ' = [some wv, some v, some (.bl (judgB H n ts v)), y3, y4] ∧ Kt Ps H H') ⟨_, _, rfl, k1⟩ ?_ ?_
    · rintro i σ' H2 hi ⟨y3, y4, rfl, k2⟩
      obtain ⟨ht2, ej⟩ := ht.kt k2 hT
      refine ⟨wv, rfl, v, rfl, wv, v, n, ts, rfl, hW.tk (k2.tk hT), ok, ht2, k2.tab, fun H3 k3 => ?_⟩
      rw [ej]
      obtain ⟨t2, h2, e2⟩ := kn_bool (K := K) (H := H3) (v := .bl (judgB H n ts v)) trivial
      refine ⟨_, rfl, _, _, t2, _, _, rfl, .ty "bool", h2, e2, _, rfl, _, rfl, _, rfl, rfl, _, rfl, ?_⟩
      rw [decide_eq_true rfl]
      exact ⟨_, _, rfl, k2.trans k3⟩
    · rintro σ' H2 ⟨y3, y4, rfl, k2⟩
      exact q _ k2
set_option maxHeartbeats 8000000 in
theorem ok_law {f : Addr} {fd : FuncData} {Ps : List Addr} (F : Fun K "law" "law" s_law f fd) (M : Free mg) (D_l_deck : Df P w K mg base 2 "_law_deck" ["_law_script"] (spDeckF K)) (D_l_take : Df P w K mg base 2 "_law_take" ["_law_deck_here", "_law_most"] spTake) (D_l_grown : Df P w K mg base 3 "_law_grown" ["_law_deck_here", "_law_most", "_law_many_ties"] spGrown) (D_l_web : Df P w K mg base 3 "_law_web" ["_law_deck_here", "_law_ties", "_law_places"] spWebF) (D_l_mingled : Df P w K mg base 3 "_law_mingled" ["_law_deck_here", "_law_orders"] spMingled) (D_l_turned : Df P w K mg base 3 "_law_turned" ["_law_deck_here", "_law_orders"] spTurned) (D_is_orders : Df P w K mg base 6 "is_orders" ["web", "thing"] (spIsOrders Ps)) (D_l_bent : Df P w K mg base 4 "_law_bent" ["_law_deck_here", "_law_web_here", "_law_orders"] spBent) (D_l_right : Df P w K mg base 7 "_law_right" ["_law_web_here", "_law_thing"] (spRight51 Ps)) : FnOk P w K mg base CX0 8 f fd ["_law_script"] (spLaw K Ps) := by
  obtain ⟨f_l_deck, fd_l_deck, G_l_deck, g_l_deck, k_l_deck, b_l_deck⟩ := D_l_deck
  obtain ⟨f_l_take, fd_l_take, G_l_take, g_l_take, k_l_take, b_l_take⟩ := D_l_take
  obtain ⟨f_l_grown, fd_l_grown, G_l_grown, g_l_grown, k_l_grown, b_l_grown⟩ := D_l_grown
  obtain ⟨f_l_web, fd_l_web, G_l_web, g_l_web, k_l_web, b_l_web⟩ := D_l_web
  obtain ⟨f_l_mingled, fd_l_mingled, G_l_mingled, g_l_mingled, k_l_mingled, b_l_mingled⟩ := D_l_mingled
  obtain ⟨f_l_turned, fd_l_turned, G_l_turned, g_l_turned, k_l_turned, b_l_turned⟩ := D_l_turned
  obtain ⟨f_is_orders, fd_is_orders, G_is_orders, g_is_orders, k_is_orders, b_is_orders⟩ := D_is_orders
  obtain ⟨f_l_bent, fd_l_bent, G_l_bent, g_l_bent, k_l_bent, b_l_bent⟩ := D_l_bent
  obtain ⟨f_l_right, fd_l_right, G_l_right, g_l_right, k_l_right, b_l_right⟩ := D_l_right
  refine F.ok sc_law (fun vs H Q E h => ?_) (fun cdv A outer s H vs Q E hr h => ?_)
  · obtain ⟨sc, ns, rfl, _⟩ := h
    rfl
  · obtain ⟨sc, ns, rfl, hS, few63, hT, q⟩ := h
    refine ⟨_, (pss_cons (ps_set (i := 1) sc_law.nd rfl (.inl rfl) (pe_call G_l_deck (hr.mono (by decide)) (by rfl) g_l_deck k_l_deck b_l_deck .nil pass0 (pa_cons (pv 0) pa_nil)))
      (pss_cons (ps_set (i := 2) sc_law.nd rfl (.inl rfl) (pe_callTy call_int1 (by rfl) M.int (by decide +kernel) (pa_cons (pe_cmpR op_eq (pe_call G_l_take (hr.mono (by decide)) (by rfl) g_l_take k_l_take b_l_take .nil pass0 (pa_cons (pv 1) (pa_cons pe_int pa_nil))) pe_int (nomark _)) pa_nil)))
      (pss_cons (ps_set (i := 3) sc_law.nd rfl (.inl rfl) (pe_ix ix_list (pe_lst (pa_cons (pe_op op_add pe_int (pe_call G_l_take (hr.mono (by decide)) (by rfl) g_l_take k_l_take b_l_take .nil pass0 (pa_cons (pv 1) (pa_cons pe_int pa_nil)))) (pa_cons (pe_op op_add pe_int (pe_call G_l_take (hr.mono (by decide)) (by rfl) g_l_take k_l_take b_l_take .nil pass0 (pa_cons (pv 1) (pa_cons pe_int pa_nil)))) pa_nil))) (pv 2) (fun _ _ => rfl)))
      (pss_cons (ps_asg (pe_call G_l_grown (hr.mono (by decide)) (by rfl) g_l_grown k_l_grown b_l_grown .nil pass0 (pa_cons (pv 1) (pa_cons (pv 3) (pa_cons (pe_ix ix_list (pe_lst (pa_cons (pe_call G_l_take (hr.mono (by decide)) (by rfl) g_l_take k_l_take b_l_take .nil pass0 (pa_cons (pv 1) (pa_cons pe_int pa_nil))) (pa_cons (pe_op op_add pe_int (pe_call G_l_take (hr.mono (by decide)) (by rfl) g_l_take k_l_take b_l_take .nil pass0 (pa_cons (pv 1) (pa_cons pe_int pa_nil)))) pa_nil))) (pv 2) (fun _ _ => rfl)) pa_nil)))) (pg_tup rfl (pgs_cons (pg_name (i := 4) sc_law.nd rfl (.inl rfl)) (pgs_cons (pg_name (i := 5) sc_law.nd rfl (.inl rfl)) pgs_nil))))
      (pss_cons (ps_set (i := 6) sc_law.nd rfl (.inl rfl) (pe_call G_l_web (hr.mono (by decide)) (by rfl) g_l_web k_l_web b_l_web .nil pass0 (pa_cons (pv 1) (pa_cons (pv 4) (pa_cons (pe_callB call_len_seq (by rfl) M.len PySem.boot_len (pa_cons (pv 5) pa_nil)) pa_nil)))))
      (pss_cons (ps_set (i := 5) sc_law.nd rfl (.inl rfl) (pe_ix ix_list (pe_lst (pa_cons (pe_call G_l_turned (hr.mono (by decide)) (by rfl) g_l_turned k_l_turned b_l_turned .nil pass0 (pa_cons (pv 1) (pa_cons (pv 5) pa_nil))) (pa_cons (pe_call G_l_mingled (hr.mono (by decide)) (by rfl) g_l_mingled k_l_mingled b_l_mingled .nil pass0 (pa_cons (pv 1) (pa_cons (pv 5) pa_nil))) pa_nil))) (pe_call G_l_take (hr.mono (by decide)) (by rfl) g_l_take k_l_take b_l_take .nil pass0 (pa_cons (pv 1) (pa_cons pe_int pa_nil))) (fun _ _ => rfl)))
      (pss_cons (ps_if (pt_cmpR op_isnot_bl (pe_call G_is_orders (hr.mono (by decide)) (by rfl) g_is_orders k_is_orders b_is_orders .nil pass0 (pa_cons (pv 6) (pa_cons (pv 5) pa_nil))) pe_bl (nomark _))
        (pss_one (ps_ret pe_bl))
        pss_nil)
      (pss_cons (ps_for PassesOwn.never rfl (pi_range1 (by rfl) M.range (pa_cons pe_int pa_nil)) (pg_name (i := 7) sc_law.nd rfl (.inl rfl))
        (pss_one (ps_if (pt_not (pt_val (pe_call G_l_right (hr.mono (by decide)) (by rfl) g_l_right k_l_right b_l_right .nil pass0 (pa_cons (pv 6) (pa_cons (pe_call G_l_bent (hr.mono (by decide)) (by rfl) g_l_bent k_l_bent b_l_bent .nil pass0 (pa_cons (pv 1) (pa_cons (pv 6) (pa_cons (pv 5) pa_nil)))) pa_nil)))))
          (pss_one (ps_ret pe_bl))
          pss_nil)))
      (pss_cons (ps_for PassesOwn.never rfl (pi_list (pe_lst (pa_cons pe_non (pa_cons pe_bl (pa_cons pe_int (pa_cons pe_str (pa_cons (pe_tup pa_nil) (pa_cons (pe_lst pa_nil) (pa_cons pe_dnewK (pa_cons (pe_tup (pa_cons (pe_tup pa_nil) pa_nil)) (pa_cons (pe_tup (pa_cons (pe_tup (pa_cons (pe_tup pa_nil) pa_nil)) pa_nil)) (pa_cons (pe_op op_catU (pv 5) (pv 5)) (pa_cons (pe_tup (pa_cons pe_int pa_nil)) (pa_cons (pe_tup (pa_cons pe_str pa_nil)) pa_nil)))))))))))))) (pg_name (i := 8) sc_law.nd rfl (.inl rfl))
        (pss_one (ps_if (pt_not (pt_val (pe_call G_l_right (hr.mono (by decide)) (by rfl) g_l_right k_l_right b_l_right .nil pass0 (pa_cons (pv 6) (pa_cons (pv 8) pa_nil)))))
          (pss_one (ps_ret pe_bl))
          pss_nil)))
      (pss_one (ps_ret pe_bl))))))))))), ?_⟩
    refine ⟨.ref sc, rfl, sc, ns, rfl, hS, few63, fun d H1 s1 nd D1 => ?_⟩
    have hT1 : Tabs Ps H1 := (Kt.same hT s1).tab
    clear hS hT s1
    have tabsK : ∀ {H H' : Hp}, Tabs Ps H → FDk H d → Kp d d H H' → Tabs Ps H' := fun t D k P hP => by
      obtain ⟨ps, e, t2⟩ := t P hP
      obtain ⟨ns, e2, _⟩ := D
      have ne : P ≠ d := fun z => by rw [z, e2] at e; cases e
      exact ⟨ps, k _ _ ne ne e, t2⟩
    refine ⟨.ref d, rfl, d, 8, rfl, D1, by decide, by decide, fun v H3 v0 v1 D3 K3 => ⟨rfl, .inr ⟨_, rfl, ?_⟩⟩⟩
    have hT3 := tabsK hT1 D1 K3
    clear hT1 K3 D1
    generalize decide (V.int v = V.int 5) = gr
    refine ⟨.ref d, rfl, d, 9, rfl, D3, by decide, by decide, fun a H4 a0 a1 D4 K4 => ⟨_, _, rfl, rfl, .ref d, rfl, d, 31, rfl, D4, by decide, by decide, fun b H5 b0 b1 D5 K5 => ⟨_, _, rfl, rfl, by show 2 ≤ sizeLine; decide, fun p np => ?_⟩⟩⟩
    have hT5 := tabsK (tabsK hT3 D3 K4) D4 K5
    obtain ⟨m, em, m0, m1⟩ : ∃ m : Int, (if gr = true then V.int (10 + b) else V.int (1 + a)) = V.int m ∧ 1 ≤ m ∧ m ≤ 50 := by
      cases gr
      · exact ⟨1 + a, rfl, by omega, by omega⟩
      · exact ⟨10 + b, rfl, by omega, by omega⟩
    refine ⟨.int (if gr = true then 1 else 0), rfl, p, _, _, .int m, rfl, rfl, SqL.of upd_same, (by rw [← em]; cases gr <;> rfl), ?_⟩
    have s6 := same_new (o := .lst [.int (1 + a), .int (10 + b)]) np
    have D6 := D5.same s6
    have hT6 : Tabs Ps _ := (Kt.same hT5 s6).tab
    generalize upd H5 p (.lst [.int (1 + a), .int (10 + b)]) = H6 at D6 hT6
    clear D3 hT3 D4 K4 D5 K5 np hT5 s6
    refine ⟨.ref d, rfl, .int m, rfl, .ref d, rfl, d, 16, rfl, D6, by decide, by decide, fun a' H7 a0' a1' D7 K7 => ⟨.ref d, rfl, d, 31, rfl, D7, by decide, by decide, fun b' H8 b0' b1' D8 K8 => ⟨_, _, rfl, rfl, by show 2 ≤ sizeLine; decide, fun p' np' => ?_⟩⟩⟩
    have hT8 := tabsK (tabsK hT6 D6 K7) D7 K8
    obtain ⟨y, ey, z0, z1⟩ : ∃ y : Int, (if gr = true then V.int (20 + b') else V.int a') = V.int y ∧ 0 ≤ y ∧ y ≤ 100 := by
      cases gr
      · exact ⟨a', rfl, by omega, by omega⟩
      · exact ⟨20 + b', rfl, by omega, by omega⟩
    have s9 := same_new (o := .lst [.int a', .int (20 + b')]) np'
    have D9 := D8.same s9
    have hT9 : Tabs Ps _ := (Kt.same hT8 s9).tab
    refine ⟨.int (if gr = true then 1 else 0), rfl, p', _, _, .int y, rfl, rfl, SqL.of upd_same, (by rw [← ey]; cases gr <;> rfl), d, m, y, rfl, D9, m0, m1, z0, z1, fun r T O us es A rs H10 hr g od r1 r50 le => ?_⟩
    generalize upd H8 p' (.lst [.int a', .int (20 + b')]) = H9 at D9 g hT9
    clear D6 hT6 D7 K7 D8 K8 np' hT8 s9
    refine ⟨r, _, rfl, SqT.of hr, rfl, _, _, rfl, _, _, rfl, rfl, ?_⟩
    have lA := g.rw'.len
    refine ⟨.ref d, rfl, .ref T, rfl, .ref O, rfl, O, _, rfl, .inl (SqL.of g.hO), H9, d, T, O, us, es, A, rs, _, rfl, g, by omega, fun wv ts H12 hW tw g12 K12 => ?_⟩
    rw [List.length_map, lA] at hW
    refine ⟨.ref d, rfl, .ref O, rfl, H9, d, T, O, us, es, A, rs, rfl, g12, od, by omega, by omega, fun o1 vs1 rs1 H13 ho1 hp1 od1 l1 g13 K13 => ?_⟩
    refine ⟨.ref d, rfl, .ref O, rfl, H9, d, T, O, us, es, A, rs, rfl, g13, od, by omega, by omega, fun o2 vs2 rs2 H14 ho2 hp2 od2 l2 g14 K14 => ?_⟩
    have tk13 := g12.dk.tk K13
    have tk14 := g13.dk.tk K14
    have hW14 := (hW.tk tk13).tk tk14
    have ho1 := tk14 _ _ ho1
    have hp1 : Paired (IntsV H14) vs1 rs1 := Paired.mono (fun _ _ x => x.tk tk14) hp1
    have hT14 := tabsK hT9 D9 g14.kp
    have D14 := g14.dk
    clear g g12 g13 g14 hr K12 K13 K14 hW hT9 D9
    refine ⟨by show 2 ≤ sizeLine; decide, fun p2 np2 => ?_⟩
    have o15 := OwnF.new (o := .lst [.ref o1, .ref o2]) D14 np2
    have s15 := same_new (o := .lst [.ref o1, .ref o2]) np2
    have D15 := D14.same s15
    have hW15 := hW14.tk (Same.tk s15)
    have ho1 := s15 _ _ ho1
    have ho2 := s15 _ _ ho2
    have hp1 : Paired (IntsV (upd H14 p2 (.lst [.ref o1, .ref o2]))) vs1 rs1 := Paired.mono (fun _ _ x => x.tk (Same.tk s15)) hp1
    have hp2 : Paired (IntsV (upd H14 p2 (.lst [.ref o1, .ref o2]))) vs2 rs2 := Paired.mono (fun _ _ x => x.tk (Same.tk s15)) hp2
    have hT15 : Tabs Ps _ := (Kt.same hT14 s15).tab
    generalize upd H14 p2 (.lst [.ref o1, .ref o2]) = H15 at o15 D15 hW15 ho1 ho2 hp1 hp2 hT15
    clear hT14 D14 hW14 s15
    refine ⟨.ref d, rfl, d, 2, rfl, D15, by decide, by decide, fun w H16 w0 w1 D16 K16 => ?_⟩
    have o16 := o15.kp K16
    have tk16 := D15.tk K16
    have hW16 := hW15.tk tk16
    have hT16 := tabsK hT15 D15 K16
    obtain ⟨o, vs, rs', eo, ho, hp, od', l'⟩ : ∃ (o : Addr) (vs : List V) (rs' : List (List Int)), atI [V.ref o1, .ref o2] w = some (.ref o) ∧ H16 o = some (.tup vs) ∧ Paired (IntsV H16) vs rs' ∧ Ord rs' es ∧ rs'.length = rs.length := by
      have h01 : w = 0 ∨ w = 1 := by omega
      rcases h01 with z | z <;> subst z
      · exact ⟨o1, vs1, rs1, rfl, tk16 _ _ ho1, Paired.mono (fun _ _ x => x.tk tk16) hp1, od1, l1⟩
      · exact ⟨o2, vs2, rs2, rfl, tk16 _ _ ho2, Paired.mono (fun _ _ x => x.tk tk16) hp2, od2, l2⟩
    refine ⟨p2, _, w, .ref o, rfl, rfl, SqL.of o16.2, eo, ?_⟩
    rw [← l'] at r1 r50 hW16
    clear ho1 ho2 hp1 hp2 o15 D15 hW15 hT15 K16 od1 od2 tk16
    have lvs : vs.length = rs'.length := Paired.length hp
    have lrow : ∀ row ∈ rs', row.length ≤ 200 := fun row hr => by have := od'.row_len hr; omega
    have wf := webF_of od' tw r1 r50 le
    have hall : ∀ {H : Hp}, FDk H d → Paired (IntsV H) vs rs' → ∀ x ∈ vs, K1 d H x := fun D hp x hx => by
      obtain ⟨i, ei⟩ := List.getElem?_of_mem hx
      obtain ⟨row, er, a, rfl, ha⟩ := Paired.at hp ei
      exact (OwnF.tup D ha).k1 (by rw [List.length_map]; have := lrow row (List.mem_of_getElem? er); omega) (k0_ints _)
    have ko : K2 d H16 (.ref o) := (OwnF.tup D16 ho).k2 (by omega) (hall D16 hp)
    refine ⟨wv, rfl, .ref o, rfl, wv, .ref o, rs'.length, ts, rfl, hW16, wf, ko.thing, hT16, fun H17 k17 => ?_⟩
    rw [judg_true od' tw ho hp]
    refine ⟨_, _, rfl, rfl, _, rfl, ?_⟩
    have fdk : ∀ {H H' : Hp}, FDk H d → Tabs Ps H → Kt Ps H H' → FDk H' d := fun D t k => by
      obtain ⟨ns, h1, h2⟩ := D
      exact ⟨ns, k.lst t h1, h2⟩
    have D17 := fdk D16 hT16 k17
    have hT17 : Tabs Ps H17 := k17.tab
    have tk17 := k17.tk hT16
    have hW17 := hW16.tk tk17
    have ho17 := tk17 _ _ ho
    have hp17 : Paired (IntsV H17) vs rs' := Paired.mono (fun _ _ x => x.tk tk17) hp
    clear D16 hT16 k17 tk17 hW16 ho hp ko o16
    refine ⟨20, rfl, by decide, by decide, ?_⟩
    refine for_range (lo := 0) (n := 20) (fun i σ' H' => ∃ y7 y8 : Option V, σ' = [some (.ref sc), some (.ref d), some (.int (if gr = true then 1 else 0)), some (.int m), some (.ref T), some (.ref o), some wv, y7, y8] ∧ FDk H' d ∧ Tabs Ps H' ∧ WebAt H' wv (rs'.length : Nat) ts ∧ H' o = some (.tup vs) ∧ Paired (IntsV H') vs rs') ⟨_, _, rfl, D17, hT17, hW17, ho17, hp17⟩ ?_ ?_
    · clear D17 hT17 hW17 ho17 hp17
      rintro i σ' H2 hi ⟨y7, y8, rfl, D, hT, hW, ho, hp⟩
      refine ⟨wv, rfl, .ref d, rfl, wv, rfl, .ref o, rfl, d, o, wv, _, ts, vs, rs', rfl, D, hW, ho, hp, lrow, by omega, by omega, fun z H3 hz D3 K3 => ?_⟩
      have tk3 := D.tk K3
      have hT3 := tabsK hT D K3
      have hW3 := hW.tk tk3
      refine ⟨wv, z, rs'.length, ts, rfl, hW3, wf, hz.thing, hT3, fun H4 k4 => ⟨_, rfl, ?_⟩⟩
      have tk4 := k4.tk hT3
      exact ⟨_, _, rfl, fdk D3 hT3 k4, k4.tab, hW3.tk tk4, tk4 _ _ (tk3 _ _ ho), Paired.mono (fun _ _ x => x.tk (tk3.trans tk4)) hp⟩
    rintro σ' G0 ⟨y7, y8, rfl, D, hT, hW, ho, hp⟩
    clear D17 hT17 hW17 ho17 hp17
    have hall := hall D hp
    refine ⟨Nat.zero_le _, fun r1 n1 => ?_⟩
    have s1 := same_new (o := .tup []) n1
    have h1 := OwnF.new (o := .tup []) D n1
    have D := D.same s1
    have hT := (Kt.same hT s1).tab
    have hW := hW.tk (Same.tk s1)
    have ho := s1 _ _ ho
    have hall := fun x hx => (hall x hx).kp (Same.kp (d := d) (c := d) s1)
    generalize upd G0 r1 (.tup []) = G1 at D hT hW ho hall h1 s1 ⊢
    have y1 : K2 d G1 (.ref r1) := h1.k2 (Nat.zero_le _) fm_nil
    refine ⟨Nat.zero_le _, fun r2 n2 => ?_⟩
    have s2 := same_new (o := .lst []) n2
    have h2 := OwnF.new (o := .lst []) D n2
    have D := D.same s2
    have hT := (Kt.same hT s2).tab
    have hW := hW.tk (Same.tk s2)
    have ho := s2 _ _ ho
    have hall := fun x hx => (hall x hx).kp (Same.kp (d := d) (c := d) s2)
    have y1 := y1.kp (Same.kp s2)
    generalize upd G1 r2 (.lst []) = G2 at D hT hW ho hall y1 h2 s2 ⊢
    have y2 : K2 d G2 (.ref r2) := h2.k2L
    refine fun r3 n3 => ?_
    have s3 := same_new (o := .dK []) n3
    have h3 := OwnF.new (o := .dK []) D n3
    have D := D.same s3
    have hT := (Kt.same hT s3).tab
    have hW := hW.tk (Same.tk s3)
    have ho := s3 _ _ ho
    have hall := fun x hx => (hall x hx).kp (Same.kp (d := d) (c := d) s3)
    have y1 := y1.kp (Same.kp s3)
    have y2 := y2.kp (Same.kp s3)
    generalize upd G2 r3 (.dK []) = G3 at D hT hW ho hall y1 y2 h3 s3 ⊢
    have y3 : K2 d G3 (.ref r3) := h3.k2D
    refine ⟨Nat.zero_le _, fun r4 n4 => ?_⟩
    have s4 := same_new (o := .tup []) n4
    have h4 := OwnF.new (o := .tup []) D n4
    have D := D.same s4
    have hT := (Kt.same hT s4).tab
    have hW := hW.tk (Same.tk s4)
    have ho := s4 _ _ ho
    have hall := fun x hx => (hall x hx).kp (Same.kp (d := d) (c := d) s4)
    have y1 := y1.kp (Same.kp s4)
    have y2 := y2.kp (Same.kp s4)
    have y3 := y3.kp (Same.kp s4)
    generalize upd G3 r4 (.tup []) = G4 at D hT hW ho hall y1 y2 y3 h4 s4 ⊢
    have u4 : K1 d G4 (.ref r4) := h4.k1 (Nat.zero_le _) fm_nil
    refine ⟨by show 1 ≤ sizeLine; decide, fun r5 n5 => ?_⟩
    have s5 := same_new (o := .tup [.ref r4]) n5
    have h5 := OwnF.new (o := .tup [.ref r4]) D n5
    have D := D.same s5
    have hT := (Kt.same hT s5).tab
    have hW := hW.tk (Same.tk s5)
    have ho := s5 _ _ ho
    have hall := fun x hx => (hall x hx).kp (Same.kp (d := d) (c := d) s5)
    have y1 := y1.kp (Same.kp s5)
    have y2 := y2.kp (Same.kp s5)
    have y3 := y3.kp (Same.kp s5)
    have u4 := u4.kp (Same.kp s5)
    generalize upd G4 r5 (.tup [.ref r4]) = G5 at D hT hW ho hall y1 y2 y3 u4 h5 s5 ⊢
    have y5 : K2 d G5 (.ref r5) := h5.k2 (by show 1 ≤ 1000; decide) (fm u4 fm_nil)
    refine ⟨Nat.zero_le _, fun r6 n6 => ?_⟩
    have s6 := same_new (o := .tup []) n6
    have h6 := OwnF.new (o := .tup []) D n6
    have D := D.same s6
    have hT := (Kt.same hT s6).tab
    have hW := hW.tk (Same.tk s6)
    have ho := s6 _ _ ho
    have hall := fun x hx => (hall x hx).kp (Same.kp (d := d) (c := d) s6)
    have y1 := y1.kp (Same.kp s6)
    have y2 := y2.kp (Same.kp s6)
    have y3 := y3.kp (Same.kp s6)
    have u4 := u4.kp (Same.kp s6)
    have y5 := y5.kp (Same.kp s6)
    generalize upd G5 r6 (.tup []) = G6 at D hT hW ho hall y1 y2 y3 u4 y5 h6 s6 ⊢
    have u6 : K0 d G6 (.ref r6) := h6.k0
    refine ⟨by show 1 ≤ sizeLine; decide, fun r7 n7 => ?_⟩
    have s7 := same_new (o := .tup [.ref r6]) n7
    have h7 := OwnF.new (o := .tup [.ref r6]) D n7
    have D := D.same s7
    have hT := (Kt.same hT s7).tab
    have hW := hW.tk (Same.tk s7)
    have ho := s7 _ _ ho
    have hall := fun x hx => (hall x hx).kp (Same.kp (d := d) (c := d) s7)
    have y1 := y1.kp (Same.kp s7)
    have y2 := y2.kp (Same.kp s7)
    have y3 := y3.kp (Same.kp s7)
    have u4 := u4.kp (Same.kp s7)
    have y5 := y5.kp (Same.kp s7)
    have u6 := u6.kp (Same.kp s7)
    generalize upd G6 r7 (.tup [.ref r6]) = G7 at D hT hW ho hall y1 y2 y3 u4 y5 u6 h7 s7 ⊢
    have u7 : K1 d G7 (.ref r7) := h7.k1 (by show 1 ≤ 1000; decide) (fm u6 fm_nil)
    refine ⟨by show 1 ≤ sizeLine; decide, fun r8 n8 => ?_⟩
    have s8 := same_new (o := .tup [.ref r7]) n8
    have h8 := OwnF.new (o := .tup [.ref r7]) D n8
    have D := D.same s8
    have hT := (Kt.same hT s8).tab
    have hW := hW.tk (Same.tk s8)
    have ho := s8 _ _ ho
    have hall := fun x hx => (hall x hx).kp (Same.kp (d := d) (c := d) s8)
    have y1 := y1.kp (Same.kp s8)
    have y2 := y2.kp (Same.kp s8)
    have y3 := y3.kp (Same.kp s8)
    have u4 := u4.kp (Same.kp s8)
    have y5 := y5.kp (Same.kp s8)
    have u7 := u7.kp (Same.kp s8)
    generalize upd G7 r8 (.tup [.ref r7]) = G8 at D hT hW ho hall y1 y2 y3 u4 y5 u7 h8 s8 ⊢
    have y8 : K2 d G8 (.ref r8) := h8.k2 (by show 1 ≤ 1000; decide) (fm u7 fm_nil)
    refine ⟨.ref o, rfl, .ref o, rfl, o, o, _, _, rfl, rfl, ho, ho, by omega, fun r9 G9 s9 h9 => ?_⟩
    have D := D.same s9
    have hT := (Kt.same hT s9).tab
    have hW := hW.tk (Same.tk s9)
    have ho := s9 _ _ ho
    have hall := fun x hx => (hall x hx).kp (Same.kp (d := d) (c := d) s9)
    have y1 := y1.kp (Same.kp s9)
    have y2 := y2.kp (Same.kp s9)
    have y3 := y3.kp (Same.kp s9)
    have y5 := y5.kp (Same.kp s9)
    have y8 := y8.kp (Same.kp s9)
    have y9 : K2 d G9 (.ref r9) := (OwnF.tup D h9).k2 (by rw [List.length_append]; omega) (fm_app hall hall)
    refine ⟨by show 1 ≤ sizeLine; decide, fun r10 n10 => ?_⟩
    have s10 := same_new (o := .tup [.int 0]) n10
    have h10 := OwnF.new (o := .tup [.int 0]) D n10
    have D := D.same s10
    have hT := (Kt.same hT s10).tab
    have hW := hW.tk (Same.tk s10)
    have ho := s10 _ _ ho
    have hall := fun x hx => (hall x hx).kp (Same.kp (d := d) (c := d) s10)
    have y1 := y1.kp (Same.kp s10)
    have y2 := y2.kp (Same.kp s10)
    have y3 := y3.kp (Same.kp s10)
    have y5 := y5.kp (Same.kp s10)
    have y8 := y8.kp (Same.kp s10)
    have y9 := y9.kp (Same.kp s10)
    generalize upd G9 r10 (.tup [.int 0]) = G10 at D hT hW ho hall y1 y2 y3 y5 y8 y9 h10 s10 ⊢
    have y10 : K2 d G10 (.ref r10) := h10.k2 (by show 1 ≤ 1000; decide) (fm (k1_int _) fm_nil)
    refine ⟨by show 1 ≤ sizeLine; decide, fun r11 n11 => ?_⟩
    have s11 := same_new (o := .tup [.str "0"]) n11
    have h11 := OwnF.new (o := .tup [.str "0"]) D n11
    have D := D.same s11
    have hT := (Kt.same hT s11).tab
    have hW := hW.tk (Same.tk s11)
    have ho := s11 _ _ ho
    have hall := fun x hx => (hall x hx).kp (Same.kp (d := d) (c := d) s11)
    have y1 := y1.kp (Same.kp s11)
    have y2 := y2.kp (Same.kp s11)
    have y3 := y3.kp (Same.kp s11)
    have y5 := y5.kp (Same.kp s11)
    have y8 := y8.kp (Same.kp s11)
    have y9 := y9.kp (Same.kp s11)
    have y10 := y10.kp (Same.kp s11)
    generalize upd G10 r11 (.tup [.str "0"]) = G11 at D hT hW ho hall y1 y2 y3 y5 y8 y9 y10 h11 s11 ⊢
    have y11 : K2 d G11 (.ref r11) := h11.k2 (by show 1 ≤ 1000; decide) (fm (k1_str _) fm_nil)
    refine ⟨by show 12 ≤ sizeLine; decide, fun r12 n12 => ?_⟩
    have s12 := same_new (o := .lst [.non, .bl true, .int 0, .str "", .ref r1, .ref r2, .ref r3, .ref r5, .ref r8, .ref r9, .ref r10, .ref r11]) n12
    have h12 := OwnF.new (o := .lst [.non, .bl true, .int 0, .str "", .ref r1, .ref r2, .ref r3, .ref r5, .ref r8, .ref r9, .ref r10, .ref r11]) D n12
    have D := D.same s12
    have hT := (Kt.same hT s12).tab
    have hW := hW.tk (Same.tk s12)
    have ho := s12 _ _ ho
    have hall := fun x hx => (hall x hx).kp (Same.kp (d := d) (c := d) s12)
    have y1 := y1.kp (Same.kp s12)
    have y2 := y2.kp (Same.kp s12)
    have y3 := y3.kp (Same.kp s12)
    have y5 := y5.kp (Same.kp s12)
    have y8 := y8.kp (Same.kp s12)
    have y9 := y9.kp (Same.kp s12)
    have y10 := y10.kp (Same.kp s12)
    have y11 := y11.kp (Same.kp s12)
    generalize upd G11 r12 (.lst [.non, .bl true, .int 0, .str "", .ref r1, .ref r2, .ref r3, .ref r5, .ref r8, .ref r9, .ref r10, .ref r11]) = G12 at D hT hW ho hall y1 y2 y3 y5 y8 y9 y10 y11 h12 s12 ⊢
    have all : ∀ x ∈ ([.non, .bl true, .int 0, .str "", .ref r1, .ref r2, .ref r3, .ref r5, .ref r8, .ref r9, .ref r10, .ref r11] : List V), K2 d G12 x := fm k2_non (fm (k2_bl _) (fm (k2_int _) (fm (k2_str _) (fm y1 (fm y2 (fm y3 (fm y5 (fm y8 (fm y9 (fm y10 (fm y11 fm_nil)))))))))))
    generalize ([.non, .bl true, .int 0, .str "", .ref r1, .ref r2, .ref r3, .ref r5, .ref r8, .ref r9, .ref r10, .ref r11] : List V) = items at all h12
    have all : ∀ x ∈ items, Thing51 G12 x := fun x hx => (all x hx).thing
    refine ⟨r12, rfl, ⟨_, SqL.of h12.2⟩, ?_⟩
    refine for_list (xs := items) (fun i σ' H' => ∃ y8 : Option V, σ' = [some (.ref sc), some (.ref d), some (.int (if gr = true then 1 else 0)), some (.int m), some (.ref T), some (.ref o), some wv, y7, y8] ∧ Kt Ps G12 H') ⟨_, rfl, Kt.refl hT⟩ (fun i σ' H' _ h => by
      obtain ⟨_, _, k⟩ := h
      exact SqL.of (k.lst hT h12.2)) ?_ ?_
    · rintro i x σ' H2 ex ⟨y8, rfl, k⟩
      obtain ⟨ht2, _⟩ := (all x (List.mem_of_getElem? ex)).kt k hT
      refine ⟨wv, rfl, x, rfl, wv, x, rs'.length, ts, rfl, hW.tk (k.tk hT), wf, ht2, k.tab, fun H4 k4 => ⟨_, rfl, ?_⟩⟩
      exact ⟨_, rfl, k.trans k4⟩
    · rintro σ' H2 ⟨y8, rfl, k⟩
      exact q _
end
/-! ### the end of a law whose defs hold generator expressions: their tables are empty behind the top -/
theorem walk_tabs {l : PySem.W.OpenLaw} {n k : Nat} {q : Program} {loose : List Str} {XP : (Str → Option Value) → Heap → Prop} {YP : World → Heap → Prop} {d : DefRec} {K : Params → PySem.W.Frag} {x : Str}
    (hn : l.most = some n) (hn2 : n ≤ sizeLine) (hdf : d.params.defaults = []) (hr : Room k callerA) (hY : ∀ (w : World) (h : Heap), YP w h → (K w.params).In h)
    (F : ∀ (w : World) (mg : Str → Option Value) (fa : Addr) (h : Heap), (K w.params).In h → h.Ns mainGlobals mg → mg d.name = some (.ref fa) →
      (∀ (y : Str) (fy : Addr), ((recsOf q).any fun e => e.name == y) = true → mg y = some (.ref fy) → LamX.OwnTab (K w.params) fy h) → LamX.LawAtS l w (K w.params) CX0 k n x mg fa h) :
    PySem.W.WalkO q loose XP YP l.row.toRowW d [] (fun f vs => PySem.call f vs) := by
  refine Att.attach_callB hn hdf fun w s₀ s₁ mg mb fa o pm cd doc a vs ns G Y ho hd hcd hmg hobj hints hlen hbits hg => ?_
  have KX := hY w _ Y
  have tabs : ∀ (y : Str) (fy : Addr), ((recsOf q).any fun e => e.name == y) = true → mg y = some (.ref fy) → LamX.OwnTab (K w.params) fy s₁.heap := fun y fy hy hm c P o1 fd1 e dd vs1 sl k1 k2 k3 k4 k5 => by
    obtain ⟨dL, hmem, hnm⟩ := List.any_eq_true.mp hy
    have hnm : dL.name = y := beq_iff_eq.mp hnm
    obtain ⟨a', o', fd', c', P', h1, h2, h3, h4, h5, h6⟩ := G.T.tab dL hmem
    rw [hnm, hm] at h1
    cases h1
    rw [KX _ _ k1] at h2
    cases h2
    rw [k2] at h3
    cases h3
    rw [k3] at h4
    cases h4
    obtain ⟨⟨oc, vc, e1, _, e3, e4⟩, hP⟩ := h6
    rw [KX _ _ k4] at e1
    cases e1
    cases e3
    rw [k5] at e4
    cases e4
    exact hP
  obtain ⟨fd, cs, sp, hT, nT, C, hb, hsp, hF⟩ := F w mg fa _ KX G.T.g hmg tabs
  exact LamX.law_callTs KX G.T.g G.T.b G.T.builtins G.T.nolimit hg hT nT C G.T.bmain hobj hints (Nat.le_trans hlen hn2) hr hF hb (fun H hH hS => hsp H a ns hlen hbits hH hS) fun H e s' z => z
/-- where a def stands, and where its code object does -/
structure At (K : PySem.W.Frag) (x : Str) (st : Stmt) (f : Addr) : Prop where
  ns : PySem.W.nsIn K mainGlobals x = some (some (.ref f))
  ex : ∃ (oc : Value) (od : Option Addr) (kV doc pm : Value) (an : Option Addr) (cdv ct : Value) (osl : Array (Option Value)),
    K.lookup f = some ⟨oc, od, .func (PySem.W.fnOf x x (defArgs st) (defBody st) (defScope st) .none kV doc pm an cdv ct), osl⟩ ∧ PySem.W.codeIn K cdv x = true
  kp : PySem.W.keepIn K (.ref f) = true
theorem at_mk {K : PySem.W.Frag} {x : Str} {st : Stmt} {f : Addr} {oc : Value} {od an : Option Addr} {osl : Array (Option Value)} {kV doc pm cdv ct : Value} (a : PySem.W.nsIn K mainGlobals x = some (some (.ref f)))
    (l : K.lookup f = some ⟨oc, od, .func (PySem.W.fnOf x x (defArgs st) (defBody st) (defScope st) .none kV doc pm an cdv ct), osl⟩) (c : PySem.W.codeIn K cdv x = true) (k : PySem.W.keepIn K (.ref f) = true) : At K x st f := ⟨a, ⟨oc, od, kV, doc, pm, an, cdv, ct, osl, l, c⟩, k⟩
theorem At.fn {K : PySem.W.Frag} {x : Str} {st : Stmt} {f : Addr} (h : At K x st f) : ∃ fd, Fun K x x st f fd := by
  obtain ⟨oc, od, kV, doc, pm, an, cdv, ct, osl, l, c⟩ := h.ex
  exact ⟨_, fun_mk l c h.kp⟩
structure AtC (K : PySem.W.Frag) (x : Str) (st : Stmt) (f c Pt : Addr) : Prop where
  ns : PySem.W.nsIn K mainGlobals x = some (some (.ref f))
  ex : ∃ (oc : Value) (od : Option Addr) (kV doc pm : Value) (an : Option Addr) (ct : Value) (osl : Array (Option Value)),
    K.lookup f = some ⟨oc, od, .func (PySem.W.fnOf x x (defArgs st) (defBody st) (defScope st) .none kV doc pm an (.ref c) ct), osl⟩ ∧ PySem.W.codeIn K (.ref c) x = true
  kp : PySem.W.keepIn K (.ref f) = true
  co : ∃ (dd : Option Addr) (vs : Array Value) (sl : Array (Option Value)) (file : Str) (tf : Tok) (flags : Int) (tg : Tok) (inF : Bool) (text : Int) (tt : Tok), K.lookup c = some ⟨.type "code", dd, .fields vs, sl⟩ ∧ vs[11]? = some (.ref Pt) ∧ vs.getD 11 .none = .ref Pt ∧ vs.getD 18 .none = .str file tf ∧
    vs.getD 7 .none = .int flags tg ∧ vs.getD 9 .none = .bool inF ∧ vs.getD 10 .none = .int text tt ∧ c ≠ Pt
  nP : K.lookup Pt = none
theorem atC_mk {K : PySem.W.Frag} {x : Str} {st : Stmt} {f c Pt : Addr} {oc : Value} {od an dd : Option Addr} {osl sl : Array (Option Value)} {kV doc pm ct : Value} {vs : Array Value} {file : Str} {tf tg tt : Tok} {flags text : Int} {inF : Bool} (a : PySem.W.nsIn K mainGlobals x = some (some (.ref f)))
    (l : K.lookup f = some ⟨oc, od, .func (PySem.W.fnOf x x (defArgs st) (defBody st) (defScope st) .none kV doc pm an (.ref c) ct), osl⟩) (cc : PySem.W.codeIn K (.ref c) x = true) (k : PySem.W.keepIn K (.ref f) = true)
    (lc : K.lookup c = some ⟨.type "code", dd, .fields vs, sl⟩) (v11 : vs[11]? = some (.ref Pt)) (w11 : vs.getD 11 .none = .ref Pt) (v18 : vs.getD 18 .none = .str file tf) (v7 : vs.getD 7 .none = .int flags tg) (v9 : vs.getD 9 .none = .bool inF) (v10 : vs.getD 10 .none = .int text tt) (ne : c ≠ Pt)
    (nP : K.lookup Pt = none) : AtC K x st f c Pt := ⟨a, ⟨oc, od, kV, doc, pm, an, ct, osl, l, cc⟩, k, ⟨dd, vs, sl, file, tf, flags, tg, inF, text, tt, lc, v11, w11, v18, v7, v9, v10, ne⟩, nP⟩
theorem AtC.fn {K : PySem.W.Frag} {x : Str} {st : Stmt} {f c Pt : Addr} (h : AtC K x st f c Pt) : ∃ fd, FunC K x x st f fd c := by
  obtain ⟨oc, od, kV, doc, pm, an, ct, osl, l, cc⟩ := h.ex
  exact ⟨_, ⟨oc, od, kV, doc, pm, an, ct, osl, rfl, l, cc⟩, h.kp⟩
theorem AtC.hd {K : PySem.W.Frag} {h : Heap} {x : Str} {st : Stmt} {f c Pt : Addr} (a : AtC K x st f c Pt) (X : K.In h) : PySem.W.CodeHd h c Pt := by
  obtain ⟨dd, vs, sl, file, tf, flags, tg, inF, text, tt, lc, v11, w11, v18, v7, v9, v10, ne⟩ := a.co
  exact ⟨_, vs, file, tf, flags, tg, inF, text, tt, X _ _ lc, rfl, rfl, v11, w11, v18, v7, v9, v10, ne⟩
theorem AtC.tab {K : PySem.W.Frag} {h : Heap} {x : Str} {st : Stmt} {f c Pt : Addr} (a : AtC K x st f c Pt) (o : LamX.OwnTab K f h) : h.get? Pt = some { cls := .none, data := .fields #[] } := by
  obtain ⟨oc, od, kV, doc, pm, an, ct, osl, l, cc⟩ := a.ex
  obtain ⟨dd, vs, sl, file, tf, flags, tg, inF, text, tt, lc, v11, w11, v18, v7, v9, v10, ne⟩ := a.co
  exact o c Pt _ _ _ _ _ _ l rfl rfl lc v11
section
variable {P : Program} {w : World} {K : PySem.W.Frag} {mg : Str → Option Value} {base : Heap}
theorem Df.of {x : Str} {st : Stmt} {f : Addr} {fd : FuncData} {k : Nat} {ps : List Str} {sp : Sp} (g : mg x = some (.ref f)) (F : Fun K x x st f fd) (G : FnOk P w K mg base CX0 k f fd ps sp)
    (h : ∀ (kV doc pm : Value) (an : Option Addr) (cdv ct : Value) (us : List Value), us.length = ps.length → bindArgs (PySem.W.fnOf x x (defArgs st) (defBody st) (defScope st) .none kV doc pm an cdv ct) ⟨us, []⟩ = pure (ps.zip us)) : Df P w K mg base k x ps sp :=
  ⟨f, fd, G, g, F.kp, F.binds h⟩
end
/-! ### what the top has written -/
section
variable {P : Program} {w : World} {K : PySem.W.Frag} {mg : Str → Option Value} {base : Heap}
set_option maxHeartbeats 0 in
theorem law_at {l : PySem.W.OpenLaw} {w : World} {K : PySem.W.Frag} {h : Heap} {mg : Str → Option Value} {fa f0 f1 f2 f3 f4 f5 f6 f7 f8 f9 f10 f11 f12 f13 f14 f15 f16 f17 f18 c3 P3 c5 P5 : Addr} (X : K.In h) (G : h.Ns mainGlobals mg) (hfa : mg "law" = some (.ref fa))
    (t3 : ∀ (fy : Addr), mg "are_unlike_below" = some (.ref fy) → LamX.OwnTab K fy h)
    (t5 : ∀ (fy : Addr), mg "is_orders" = some (.ref fy) → LamX.OwnTab K fy h)
    (a0 : At K "is_whole" s_is_whole f0)
    (a1 : At K "is_whole_below" s_is_whole_below f1)
    (a2 : At K "is_tuple_of" s_is_tuple_of f2)
    (a3 : AtC K "are_unlike_below" s_are_unlike_below f3 c3 P3)
    (a4 : At K "ties_at" s_ties_at f4)
    (a5 : AtC K "is_orders" s_is_orders f5 c5 P5)
    (a6 : At K "_law_mixed" s_l_mixed f6)
    (a7 : At K "_law_deck" s_l_deck f7)
    (a8 : At K "_law_take" s_l_take f8)
    (a9 : At K "_law_corners" s_l_corners f9)
    (a10 : At K "_law_grown" s_l_grown f10)
    (a11 : At K "_law_turned" s_l_turned f11)
    (a12 : At K "_law_web" s_l_web f12)
    (a13 : At K "_law_mingled" s_l_mingled f13)
    (a14 : At K "_law_judged" s_l_judged f14)
    (a15 : At K "_law_bent_order" s_l_bent_order f15)
    (a16 : At K "_law_bent" s_l_bent f16)
    (a17 : At K "_law_right" s_l_right f17)
    (a18 : At K "law" s_law f18)
    (z0 : PySem.W.nsIn K mainGlobals "len" = some none)
    (z1 : PySem.W.nsIn K mainGlobals "int" = some none)
    (z2 : PySem.W.nsIn K mainGlobals "bool" = some none)
    (z3 : PySem.W.nsIn K mainGlobals "str" = some none)
    (z4 : PySem.W.nsIn K mainGlobals "list" = some none)
    (z5 : PySem.W.nsIn K mainGlobals "tuple" = some none)
    (z6 : PySem.W.nsIn K mainGlobals "range" = some none)
    (z7 : PySem.W.nsIn K mainGlobals "isinstance" = some none)
    (z8 : PySem.W.nsIn K mainGlobals "sum" = some none)
    (z9 : PySem.W.nsIn K mainGlobals "all" = some none)
    (z10 : PySem.W.nsIn K mainGlobals "enumerate" = some none)
    (z11 : PySem.W.nsIn K mainGlobals "set" = some none)
    (z12 : PySem.W.nsIn K mainGlobals "sorted" = some none)
    (z13 : PySem.W.nsIn K mainGlobals "zip" = some none)
     :
    LamX.LawAtS l w K CX0 8 63 "_law_script" mg fa h := by
  have efa := hfa.symm.trans (PySem.W.mg_of X G a18.ns)
  cases efa
  have M : Free mg := ⟨PySem.W.mg_none_of X G z0, PySem.W.mg_none_of X G z1, PySem.W.mg_none_of X G z2, PySem.W.mg_none_of X G z3, PySem.W.mg_none_of X G z4, PySem.W.mg_none_of X G z5, PySem.W.mg_none_of X G z6, PySem.W.mg_none_of X G z7, PySem.W.mg_none_of X G z8⟩
  have m_all := PySem.W.mg_none_of X G z9
  have m_enumerate := PySem.W.mg_none_of X G z10
  have m_set := PySem.W.mg_none_of X G z11
  have m_sorted := PySem.W.mg_none_of X G z12
  have m_zip := PySem.W.mg_none_of X G z13
  obtain ⟨d0, F0⟩ := a0.fn
  obtain ⟨d1, F1⟩ := a1.fn
  obtain ⟨d2, F2⟩ := a2.fn
  obtain ⟨d3, F3⟩ := a3.fn
  obtain ⟨d4, F4⟩ := a4.fn
  obtain ⟨d5, F5⟩ := a5.fn
  obtain ⟨d6, F6⟩ := a6.fn
  obtain ⟨d7, F7⟩ := a7.fn
  obtain ⟨d8, F8⟩ := a8.fn
  obtain ⟨d9, F9⟩ := a9.fn
  obtain ⟨d10, F10⟩ := a10.fn
  obtain ⟨d11, F11⟩ := a11.fn
  obtain ⟨d12, F12⟩ := a12.fn
  obtain ⟨d13, F13⟩ := a13.fn
  obtain ⟨d14, F14⟩ := a14.fn
  obtain ⟨d15, F15⟩ := a15.fn
  obtain ⟨d16, F16⟩ := a16.fn
  obtain ⟨d17, F17⟩ := a17.fn
  obtain ⟨d18, F18⟩ := a18.fn
  have g0 := PySem.W.mg_of X G a0.ns
  have g1 := PySem.W.mg_of X G a1.ns
  have g2 := PySem.W.mg_of X G a2.ns
  have g3 := PySem.W.mg_of X G a3.ns
  have g4 := PySem.W.mg_of X G a4.ns
  have g5 := PySem.W.mg_of X G a5.ns
  have g6 := PySem.W.mg_of X G a6.ns
  have g7 := PySem.W.mg_of X G a7.ns
  have g8 := PySem.W.mg_of X G a8.ns
  have g9 := PySem.W.mg_of X G a9.ns
  have g10 := PySem.W.mg_of X G a10.ns
  have g11 := PySem.W.mg_of X G a11.ns
  have g12 := PySem.W.mg_of X G a12.ns
  have g13 := PySem.W.mg_of X G a13.ns
  have g14 := PySem.W.mg_of X G a14.ns
  have g15 := PySem.W.mg_of X G a15.ns
  have g16 := PySem.W.mg_of X G a16.ns
  have g17 := PySem.W.mg_of X G a17.ns
  have hb0 : ∀ (s : Shared) (u : Value), BindsTo s d18 ⟨[u], []⟩ [("_law_script", u)] := by
    obtain ⟨oc, od, kV, doc, pm, an, cdv, ct, osl, rfl, _⟩ := F18.ex
    exact fun s u => .of_eq rfl
  refine ⟨d18, [(c3, P3), (c5, P5)], (spLaw K [P3, P5]), (List.forall_mem_cons.mpr ⟨a3.tab (t3 _ g3), (List.forall_mem_cons.mpr ⟨a5.tab (t5 _ g5), (fun p hp => by simp at hp)⟩)⟩), (List.forall_mem_cons.mpr ⟨a3.nP, (List.forall_mem_cons.mpr ⟨a5.nP, (fun p hp => by simp at hp)⟩)⟩), (List.forall_mem_cons.mpr ⟨a3.hd X, (List.forall_mem_cons.mpr ⟨a5.hd X, (fun p hp => by simp at hp)⟩)⟩), hb0, fun H a ns hl _ hT hS => ⟨a, ns, rfl, hS, hl, (List.forall_mem_cons.mpr ⟨⟨#[], hT (c3, P3) (by simp), by trivial⟩, (List.forall_mem_cons.mpr ⟨⟨#[], hT (c5, P5) (by simp), by trivial⟩, (fun p hp => by simp at hp)⟩)⟩), fun _ => rfl⟩, fun base KB GB TB => ?_⟩
  have tb3 := TB (c3, P3) (by simp)
  have tb5 := TB (c5, P5) (by simp)
  have D0 : Df l.prog w K mg base 1 "is_whole" ["thing"] spWhole := .of g0 F0 (ok_is_whole F0 M) fun _ _ _ _ _ _ us hl => match us, hl with | [_], _ => rfl
  have D1 : Df l.prog w K mg base 2 "is_whole_below" ["limit", "thing"] spBelow := .of g1 F1 (ok_is_whole_below F1 D0) fun _ _ _ _ _ _ us hl => match us, hl with | [_, _], _ => rfl
  have D2 : Df l.prog w K mg base 1 "is_tuple_of" ["length", "thing"] spTupleOf := .of g2 F2 (ok_is_tuple_of F2 M) fun _ _ _ _ _ _ us hl => match us, hl with | [_, _], _ => rfl
  have D3 : Df l.prog w K mg base 4 "are_unlike_below" ["limit", "thing"] (spUnlike [P3, P5]) := .of g3 F3.fn (ok_are_unlike F3 ⟨tb3.code, tb3.bm, tb3.gP⟩ (show P3 ∈ [P3, P5] by simp) M m_all m_set D1) fun _ _ _ _ _ _ us hl => match us, hl with | [_, _], _ => rfl
  have D4 : Df l.prog w K mg base 1 "ties_at" ["web"] spTiesAt := .of g4 F4 (ok_ties_at F4 M m_enumerate) fun _ _ _ _ _ _ us hl => match us, hl with | [_], _ => rfl
  have D5 : Df l.prog w K mg base 6 "is_orders" ["web", "thing"] (spIsOrders [P3, P5]) := .of g5 F5.fn (ok_is_orders F5 ⟨tb5.code, tb5.bm, tb5.gP⟩ (show P5 ∈ [P3, P5] by simp) M m_all m_sorted m_zip D2 D3 D4) fun _ _ _ _ _ _ us hl => match us, hl with | [_, _], _ => rfl
  have D6 : Df l.prog w K mg base 1 "_law_mixed" ["_law_number"] spMixed := .of g6 F6 (ok_l_mixed F6) fun _ _ _ _ _ _ us hl => match us, hl with | [_], _ => rfl
  have D7 : Df l.prog w K mg base 2 "_law_deck" ["_law_script"] (spDeckF K) := .of g7 F7 (ok_l_deck F7 M D6) fun _ _ _ _ _ _ us hl => match us, hl with | [_], _ => rfl
  have D8 : Df l.prog w K mg base 2 "_law_take" ["_law_deck_here", "_law_most"] spTake := .of g8 F8 (ok_l_take F8 D6) fun _ _ _ _ _ _ us hl => match us, hl with | [_, _], _ => rfl
  have D9 : Df l.prog w K mg base 1 "_law_corners" ["_law_ties", "_law_orders", "_law_place", "_law_at"] spCorners := .of g9 F9 (ok_l_corners F9 M) fun _ _ _ _ _ _ us hl => match us, hl with | [_, _, _, _], _ => rfl
  have D10 : Df l.prog w K mg base 3 "_law_grown" ["_law_deck_here", "_law_most", "_law_many_ties"] spGrown := .of g10 F10 (ok_l_grown F10 M D8 D9) fun _ _ _ _ _ _ us hl => match us, hl with | [_, _, _], _ => rfl
  have D11 : Df l.prog w K mg base 3 "_law_turned" ["_law_deck_here", "_law_orders"] spTurned := .of g11 F11 (ok_l_turned F11 M D8) fun _ _ _ _ _ _ us hl => match us, hl with | [_, _], _ => rfl
  have D12 : Df l.prog w K mg base 3 "_law_web" ["_law_deck_here", "_law_ties", "_law_places"] spWebF := .of g12 F12 (ok_l_web F12 M D8) fun _ _ _ _ _ _ us hl => match us, hl with | [_, _, _], _ => rfl
  have D13 : Df l.prog w K mg base 3 "_law_mingled" ["_law_deck_here", "_law_orders"] spMingled := .of g13 F13 (ok_l_mingled F13 M D8) fun _ _ _ _ _ _ us hl => match us, hl with | [_, _], _ => rfl
  have D14 : Df l.prog w K mg base 1 "_law_judged" ["_law_web_here", "_law_thing"] spJudged := .of g14 F14 (ok_l_judged F14 M m_enumerate) fun _ _ _ _ _ _ us hl => match us, hl with | [_, _], _ => rfl
  have D15 : Df l.prog w K mg base 3 "_law_bent_order" ["_law_deck_here", "_law_web_here", "_law_order"] spBentOrder := .of g15 F15 (ok_l_bent_order F15 M D8) fun _ _ _ _ _ _ us hl => match us, hl with | [_, _, _], _ => rfl
  have D16 : Df l.prog w K mg base 4 "_law_bent" ["_law_deck_here", "_law_web_here", "_law_orders"] spBent := .of g16 F16 (ok_l_bent F16 M D8 D15) fun _ _ _ _ _ _ us hl => match us, hl with | [_, _, _], _ => rfl
  have D17 : Df l.prog w K mg base 7 "_law_right" ["_law_web_here", "_law_thing"] (spRight51 [P3, P5]) := .of g17 F17 (ok_l_right F17 M D14 D5) fun _ _ _ _ _ _ us hl => match us, hl with | [_, _], _ => rfl
  exact ok_law F18 M D7 D8 D10 D12 D13 D11 D5 D16 D17
end
end FF
open PySem PySem.W PyProof.Rows
set_option maxRecDepth 100000 in
set_option maxHeartbeats 0 in
theorem PySem.Challenge.cw_friendfoe_k51_what_is_orders_holds : PySem.Challenge.rw_friendfoe_k51_what_is_orders.Holds := by
  w_on; o_law; k_head; (case hw => w_witness2)
  k_fill
  refine FF.walk_tabs (l := PySem.Challenge.rw_friendfoe_k51_what_is_orders) (n := 63) (k := 8) (x := "_law_script") rfl (by decide) rfl ⟨rfl, by decide, by decide⟩ (fun w h Y => PySem.W.kIn_of Y) ?F
  case F =>
    intro w mg fa h KX G hmg tabs
    refine' FF.law_at KX G hmg (fun fy => tabs "are_unlike_below" fy ?r3) (fun fy => tabs "is_orders" fy ?r5) ?a0 ?a1 ?a2 ?a3 ?a4 ?a5 ?a6 ?a7 ?a8 ?a9 ?a10 ?a11 ?a12 ?a13 ?a14 ?a15 ?a16 ?a17 ?a18 ?z0 ?z1 ?z2 ?z3 ?z4 ?z5 ?z6 ?z7 ?z8 ?z9 ?z10 ?z11 ?z12 ?z13 
    (case r3 => rfl)
    (case r5 => rfl)
    (case a0 => refine' FF.at_mk ?p1 ?p2 ?p3 ?p4; (case p1 => k_is); (case p2 => k_is); (case p3 => k_is); (case p4 => k_is))
    (case a1 => refine' FF.at_mk ?p1 ?p2 ?p3 ?p4; (case p1 => k_is); (case p2 => k_is); (case p3 => k_is); (case p4 => k_is))
    (case a2 => refine' FF.at_mk ?p1 ?p2 ?p3 ?p4; (case p1 => k_is); (case p2 => k_is); (case p3 => k_is); (case p4 => k_is))
    (case a3 => refine' FF.atC_mk ?p1 ?p2 ?p3 ?p4 ?p5 ?p6 ?p7 ?p8 ?p9 ?p10 ?p11 ?p12 ?p13; (case p1 => k_is); (case p2 => k_is); (case p3 => k_is); (case p4 => k_is); (case p5 => k_is); (case p6 => rfl); (case p7 => rfl); (case p8 => rfl); (case p9 => rfl); (case p10 => rfl); (case p11 => rfl); (case p12 => decide); (case p13 => rfl))
    (case a4 => refine' FF.at_mk ?p1 ?p2 ?p3 ?p4; (case p1 => k_is); (case p2 => k_is); (case p3 => k_is); (case p4 => k_is))
    (case a5 => refine' FF.atC_mk ?p1 ?p2 ?p3 ?p4 ?p5 ?p6 ?p7 ?p8 ?p9 ?p10 ?p11 ?p12 ?p13; (case p1 => k_is); (case p2 => k_is); (case p3 => k_is); (case p4 => k_is); (case p5 => k_is); (case p6 => rfl); (case p7 => rfl); (case p8 => rfl); (case p9 => rfl); (case p10 => rfl); (case p11 => rfl); (case p12 => decide); (case p13 => rfl))
    (case a6 => refine' FF.at_mk ?p1 ?p2 ?p3 ?p4; (case p1 => k_is); (case p2 => k_is); (case p3 => k_is); (case p4 => k_is))
    (case a7 => refine' FF.at_mk ?p1 ?p2 ?p3 ?p4; (case p1 => k_is); (case p2 => k_is); (case p3 => k_is); (case p4 => k_is))
    (case a8 => refine' FF.at_mk ?p1 ?p2 ?p3 ?p4; (case p1 => k_is); (case p2 => k_is); (case p3 => k_is); (case p4 => k_is))
    (case a9 => refine' FF.at_mk ?p1 ?p2 ?p3 ?p4; (case p1 => k_is); (case p2 => k_is); (case p3 => k_is); (case p4 => k_is))
    (case a10 => refine' FF.at_mk ?p1 ?p2 ?p3 ?p4; (case p1 => k_is); (case p2 => k_is); (case p3 => k_is); (case p4 => k_is))
    (case a11 => refine' FF.at_mk ?p1 ?p2 ?p3 ?p4; (case p1 => k_is); (case p2 => k_is); (case p3 => k_is); (case p4 => k_is))
    (case a12 => refine' FF.at_mk ?p1 ?p2 ?p3 ?p4; (case p1 => k_is); (case p2 => k_is); (case p3 => k_is); (case p4 => k_is))
    (case a13 => refine' FF.at_mk ?p1 ?p2 ?p3 ?p4; (case p1 => k_is); (case p2 => k_is); (case p3 => k_is); (case p4 => k_is))
    (case a14 => refine' FF.at_mk ?p1 ?p2 ?p3 ?p4; (case p1 => k_is); (case p2 => k_is); (case p3 => k_is); (case p4 => k_is))
    (case a15 => refine' FF.at_mk ?p1 ?p2 ?p3 ?p4; (case p1 => k_is); (case p2 => k_is); (case p3 => k_is); (case p4 => k_is))
    (case a16 => refine' FF.at_mk ?p1 ?p2 ?p3 ?p4; (case p1 => k_is); (case p2 => k_is); (case p3 => k_is); (case p4 => k_is))
    (case a17 => refine' FF.at_mk ?p1 ?p2 ?p3 ?p4; (case p1 => k_is); (case p2 => k_is); (case p3 => k_is); (case p4 => k_is))
    (case a18 => refine' FF.at_mk ?p1 ?p2 ?p3 ?p4; (case p1 => k_is); (case p2 => k_is); (case p3 => k_is); (case p4 => k_is))
    (case z0 => k_is)
    (case z1 => k_is)
    (case z2 => k_is)
    (case z3 => k_is)
    (case z4 => k_is)
    (case z5 => k_is)
    (case z6 => k_is)
    (case z7 => k_is)
    (case z8 => k_is)
    (case z9 => k_is)
    (case z10 => k_is)
    (case z11 => k_is)
    (case z12 => k_is)
    (case z13 => k_is)
