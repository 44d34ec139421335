import PyProof.Rows.All
import Wide.All
import OpenK.AllK
import Wide.FinOn
import HandS.ForMost
import HandS.IsInst
import HandS.TupAny
import HandS.TupLe
import HandS.Wide
import HandS.Style
import HandS.SortInts
import HandS.Conv
import HandS.More
import HandS.EndTab
import HandS.EndOwn
import HandS.AnyAll
import HandS.GenOver
import HandS.Evl
import HandS.Walk
import HandS.NoneIn
import HandS.Zip
import HandS.DictComp
import HandS.SetFor
import KE.GoesEnum
import HandS.TupMul
import HandS.Strs
import KE.DataMinMax
import HandS.ForExc
import HandS.ExcIs
import HandS.SetKeys
import KE.DatumOrd
import HandS.Deep
import PySem.Challenge.RW_friendfoe_k83_whole_a_stand_played
set_option Elab.async false
set_option linter.all false
set_option maxRecDepth 100000
namespace FF
open PySem PySem.Spec PyProof.Rows L2
/-! ### heaps: what is kept -/
/-- all that is tracked, but at d and c, is as it was -/
def Kp (d c : Addr) (H H' : Hp) : Prop := ∀ b o, b ≠ d → b ≠ c → H b = some o → H' b = some o
theorem Kp.refl {d c : Addr} {H : Hp} : Kp d c H H := fun _ _ _ _ h => h
theorem Kp.trans {d c : Addr} {H H1 H2 : Hp} (a : Kp d c H H1) (b : Kp d c H1 H2) : Kp d c H H2 := fun x o h1 h2 h => b x o h1 h2 (a x o h1 h2 h)
theorem Kp.at_d {d c : Addr} {H : Hp} {o : HO} : Kp d c H (upd H d o) := fun b u h1 _ h => by rw [upd_ne h1]; exact h
theorem Kp.at_c {d c : Addr} {H : Hp} {o : HO} : Kp d c H (upd H c o) := fun b u _ h2 h => by rw [upd_ne h2]; exact h
theorem Kp.new {d c p : Addr} {H : Hp} {o : HO} (hp : H p = none) : Kp d c H (upd H p o) := fun b u _ _ h => by rw [upd_ne (ne_of_none h hp)]; exact h
theorem same_new {H : Hp} {p : Addr} {o : HO} (h : H p = none) : Same H (upd H p o) := fun b x e => by
  rw [upd_ne (ne_of_none e h)]
  exact e
theorem Same.kp {d c : Addr} {H H' : Hp} (s : Same H H') : Kp d c H H' := fun b o _ _ h => s b o h
/-! ### defs as they are called -/
def Df (P : Program) (w : World) (K : PySem.W.Frag) (mg : Str → Option Value) (base : Heap) (k : Nat) (x : Str) (ps : List Str) (sp : Sp) : Prop :=
  ∃ (f : Addr) (fd : FuncData), FnOk P w K mg base CX0 k f fd ps sp ∧ mg x = some (.ref f) ∧ PySem.W.keepIn K (.ref f) = true ∧ Binds K fd ps []
/-- built-in names that the module has not taken -/
structure Free (mg : Str → Option Value) : Prop where
  len : mg "len" = none
  int : mg "int" = none
  bool : mg "bool" = none
  str : mg "str" = none
  list : mg "list" = none
  tuple : mg "tuple" = none
  range : mg "range" = none
  isinstance : mg "isinstance" = none
  sum : mg "sum" = none
theorem mod_rng {a m : Int} (h : 0 < m) : 0 ≤ a % m ∧ a % m < m := ⟨Int.emod_nonneg a (by omega), Int.emod_lt_of_pos a h⟩
/-! ### a generator expression's own frame -/
/-- the context of a generator's turns: its frame cenv stands over the def's -/
abbrev gX (X : Cx) (s : Shared) (H : Hp) (A' : Around) (cenv : Env) (fp : List Addr) : Cx :=
  { X with A := A', s_0 := s, H_0 := H, env := cenv, outer := X.stack, stack := cenv :: X.stack, ex := fp, fn := fun _ => false, pn := [], xe := fun _ _ => False }
/-- what is asked of the expression's own scope -/
structure GnOk (scope : Scope) : Prop where
  co : scope.isCoroutine = false
  nocell : ∀ y ∈ scope.names, y.2 ≠ .cell
  dot : scope.names.lookup (".0" : Str) = some NameKind.local
section
variable {X : Cx} {pins : List (Addr × Obj)} {σ : L2.St} {H : Hp} {s : Shared}
theorem gen_start {scope : Scope} {own : List (Str × Nat)} {fp : List Addr} {A' : Around} {code : Value} {m0 : Str → Option Value} {h5 : Heap} {g5 : Array GenState} {t5 : Nat} {a : Addr} {go : Obj}
    (I : Inv X pins σ H s) (ok : BlkOk X.N X.env.scope scope own) (gk : GnOk scope) (hN : X.N.Nodup) (hfp : ∀ b ∈ fp, FpOk X pins H b ∧ b < s.heap.objs.size)
    (hA : A'.handled = none) (hF : A'.frames = some (genEnv scope (cloFrom X.env.cells scope.names []) s.heap.objs.size code builtinsNs X.env :: X.stack))
    (kp : ∀ b o, s.heap.get? b = some o → h5.get? b = some o) (hn : h5.Ns s.heap.objs.size m0) (hm0 : ∀ x, x ≠ (".0" : Str) → m0 x = none) (hdN : (".0" : Str) ∉ X.N) (hb5 : AllBare g5)
    (ha : s.heap.objs.size < a) (hgo : h5.get? a = some go) (hgd : ∀ v, go.data ≠ .cell v) :
    Inv (gX X s H A' (genEnv scope (cloFrom X.env.cells scope.names []) s.heap.objs.size code builtinsNs X.env) fp) [(a, go)] (wipe σ (own.map (·.2))) H { s with heap := h5, gens := g5, toks := t5 } := by
  have hfree : ∀ y ∈ scope.names, y.2 = .free → ∃ c, X.env.cells.lookup y.1 = some c := fun y hy e =>
    (ok.free y hy e).elim (fun k => I.ok.has _ (.inl k)) fun k => I.ok.has _ (.inr k)
  have cm : ∀ {y c}, (y, c) ∈ cloFrom X.env.cells scope.names [] → X.env.cells.lookup y = some c ∧ c < s.heap.objs.size := fun {y c} q => by
    rcases cloFrom_mem q with q | ⟨h1, e1⟩
    · cases q
    · obtain ⟨c1, hc1⟩ := hfree _ h1 rfl
      rw [hc1] at e1
      cases e1
      obtain ⟨w1, z1⟩ := I.cell _ _ hc1
      exact ⟨hc1, z1.lt⟩
  have cl : ∀ {y c}, (cloFrom X.env.cells scope.names []).lookup y = some c → X.env.cells.lookup y = some c ∧ c < s.heap.objs.size := fun {y c} e => cm (PySem.mem_of_lookup e)
  have look : ∀ {y}, scope.names.lookup y = some .free → ∃ c, (cloFrom X.env.cells scope.names []).lookup y = some c := fun {y} e =>
    mem_lookup (cloFrom_has (cells := X.env.cells) (acc := []) (PySem.mem_of_lookup e))
  generalize hce : genEnv scope (cloFrom X.env.cells scope.names []) s.heap.objs.size code builtinsNs X.env = ce at hF
  have cL : ce.locals = s.heap.objs.size := by rw [← hce]; rfl
  have cC : ce.cells = cloFrom X.env.cells scope.names [] := by rw [← hce]; rfl
  have cS : ce.scope = scope := by rw [← hce]; rfl
  have cF : ce.frame = some ce.locals := by rw [← hce]; rfl
  have okG : (gX X s H A' ce fp).Ok := by
    refine ⟨I.ok.mod, ?_, ?_, ?_, ?_, fun y z c e1 e2 => ?_, fun y hy => ?_, fun y c z e => ?_, fun _ => hA, hF, .inr ⟨rfl, cF⟩, fun b hb => ⟨?_, fun y c e z => ?_⟩, I.bs, Nat.le_trans I.ok.bsz I.sz, fun b o e hb => ?_, fun b hb z => ?_, I.stack, I.stkFree⟩
    · show ce.scope.kind = _
      rw [cS]
      exact ok.kind
    · show ce.globals = _
      rw [← hce]
      exact I.ok.glob
    · show ce.builtins = _
      rw [← hce]
      rfl
    · show s.heap.objs.size ≤ ce.locals
      rw [cL]
      exact Nat.le_refl _
    · have e1 : ce.cells.lookup y = some c := e1
      have e2 : ce.cells.lookup z = some c := e2
      rw [cC] at e1 e2
      exact I.ok.inj y z c (cl e1).1 (cl e2).1
    · show ∃ c, ce.cells.lookup y = some c
      rw [cC]
      have hy : scope.names.lookup y = some .cell ∨ scope.names.lookup y = some .free := by
        have hy' : ce.scope.names.lookup y = some .cell ∨ ce.scope.names.lookup y = some .free := hy
        rw [cS] at hy'
        exact hy'
      rcases hy with k | k
      · exact absurd rfl (gk.nocell _ (PySem.mem_of_lookup k))
      · exact look k
    · exact absurd (show false = true from z) Bool.false_ne_true
    · show b ≠ ce.locals
      rw [cL]
      exact Nat.ne_of_lt (hfp b hb).2
    · have e : ce.cells.lookup y = some c := e
      rw [cC] at e
      exact (hfp b hb).1.2.2.2.2.1 y c (cl e).1 z
    · rcases (hfp b hb).1.2.2.2.1 with q | q
      · exact I.ok.noex b o e q
      · exact absurd (Nat.lt_of_lt_of_le (Heap.lt_size e) (Nat.le_trans I.ok.bsz q)) (Nat.lt_irrefl _)
    · rcases List.mem_cons.mp (I.stkSub b z) with q | q
      · exact (hfp b hb).1.2.1 q
      · exact (hfp b hb).1.2.2.1 q
  refine ⟨okG, rfl, hb5, Un.kept kp, ⟨m0, ?_, fun i y av e1 e2 e3 => ?_⟩, fun y c e => ?_, ?_, fun y c e => ?_, fun p hp => ?_, I.hok.kept kp, by rw [wipe_length]; exact I.len⟩
  · show Heap.Ns _ ce.locals _
    rw [cL]
    exact hn
  · obtain ⟨e2, hne⟩ := wipe_some e2
    have e3 : Vis ce.scope y := e3
    rw [cS] at e3
    have hfr : scope.names.lookup y = some .free := by
      have no : ∀ k, scope.names.lookup y = some k → ¬ (k = .local ∨ k = .cell) := fun k hk hh => by
        rcases ok.own _ (PySem.mem_of_lookup hk) hh with q | q
        · obtain ⟨p, hp, hpy⟩ := List.mem_map.mp q
          have e4 := ok.ix p hp
          have hpy : p.1 = y := hpy
          rw [hpy] at e4
          exact hne (List.mem_map.mpr ⟨p, hp, nodup_ix hN e4 e1⟩)
        · exact q (List.mem_of_getElem? e1)
      rcases e3 with e3 | e3 | e3
      · exact absurd (.inl rfl) (no _ e3)
      · exact absurd (.inr rfl) (no _ e3)
      · exact e3
    obtain ⟨m, _, hl⟩ := I.loc
    have hvis : Vis X.env.scope y := (ok.free _ (PySem.mem_of_lookup hfr) rfl).elim (fun k => .inr (.inl k)) fun k => .inr (.inr k)
    obtain ⟨w1, r1, q1⟩ := hl i y av e1 e2 hvis
    obtain ⟨c, hc⟩ := look hfr
    refine ⟨w1, r1, .inr ⟨.inr (by show ce.scope.names.lookup y = _; rw [cS]; exact hfr), c, by show ce.cells.lookup y = _; rw [cC]; exact hc, ?_⟩⟩
    rcases q1 with ⟨k, _⟩ | ⟨_, c', e', z⟩
    · have k : X.env.scope.names.lookup y = some .local := k
      rcases ok.free _ (PySem.mem_of_lookup hfr) rfl with k' | k' <;> (have k' : X.env.scope.names.lookup y = _ := k'; rw [k'] at k; cases k)
    · rw [(cl hc).1] at e'
      cases e'
      exact z.keeps kp
  · have e : ce.cells.lookup y = some c := e
    rw [cC] at e
    obtain ⟨w1, z1⟩ := I.cell y c (cl e).1
    exact ⟨w1, z1.keeps kp⟩
  · show H ce.locals = none
    rw [cL]
    exact I.hok.fresh (Nat.le_refl _)
  · have e : ce.cells.lookup y = some c := e
    rw [cC] at e
    exact I.freeC y c (cl e).1
  · have hp : p = (a, go) := by simpa using hp
    subst hp
    refine ⟨hgo, I.hok.fresh (Nat.le_of_lt ha), ?_, fun z => ?_, hgd⟩
    · show a ≠ ce.locals
      rw [cL]
      exact Nat.ne_of_gt ha
    · have z : a ∈ frs X.stack := z
      obtain ⟨_, o, ho, _⟩ := I.stack.mem z
      exact absurd (Nat.lt_trans (Heap.lt_size ho) ha) (Nat.lt_irrefl _)
end
/-! ### all(..), any(..) of a generator, told by what each turn does -/
/-- between a yield and the next turn -/
structure Rs (s s' : Shared) : Prop where
  heap : s'.heap = s.heap
  os : s'.os = s.os
  bare : AllBare s'.gens
  size : s.gens.size ≤ s'.gens.size
theorem inv_gens {X : Cx} {pins : List (Addr × Obj)} {σ : L2.St} {H : Hp} {s s' : Shared} (I : Inv X pins σ H s) (h1 : s'.heap = s.heap) (h2 : s'.os = s.os) (h3 : AllBare s'.gens) : Inv X pins σ H s' := by
  obtain ⟨hh, g, d, t, o⟩ := s'
  have e1 : hh = s.heap := h1
  have e2 : o = s.os := h2
  subst e1 e2
  exact ⟨I.ok, I.os, h3, I.base, I.loc, I.cell, I.free, I.freeC, I.pin, I.hok, I.len⟩
theorem Rs.inv {X : Cx} {pins : List (Addr × Obj)} {σ : L2.St} {H : Hp} {s s' : Shared} (r : Rs s s') (I : Inv X pins σ H s) : Inv X pins σ H s' := by
  obtain ⟨h1, h2, h3, _⟩ := r
  obtain ⟨hh, g, d, t, o⟩ := s'
  have e1 : hh = s.heap := h1
  have e2 : o = s.os := h2
  subst e1 e2
  exact ⟨I.ok, I.os, h3, I.base, I.loc, I.cell, I.free, I.freeC, I.pin, I.hok, I.len⟩
theorem bare_set {gens : Array GenState} (h : AllBare gens) {g : Nat} {x : GenState} (hx : x.bare = true) : AllBare (gens.setIfInBounds g x) := fun y hy => by
  obtain ⟨i, hi, rfl⟩ := Array.mem_iff_getElem.mp hy
  rw [Array.size_setIfInBounds] at hi
  rw [Array.getElem_setIfInBounds hi]
  split
  · exact hx
  · exact h _ (Array.getElem_mem hi)
theorem Rs.set {s : Shared} (hb : AllBare s.gens) {g : Nat} {x : GenState} (hx : x.bare = true) : Rs s (s.setGen g x) :=
  ⟨rfl, rfl, bare_set hb hx, Nat.le_of_eq (GenW.setGen_size s g x).symm⟩
theorem Rs.trans {s s1 s2 : Shared} (a : Rs s s1) (b : Rs s1 s2) : Rs s s2 := ⟨b.heap.trans a.heap, b.os.trans a.os, b.bare, Nat.le_trans a.size b.size⟩
/-- the protocol of a generator whose items are truths: T b: what holds where b comes out -/
def gY (gi : Nat) (a : Addr) (stop : Bool) (Fin : Shared → Prop) : Protocol := fun n s₀ v s kap =>
  ∃ b, v = .bool b ∧ s.heap.IsGen a gi ∧ s.heap.NoLimit ∧ AllBare s.gens ∧ gi < s.gens.size ∧ (b = stop → Fin s) ∧ (b ≠ stop → ∀ s', Rs s s' → kap (.send .none) s')
def gR (End : Shared → Prop) : Nat → Shared → Shared → Prop := fun _ _ s => AllBare s.gens ∧ End s
/-- the generator waits -/
def Waits (prog : Program) (w : World) (A : Around) (gi : Nat) (a : Addr) (stop : Bool) (End Fin : Shared → Prop) (n : Nat) (s : Shared) : Prop :=
  s.heap.IsGen a gi ∧ s.heap.NoLimit ∧ AllBare s.gens ∧ ∃ gs, s.gens[gi]? = some gs ∧
    ∀ s', Rs s s' → gs.Goes (model prog w) A.in1 (fun n s₀ r s₁ => r = .ok .next ∧ gR End n s₀ s₁) (gY gi a stop Fin) n (.send .none) s'
section
variable {prog : Program} {w : World} {A : Around} {gi : Nat} {a : Addr} {stop : Bool} {End Fin : Shared → Prop}
theorem waits_next {n : Nat} {s : Shared} {Q : Option Value → Shared → Prop} {E : Value → Shared → Prop} (hh : A.handled = none) (hroom : A.depth < recursionLimit)
    (hE : ∀ s s' : Shared, End s → s'.os = s.os → AllBare s'.gens → (∀ b o, s.heap.get? b = some o → s'.heap.get? b = some o) → End s')
    (hF : ∀ s s' : Shared, Fin s → s'.os = s.os → AllBare s'.gens → (∀ b o, s.heap.get? b = some o → s'.heap.get? b = some o) → Fin s')
    (W : Waits prog w A gi a stop End Fin n s) (hN : ∀ s', End s' → Q none s') (hS : ∀ s', Fin s' → Q (some (.bool stop)) s')
    (hG : ∀ s' m, m < n → Waits prog w A gi a stop End Fin m s' → Q (some (.bool (!stop))) s') : wpAny (model prog w) A (pyNext (.ref a)) Q E s := by
  obtain ⟨hg, hl, hb, gs, hgs, hgo⟩ := W
  refine wpAny_pyNext_genexpQ (P := gR End) (Y := gY gi a stop Fin) hh hl hroom hg hgs (hgo _ (Rs.set hb rfl)) (fun v s₁ gs' hb' hv => ?_) fun s₁ hp h' hk => ?_
  · obtain ⟨b, rfl, g1, l1, b1, z1, f1, k1⟩ := hv
    by_cases e : b = stop
    · subst e
      exact hS _ (hF _ _ (f1 rfl) rfl (bare_set b1 hb') fun _ _ q => q)
    · have eb : b = !stop := by cases b <;> cases stop <;> first | rfl | exact absurd rfl e
      subst eb
      cases n with
      | zero => exact False.elim (k1 e s₁ ⟨rfl, rfl, b1, Nat.le_refl _⟩)
      | succ m =>
        refine hG _ m (Nat.lt_succ_self m) ⟨g1, l1, bare_set b1 hb', gs', ?_, fun s' r => k1 e s' ((Rs.set b1 hb').trans r)⟩
        show (s₁.gens.setIfInBounds gi gs')[gi]? = some gs'
        rw [Array.getElem?_setIfInBounds_self_of_lt z1]
  · obtain ⟨b1, e1⟩ := hp
    exact hN _ (hE _ _ e1 rfl (bare_set b1 rfl) fun b o q => hk b o q)
end
section
variable {prog : Program} {w : World} {A : Around} {gi : Nat} {a : Addr} {End Fin : Shared → Prop}
theorem all_loop (hh : A.handled = none) (hroom : A.depth < recursionLimit)
    (hE : ∀ s s' : Shared, End s → s'.os = s.os → AllBare s'.gens → (∀ b o, s.heap.get? b = some o → s'.heap.get? b = some o) → End s')
    (hF : ∀ s s' : Shared, Fin s → s'.os = s.os → AllBare s'.gens → (∀ b o, s.heap.get? b = some o → s'.heap.get? b = some o) → Fin s') :
    ∀ (n : Nat) (s : Shared), Waits prog w A.in1 gi a false End Fin n s →
      codeAny (model prog w) A (.builtin "all.loop" ⟨[.ref a], []⟩) (fun r s' => (r = .ok (.ret (.bool true)) ∧ End s') ∨ (r = .ok (.ret (.bool false)) ∧ Fin s')) s := by
  intro n
  induction n using Nat.strongRecOn with
  | ind n ih =>
    intro s W
    refine codeAny_builtin PySem.F.entry_all_loop ?_
    rw [Around.under_plainId PySem.F.plain_all_loop]
    show wpAny (model prog w) A.in1 (pyNext (.ref a) >>= _) _ _ s
    refine wpAny_bind (waits_next (A := A.in1) hh hroom hE hF W (fun s' e => ?_) (fun s' e => ?_) fun s' m hm W' => ?_)
    · exact wpAny_bind (wpAny_rule (wpAny_pure (.inl ⟨rfl, e⟩)))
    · refine wpAny_bind (wpAny_holding (wpAny_truthy_bool ?_))
      refine wpAny_bind (wpAny_letGo ?_)
      exact wpAny_bind (wpAny_rule (wpAny_pure (.inr ⟨rfl, e⟩)))
    · refine wpAny_bind (wpAny_holding (wpAny_truthy_bool ?_))
      refine wpAny_bind (wpAny_letGo ?_)
      exact wpAny_pure ⟨plainId_quiet PySem.F.plain_all_loop _, ih m hm s' W'⟩
end
/-! ### all(elt for target in iter) -/
/-- the reading: W by the turn and a measure; P: the def's table, which may grow -/
def tAll (P : Addr) (wi : TI) (g : TG) (te : TE) (vs : List Nat) : TE := fun σ H Q => wi σ H fun J H1 => GxR.TabG H1 P ∧ ∃ W : Nat → Nat → Hp → Prop, (∀ H2, GxR.Tabbed P H1 H2 → ∃ m, W 0 m H2) ∧ ∀ i m H, W i m H →
  (J.stop i H ∧ Q (.bl true) H) ∨ (J.go i H ∧ ∃ Nx : Hp → Prop, (∀ H', Nx H' → ∃ m', m' < m ∧ W (i + 1) m' H') ∧ ∀ x H', J.yld i H x H' → g x (wipe σ vs) H' fun σ2 H2 => wipe σ2 vs = wipe σ vs ∧
    te σ2 H2 fun y H3 => ∃ b, y = .bl b ∧ if b = true then Nx H3 else Q (.bl false) H3)
section
variable {X : Cx}
theorem pe_all {k : Nat} {c P : Addr} {elt tg iter : Expr} {scope : Scope} {own : List (Str × Nat)} {p pos gpos : Pos} {wi : TI} {g : TG} {te : TE}
    (hr : Room (k + 1) X.A) (TB : GxR.TabB X.base X.mg c P) (hcode : X.env.code = .ref c) (hc : X.calm = true) (hN : X.N.Nodup) (hG : Gl X "all") (hM : X.mg "all" = none) (hi : PI X tg iter wi) (ok : BlkOk X.N X.env.scope scope own) (gk : GnOk scope) (hdN : (".0" : Str) ∉ X.N)
    (hg : ∀ (s : Shared) (H : Hp) (A' : Around) (C : Addr) (cl : List (Str × Addr)) (code : Value) (fp : List Addr), PG (gX X s H A' (genEnv scope cl C code builtinsNs X.env) fp) tg g)
    (he : ∀ (s : Shared) (H : Hp) (A' : Around) (C : Addr) (cl : List (Str × Addr)) (code : Value) (fp : List Addr), Room k A' → PE (gX X s H A' (genEnv scope cl C code builtinsNs X.env) fp) elt te)
    (hs : ∀ v, genFold iter X.env v = pure v := by intro _; rfl)
    (hst : starEach [.GeneratorExp elt [⟨tg, iter, [], 0⟩] scope gpos] X.env = (false, eval (.GeneratorExp elt [⟨tg, iter, [], 0⟩] scope gpos) X.env) :: starEach [] X.env := by rfl) :
    PE X (.Call (.Name "all" p) [.GeneratorExp elt [⟨tg, iter, [], 0⟩] scope gpos] [] pos) (tAll P wi g te (own.map (·.2))) := by
  refine ⟨fun pins s σ H Q I h => ?_⟩
  have hh : X.A.handled = none := hr.hd
  refine wpAny_Call_Name_kw (ld_blt I hG hM PyProof.Rows.boot_all ?_)
  refine PyProof.Rows.callWith_builtin1 ?_ hst (by rfl)
  rw [hst]
  show wpAny _ _ (spliced ((false, eval (.GeneratorExp elt [⟨tg, iter, [], 0⟩] scope gpos) X.env) :: backTo pos (starEach [] X.env))) _ _ s
  have hfree : ∀ y ∈ scope.names, y.2 = .free → ∃ c, X.env.cells.lookup y.1 = some c := fun y hy e =>
    (ok.free y hy e).elim (fun k => I.ok.has _ (.inl k)) fun k => I.ok.has _ (.inr k)
  refine Calls.spliced_cons (wpAny_GeneratorExp_make gk.co (closure_ok hfree) gk.nocell gk.dot ok.kind (by have := hr.dp; omega) (thn (hi.run pins s σ H _ I h) fun xv s1 hx => thn hx fun itv s2 h2 => ?_) hs)
  obtain ⟨it, fp, tn, J, H2, e, I2, T, st2, f2, ⟨ps, hP, ht⟩, W, w0, turn⟩ := h2
  subst e
  refine ⟨I2.nolimit, ?_⟩
  have hPs : s2.heap.get? P = some { cls := .none, data := .fields ps } := I2.hok P _ hP
  have cd : PySem.W.CodeHd s2.heap c P := TB.code.keeps fun b u e => I2.bk b u e
  have sz2 : ∀ b ∈ fp, b < s2.heap.objs.size := fun b hb => by
    obtain ⟨o, e, _⟩ := T.obj _ _ st2 b hb
    exact Heap.lt_size e
  have nfP : ∀ b ∈ fp, b ≠ P := fun b hb z => by
    have q := (f2 b hb).1
    rw [z, hP] at q
    cases q
  -- behind the table
  have cont : ∀ (code : Value) (h3 : Heap) (tk : Nat) (more : Array Value), s2.heap.objs.size ≤ h3.objs.size → (∀ b o, b ≠ P → s2.heap.get? b = some o → h3.get? b = some o) → h3.get? P = some { cls := .none, data := .fields (ps ++ more) } → TriplesOk (ps ++ more).toList →
      wpAny (model X.prog X.w) X.A (builtinsFor X.env.globals X.env.builtins) (fun bi s4 => ∀ h', h'.Ns s4.heap.objs.size (fun y => if y = ".0" then some (.ref it) else none) → Heap.SameBut s4.heap.objs.size (s4.heap.push { cls := .type "frame", data := .dict #[] }) h' →
        wpAny (model X.prog X.w) X.A (spliced (backTo pos (starEach [] X.env))) (fun vs s5 => wpAny (model X.prog X.w) X.A (call (.builtin "all") (.ref h'.objs.size :: vs)) (EP X pins σ Q) X.xe s5) X.xe { s4 with
            gens := s4.gens.push (.fresh (.compStart (.GeneratorExp elt [⟨tg, iter, [], 0⟩] scope gpos) 0 (.ref it) .none (genEnv scope (cloFrom X.env.cells scope.names []) s4.heap.objs.size code bi X.env))), toks := s4.toks + 1 + 1 + 1,
            heap := h'.push { cls := .type "generator", data := .fields #[.int s4.gens.size 0, .str "<genexpr>" (s4.toks + 1), .str (X.env.qual ++ "<genexpr>") (s4.toks + 1 + 1)] } }) X.xe { s2 with heap := h3, toks := tk } := by
    intro code h3 tk more hle3 hk3 hP3 ht3
    have I3 : Inv X pins σ (upd H2 P (.tbl (ps ++ more))) { s2 with heap := h3, gens := s2.gens, drawn := s2.drawn, toks := tk } := GxR.inv_tab I2 hP hk3 hP3 I2.bare
    have tab3 : GxR.Tabbed P H2 (upd H2 P (.tbl (ps ++ more))) := ⟨⟨_, upd_same, ht3⟩, fun b hb => upd_ne hb⟩
    have st3 : tn 0 h3 := T.keep _ _ _ st2 fun b hb o e => hk3 b o (nfP b hb) e
    have f3 : ∀ b ∈ fp, FpOk X pins (upd H2 P (.tbl (ps ++ more))) b := fun b hb => ⟨by rw [upd_ne (nfP b hb)]; exact (f2 b hb).1, (f2 b hb).2⟩
    generalize upd H2 P (.tbl (ps ++ more)) = H3 at I3 tab3 f3
    obtain ⟨m0, hw0⟩ := w0 H3 tab3
    have sz3 : ∀ b ∈ fp, b < h3.objs.size := fun b hb => Nat.lt_of_lt_of_le (sz2 b hb) hle3
    have hs3 : ({ s2 with heap := h3, gens := s2.gens, drawn := s2.drawn, toks := tk } : Shared) = { s2 with heap := h3, toks := tk } := rfl
    rw [hs3] at I3
    generalize hsh : ({ s2 with heap := h3, toks := tk } : Shared) = s3 at I3 ⊢
    have eh : h3 = s3.heap := by rw [← hsh]
    rw [eh] at st3 sz3
    clear hsh hs3 eh hP3 hk3 hle3
    obtain ⟨bm, ob, e1, e2, e3, e4, e5, e6, e7, e8⟩ := TB.bm
    refine wpAny_builtinsFor (m := X.mg) (by rw [I3.ok.glob]; exact I3.mod.glob.keeps I3.bk) e1 e2 (I3.bk _ _ e5) e6 e7 e8 ?_
    intro h' hn' hs'
    refine Calls.spliced_nil ?_
    have hsz : h'.objs.size = s3.heap.objs.size + 1 := by rw [hs'.1, Heap.size_push]
    generalize hgo : ({ cls := .type "generator", data := .fields #[.int s3.gens.size 0, .str "<genexpr>" (s3.toks + 1), .str (X.env.qual ++ "<genexpr>") (s3.toks + 1 + 1)] } : Obj) = go
    have kp5 : ∀ b o, s3.heap.get? b = some o → (h'.push go).get? b = some o := fun b o e => Heap.get?_push_of_some _ (hs'.extBut b o (Nat.ne_of_lt (Heap.lt_size e)) (Heap.get?_push_of_some _ e))
    generalize hce : genEnv scope (cloFrom X.env.cells scope.names []) s3.heap.objs.size code builtinsNs X.env = ce
    have hhA : (X.A.in1.in1.over (.compLoop (.GeneratorExp elt [⟨tg, iter, [], 0⟩] scope gpos) 0 (.ref it) .none ce) []).handled = none := hh
    have hFr : (X.A.in1.in1.over (.compLoop (.GeneratorExp elt [⟨tg, iter, [], 0⟩] scope gpos) 0 (.ref it) .none ce) []).frames = some (ce :: X.stack) := by
      show pushEnvs [ce] (pushEnvs [] X.A.frames) = _
      rw [I3.ok.frames]
      rfl
    have hRm : Room k (X.A.in1.in1.over (.compLoop (.GeneratorExp elt [⟨tg, iter, [], 0⟩] scope gpos) 0 (.ref it) .none ce) []) := by
      have z1 := hr.dp
      have z2 := hr.un
      refine ⟨hhA, ?_, ?_⟩
      · show X.A.depth + 0 + 1 + 3 * k + 5 < recursionLimit
        omega
      · show X.A.units + 1 + 1 + 0 + 3 + 16 * k + 200 < cLine
        omega
    generalize hAg : X.A.in1.in1.over (.compLoop (.GeneratorExp elt [⟨tg, iter, [], 0⟩] scope gpos) 0 (.ref it) .none ce) [] = Ag at hhA hFr hRm
    have I5 : Inv (gX X s3 H3 Ag ce fp) [(h'.objs.size, go)] (wipe σ (own.map (·.2))) H3 { s3 with heap := h'.push go, gens := s3.gens.push (.fresh (.compStart (.GeneratorExp elt [⟨tg, iter, [], 0⟩] scope gpos) 0 (.ref it) .none ce)), toks := s3.toks + 1 + 1 + 1 } := by
      have q := gen_start (code := code) (A' := Ag) (h5 := h'.push go) (g5 := s3.gens.push (.fresh (.compStart (.GeneratorExp elt [⟨tg, iter, [], 0⟩] scope gpos) 0 (.ref it) .none ce))) (t5 := s3.toks + 1 + 1 + 1) (go := go) I3 ok gk hN (fun b hb => ⟨f3 b hb, sz3 b hb⟩) hhA (by rw [hce]; exact hFr) kp5 (hn'.push _)
        (fun x hx => if_neg hx) hdN (I3.bare.push rfl) (a := h'.objs.size) (by omega) (Heap.get?_push_size _ (by rw [← hgo]; rfl)) (by rw [← hgo]; intro v z; cases z)
      rw [hce] at q
      exact q
    have st5 : tn 0 (h'.push go) := T.keep _ _ _ st3 fun b _ o e => kp5 b o e
    have nfp : ∀ b ∈ fp, H3 b = none := fun b hb => (f3 b hb).1
    have pg := hg s3 H3 Ag s3.heap.objs.size (cloFrom X.env.cells scope.names []) code fp
    have pe := he s3 H3 Ag s3.heap.objs.size (cloFrom X.env.cells scope.names []) code fp hRm
    rw [hce] at pg pe
    have cCo : ce.scope.isCoroutine = false := by rw [← hce]; exact gk.co
    clear hn' hs' kp5 w0 hce
    -- back in the def's context
    have back : ∀ {σ' : L2.St} {H' : Hp} {s' : Shared} {pl : List (Addr × Obj)}, Inv (gX X s3 H3 Ag ce fp) pl σ' H' s' → Inv X pins σ H' s' := fun {σ' H' s' pl} J => I3.call' (ch := fp) J.os J.base J.hok J.bare fun b hb =>
      ⟨(f3 b hb).2.2.2.1, (f3 b hb).2.1, (f3 b hb).2.2.2.2.1, (f3 b hb).2.2.2.2.2⟩
    have stat : ∀ {σ' : L2.St} {H' : Hp} {s' : Shared}, Inv (gX X s3 H3 Ag ce fp) [(h'.objs.size, go)] σ' H' s' → (∀ b ∈ fp, H' b = none) → ∀ b ∈ fp, FpOk (gX X s3 H3 Ag ce fp) [(h'.objs.size, go)] H' b := fun {σ' H' s'} J hn b hb =>
      ⟨hn b hb, (J.ok.exf b hb).1, J.ok.exfs b hb, .inl hb, fun x c e => (J.ok.exf b hb).2 x c e, fun p hp => by
        have hp : p = (h'.objs.size, go) := by simpa using hp
        rw [hp]
        exact Nat.ne_of_gt (Nat.lt_trans (sz3 b hb) (by rw [hsz]; exact Nat.lt_succ_self _))⟩
    have gen : ∀ {σ' : L2.St} {H' : Hp} {s' : Shared} {pl : List (Addr × Obj)}, Inv (gX X s3 H3 Ag ce fp) ([(h'.objs.size, go)] ++ pl) σ' H' s' → s'.heap.IsGen h'.objs.size s3.gens.size := fun {σ' H' s' pl} J => by
      have q := (J.pin (h'.objs.size, go) (by simp)).1
      exact ⟨go, _, _, q, by rw [← hgo], by rw [← hgo], by rw [← hgo]⟩
    -- the turns
    have loop : ∀ (m n i : Nat) (s₀ s : Shared) (H : Hp), m < n → W i m H → Inv (gX X s3 H3 Ag ce fp) [(h'.objs.size, go)] (wipe σ (own.map (·.2))) H s → tn i s.heap → (∀ b ∈ fp, H b = none) → s3.gens.size + 1 ≤ s.gens.size →
        Seg (model X.prog X.w) X.A.in1.in1 (fun n s₀ r s₁ => r = .ok .next ∧ gR (fun s => ∃ H', Inv X pins σ H' s ∧ Q (.bl true) H') n s₀ s₁) (gY s3.gens.size h'.objs.size false fun s => ∃ H', Inv X pins σ H' s ∧ Q (.bl false) H') n s₀
          (.compLoop (.GeneratorExp elt [⟨tg, iter, [], 0⟩] scope gpos) 0 (.ref it) .none ce) ((model X.prog X.w).den (.compLoop (.GeneratorExp elt [⟨tg, iter, [], 0⟩] scope gpos) 0 (.ref it) .none ce)) [] s := by
      intro m
      induction m using Nat.strongRecOn with
      | ind m ih =>
        intro n i s₀ s H hmn w J st nf hz
        show Seg (model X.prog X.w) _ _ _ n s₀ _ ((compTurn (.GeneratorExp elt [⟨tg, iter, [], 0⟩] scope gpos) 0 (.ref it) .none ce).onRaise (leaving ce)) [] s
        rw [compTurn_gen]
        rw [Sem.onRaise_eq_wrap]
        refine seg_bind_wrap (wpAny_standAt (seg_bind_wrap ?_))
        rw [hAg]
        rcases turn i m H w with ⟨stp, qq⟩ | ⟨go', Nx, hNx, step⟩
        · refine thnF (T.done (gX X s3 H3 Ag ce fp) rfl rfl rfl hc i _ s _ H (fun _ _ => False) J (stat J nf) st stp) fun r s6 ⟨hr6, J6⟩ => ?_
          subst hr6
          exact seg_end (.ok .next) ⟨rfl, J6.bare, H, back J6, qq⟩
        · refine GenW.wpAny_gsz hz (thnF (T.item (gX X s3 H3 Ag ce fp) rfl rfl rfl hc i _ s _ H (fun _ _ => False) J (stat J nf) st go') fun r s6 ⟨u, hr6, h6⟩ hz6 => ?_)
          subst hr6
          refine seg_bind_wrap ?_
          rw [hAg]
          refine GenW.wpAny_gsz hz6 (thnF h6 fun _ s7 ⟨x, H7, J7, r7, y7, st7, n7⟩ hz7 => ?_)
          have J7' := J7.pinned (stat J7 n7) (T.obj _ _ st7)
          refine seg_bind_wrap ?_
          rw [hAg]
          refine GenW.wpAny_gsz hz7 (thnF (pg.run _ s7 _ H7 x u _ J7' r7 (step x H7 y7)) fun _ s8 ⟨σ8, H8, J8, hw8, q8⟩ hz8 => ?_)
          simp only [List.forIn_nil]
          refine seg_bind_wrap (wpAny_pure ?_)
          simp only [if_true]
          have hy : ∀ v, yieldOut ce v = yieldValue v := fun v => by simp only [yieldOut, cCo, Bool.false_eq_true, if_false]
          simp only [hy]
          rw [Sem.bind_eq_wrap', Sem.bind_eq_wrap']
          rw [Sem.wrap_wrap, Sem.wrap_wrap]
          refine seg_wrap ?_
          rw [hAg]
          refine GenW.wpAny_gsz hz8 (thnF (pe.run _ s8 σ8 H8 _ J8 q8) fun z s9 ⟨yv, H9, J9, r9, b, eb, qb⟩ hz9 => ?_)
          subst eb
          obtain rfl : z = Value.bool b := r9
          obtain ⟨n', rfl⟩ : ∃ n', n = n' + 1 := ⟨n - 1, by omega⟩
          refine seg_at (seg_yield rfl rfl rfl ⟨b, rfl, gen J9, J9.nolimit, J9.bare, hz9, fun e => ?_, fun e s' r => ?_⟩)
          · subst e
            exact ⟨H9, back J9, qb⟩
          · have e : b = true := by
              cases b with
              | true => rfl
              | false => exact absurd rfl e
            subst e
            rw [if_pos rfl] at qb
            obtain ⟨m', hm', w'⟩ := hNx H9 qb
            have pin' : ∀ b ∈ fp, ∀ o, s7.heap.get? b = some o → s9.heap.get? b = some o ∧ H9 b = none := fun b hb o e =>
              let z := J9.pin (b, o) (List.mem_append_right _ (List.mem_append_right _ (mem_pinsAt hb e)))
              ⟨z.1, z.2.1⟩
            have hl : (wipe σ (own.map (·.2))).length = σ8.length := by rw [← hw8, wipe_length]
            have K9 : Inv (gX X s3 H3 Ag ce fp) [(h'.objs.size, go)] (wipe σ (own.map (·.2))) H9 s9 := J9.unpinned.weak hl fun j v e => by
              rw [← hw8] at e
              exact (wipe_some e).1
            refine seg_again rfl (ih m' hm' n' (i + 1) s' s' H9 (by omega) w' (r.inv K9) ?_ (fun b hb => ?_) (Nat.le_trans hz9 r.size))
            · rw [r.heap]
              exact T.keep _ _ _ st7 fun b hb o e => (pin' b hb o e).1
            · obtain ⟨o, e, _⟩ := T.obj _ _ st7 b hb
              exact (pin' b hb o e).2
    have mono : ∀ (b : Bool) (s s' : Shared), (∃ H', Inv X pins σ H' s ∧ Q (.bl b) H') → s'.os = s.os → AllBare s'.gens → (∀ b o, s.heap.get? b = some o → s'.heap.get? b = some o) → ∃ H', Inv X pins σ H' s' ∧ Q (.bl b) H' := fun b s s' ⟨H', J, q⟩ h1 h2 h3 =>
      ⟨H', inv_gens (J.kept (t' := s'.toks) h3) rfl h1 h2, q⟩
    generalize hs5 : ({ s3 with heap := h'.push go, gens := s3.gens.push (.fresh (.compStart (.GeneratorExp elt [⟨tg, iter, [], 0⟩] scope gpos) 0 (.ref it) .none ce)), toks := s3.toks + 1 + 1 + 1 } : Shared) = s5 at I5
    have hg5 : s5.gens[s3.gens.size]? = some (.fresh (.compStart (.GeneratorExp elt [⟨tg, iter, [], 0⟩] scope gpos) 0 (.ref it) .none ce)) := by
      rw [← hs5]
      exact Array.getElem?_push_size ..
    have hz5 : s3.gens.size + 1 ≤ s5.gens.size := by
      rw [← hs5]
      exact Nat.le_of_eq (Array.size_push ..).symm
    have ht5 : tn 0 s5.heap := by rw [← hs5]; exact st5
    have wt : Waits X.prog X.w X.A.in1 s3.gens.size h'.objs.size false (fun s => ∃ H', Inv X pins σ H' s ∧ Q (.bl true) H') (fun s => ∃ H', Inv X pins σ H' s ∧ Q (.bl false) H') (m0 + 1) s5 := by
      refine ⟨gen (pl := []) I5, I5.nolimit, I5.bare, _, hg5, fun s' r => ⟨rfl, ?_⟩⟩
      have lp := loop m0 (m0 + 1) 0 s' s' H3 (Nat.lt_succ_self _) hw0 (r.inv I5) (by rw [r.heap]; exact ht5) nfp (Nat.le_trans hz5 r.size)
      show Seg (model X.prog X.w) _ _ _ _ s' _ ((compStart (.GeneratorExp elt [⟨tg, iter, [], 0⟩] scope gpos) 0 (.ref it) .none ce).onRaise (leaving ce)) [] s'
      unfold compStart
      rw [Sem.onRaise_eq_wrap]
      show Seg (model X.prog X.w) _ _ _ _ s' _ ((ask >>= _).wrap _ _ _ _) [] s'
      refine seg_bind_wrap (wpAny_askSetting ?_)
      have ts : tn 0 s'.heap := by rw [r.heap]; exact ht5
      split
      · exact seg_again rfl lp
      · first
          | exact seg_bind_wrap (wpAny_rule (seg_bind_wrap (wpAny_standAt (seg_bind_wrap (T.self _ 0 s' _ _ ts (seg_again rfl lp))))))
          | (refine seg_bind_wrap (wpAny_rule ?_); show Seg (model X.prog X.w) _ _ _ _ s' _ ((standAt iter.pos >>= _).wrap _ _ _ _) [] s'; exact seg_bind_wrap (wpAny_standAt (seg_bind_wrap (T.self _ 0 s' _ _ ts (seg_again rfl lp)))))
    refine call_function_tree PySem.F.kind_all PySem.F.plain_all PySem.F.entry_all (PySem.F.args_all1 _) ?_
    unfold Builtin.«all»
    refine wpAny_bind (m := oneArg "all" _) (wpAny_pure ?_)
    refine wpAny_bind (wpAny_pyIter_gen (gen (pl := []) I5) ?_)
    refine wpAny_pure ⟨plainId_quiet PySem.F.plain_all_loop _, codeAny_mono (all_loop hh hr.depth (mono true) (mono false) (m0 + 1) s5 wt) fun r s' hq => ?_⟩
    rcases hq with ⟨rfl, H', J, q⟩ | ⟨rfl, H', J, q⟩
    · exact ⟨.bl true, H', J, rfl, q⟩
    · exact ⟨.bl false, H', J, rfl, q⟩
  cases hf : codeAmong gpos ps.toList with
  | none =>
    refine wpAny_genexprCodeX hcode (cd.code hPs ht) (cd.tab hPs) hf fun c' h' tk hx hge hlt hco' _ htab' _ => ?_
    obtain ⟨o1, vs, f1, tf, fl, tg1, inF, tx, tt, op, _, _, _, _, _, _, _, _, _, htr, _⟩ := hco'
    exact cont _ h' tk _ (Nat.le_trans hge (Nat.le_of_lt hlt)) (fun b o hb e => hx b o hb e) htab'.2 htr
  | some cv =>
    refine wpAny_genexprCode_hit hcode (cd.code hPs ht) hf ?_
    have := cont cv s2.heap s2.toks #[] (Nat.le_refl _) (fun _ _ _ e => e) (by rw [hPs]; simp) (by simpa using ht)
    exact this
end
def topS (i : Nat) : Stmt := PySem.Challenge.pw_friendfoe_k83_whole_a_stand_played.main.body.getD i (.Pass ⟨0, 0, 0, 0⟩)
abbrev s_wall : Stmt := topS 0
abbrev N_wall : List Str := ["k"]
theorem sc_wall : FnScope N_wall ["k"] (defScope s_wall) := ⟨rfl, rfl, rfl, by decide +kernel, rfl, by decide +kernel, by decide +kernel⟩
abbrev s_neighbours : Stmt := topS 5
abbrev N_neighbours : List Str := ["web", "many", "ties", "around", "place", "one", "other", "kind"]
theorem sc_neighbours : FnScope N_neighbours ["web"] (defScope s_neighbours) := ⟨rfl, rfl, rfl, by decide +kernel, rfl, by decide +kernel, by decide +kernel⟩
abbrev s_sides_from : Stmt := topS 6
abbrev N_sides_from : List Str := ["start", "around", "sides", "waiting", "place", "other", "kind"]
theorem sc_sides_from : FnScope N_sides_from ["start", "around"] (defScope s_sides_from) := ⟨rfl, rfl, rfl, by decide +kernel, rfl, by decide +kernel, by decide +kernel⟩
abbrev s_parts_of : Stmt := topS 7
abbrev N_parts_of : List Str := ["web", "around", "parts", "placed", "start", "part"]
theorem sc_parts_of : FnScope N_parts_of ["web"] (defScope s_parts_of) := ⟨rfl, rfl, rfl, by decide +kernel, rfl, by decide +kernel, by decide +kernel⟩
abbrev s_is_whole : Stmt := topS 9
abbrev N_is_whole : List Str := ["thing"]
theorem sc_is_whole : FnScope N_is_whole ["thing"] (defScope s_is_whole) := ⟨rfl, rfl, rfl, by decide +kernel, rfl, by decide +kernel, by decide +kernel⟩
abbrev s_is_whole_below : Stmt := topS 10
abbrev N_is_whole_below : List Str := ["limit", "thing"]
theorem sc_is_whole_below : FnScope N_is_whole_below ["limit", "thing"] (defScope s_is_whole_below) := ⟨rfl, rfl, rfl, by decide +kernel, rfl, by decide +kernel, by decide +kernel⟩
abbrev s_is_tuple_of : Stmt := topS 11
abbrev N_is_tuple_of : List Str := ["length", "thing"]
theorem sc_is_tuple_of : FnScope N_is_tuple_of ["length", "thing"] (defScope s_is_tuple_of) := ⟨rfl, rfl, rfl, by decide +kernel, rfl, by decide +kernel, by decide +kernel⟩
abbrev s_are_unlike_below : Stmt := topS 13
abbrev N_are_unlike_below : List Str := ["limit", "thing", "number"]
theorem sc_are_unlike_below : FnScope N_are_unlike_below ["limit", "thing"] (defScope s_are_unlike_below) := ⟨rfl, rfl, rfl, by decide +kernel, rfl, by decide +kernel, by decide +kernel⟩
abbrev s_joins : Stmt := topS 14
abbrev N_joins : List Str := ["tie", "one", "other"]
theorem sc_joins : FnScope N_joins ["tie", "one", "other"] (defScope s_joins) := ⟨rfl, rfl, rfl, by decide +kernel, rfl, by decide +kernel, by decide +kernel⟩
abbrev s_ring_holds : Stmt := topS 15
abbrev N_ring_holds : List Str := ["web", "thing", "places", "ties", "followers", "tie", "one", "other"]
theorem sc_ring_holds : FnScope N_ring_holds ["web", "thing"] (defScope s_ring_holds) := ⟨rfl, rfl, rfl, by decide +kernel, rfl, by decide +kernel, by decide +kernel⟩
abbrev s_foes_in : Stmt := topS 16
abbrev N_foes_in : List Str := ["web", "ring", "tie"]
theorem sc_foes_in : FnScope N_foes_in ["web", "ring"] (defScope s_foes_in) := ⟨rfl, rfl, rfl, by decide +kernel, rfl, by decide +kernel, by decide +kernel⟩
abbrev s_odd_ring_holds : Stmt := topS 17
abbrev N_odd_ring_holds : List Str := ["web", "thing"]
theorem sc_odd_ring_holds : FnScope N_odd_ring_holds ["web", "thing"] (defScope s_odd_ring_holds) := ⟨rfl, rfl, rfl, by decide +kernel, rfl, by decide +kernel, by decide +kernel⟩
abbrev s_breaks : Stmt := topS 19
abbrev N_breaks : List Str := ["sides", "tie", "one", "other", "kind"]
theorem sc_breaks : FnScope N_breaks ["sides", "tie"] (defScope s_breaks) := ⟨rfl, rfl, rfl, by decide +kernel, rfl, by decide +kernel, by decide +kernel⟩
abbrev s_broken_by : Stmt := topS 20
abbrev N_broken_by : List Str := ["web", "sides", "number", "tie"]
theorem sc_broken_by : FnScope N_broken_by ["web", "sides"] (defScope s_broken_by) := ⟨rfl, rfl, rfl, by decide +kernel, rfl, by decide +kernel, by decide +kernel⟩
abbrev s_sides_of : Stmt := topS 21
abbrev N_sides_of : List Str := ["web", "around", "told", "start", "sides", "place"]
theorem sc_sides_of : FnScope N_sides_of ["web"] (defScope s_sides_of) := ⟨rfl, rfl, rfl, by decide +kernel, rfl, by decide +kernel, by decide +kernel⟩
abbrev s_ties_around : Stmt := topS 23
abbrev N_ties_around : List Str := ["web", "numbers", "around", "number", "one", "other", "kind"]
theorem sc_ties_around : FnScope N_ties_around ["web", "numbers"] (defScope s_ties_around) := ⟨rfl, rfl, rfl, by decide +kernel, rfl, by decide +kernel, by decide +kernel⟩
abbrev s_walk_from : Stmt := topS 24
abbrev N_walk_from : List Str := ["start", "around", "walk", "reached", "steps", "following", "place", "other", "number"]
theorem sc_walk_from : FnScope N_walk_from ["start", "around"] (defScope s_walk_from) := ⟨rfl, rfl, rfl, by decide +kernel, rfl, by decide +kernel, by decide +kernel⟩
abbrev s_way_to : Stmt := topS 25
abbrev N_way_to : List Str := ["end", "walk", "places", "numbers", "steps", "ahead", "number"]
theorem sc_way_to : FnScope N_way_to ["end", "walk"] (defScope s_way_to) := ⟨rfl, rfl, rfl, by decide +kernel, rfl, by decide +kernel, by decide +kernel⟩
abbrev s_turned_tie : Stmt := topS 27
abbrev N_turned_tie : List Str := ["tie", "among", "one", "other", "kind"]
theorem sc_turned_tie : FnScope N_turned_tie ["tie", "among"] (defScope s_turned_tie) := ⟨rfl, rfl, rfl, by decide +kernel, rfl, by decide +kernel, by decide +kernel⟩
abbrev s_turned : Stmt := topS 28
abbrev N_turned : List Str := ["web", "places", "among", "place", "tie"]
theorem sc_turned : FnScope N_turned ["web", "places"] (defScope s_turned) := ⟨rfl, rfl, rfl, by decide +kernel, rfl, by decide +kernel, by decide +kernel⟩
abbrev s_Stand_init : Stmt := inClass (topS 30) 0
abbrev N_Stand_init : List Str := ["self", "many"]
theorem sc_Stand_init : FnScope N_Stand_init ["self", "many"] (defScope s_Stand_init) := ⟨rfl, rfl, rfl, by decide +kernel, rfl, by decide +kernel, by decide +kernel⟩
abbrev s_Stand_come : Stmt := inClass (topS 30) 1
abbrev N_Stand_come : List Str := ["self", "one", "other", "kind", "number", "walk", "places", "ties", "ring"]
theorem sc_Stand_come : FnScope N_Stand_come ["self", "one", "other", "kind"] (defScope s_Stand_come) := ⟨rfl, rfl, rfl, by decide +kernel, rfl, by decide +kernel, by decide +kernel⟩
abbrev s_Stand_back : Stmt := inClass (topS 30) 2
abbrev N_Stand_back : List Str := ["self"]
theorem sc_Stand_back : FnScope N_Stand_back ["self"] (defScope s_Stand_back) := ⟨rfl, rfl, rfl, by decide +kernel, rfl, by decide +kernel, by decide +kernel⟩
abbrev s_Stand_turn : Stmt := inClass (topS 30) 3
abbrev N_Stand_turn : List Str := ["self", "places"]
theorem sc_Stand_turn : FnScope N_Stand_turn ["self", "places"] (defScope s_Stand_turn) := ⟨rfl, rfl, rfl, by decide +kernel, rfl, by decide +kernel, by decide +kernel⟩
abbrev s_Stand_web : Stmt := inClass (topS 30) 4
abbrev N_Stand_web : List Str := ["self"]
theorem sc_Stand_web : FnScope N_Stand_web ["self"] (defScope s_Stand_web) := ⟨rfl, rfl, rfl, by decide +kernel, rfl, by decide +kernel, by decide +kernel⟩
abbrev s_Stand_kept_web : Stmt := inClass (topS 30) 5
abbrev N_Stand_kept_web : List Str := ["self", "number"]
theorem sc_Stand_kept_web : FnScope N_Stand_kept_web ["self"] (defScope s_Stand_kept_web) := ⟨rfl, rfl, rfl, by decide +kernel, rfl, by decide +kernel, by decide +kernel⟩
abbrev s_Stand_sides : Stmt := inClass (topS 30) 6
abbrev N_Stand_sides : List Str := ["self"]
theorem sc_Stand_sides : FnScope N_Stand_sides ["self"] (defScope s_Stand_sides) := ⟨rfl, rfl, rfl, by decide +kernel, rfl, by decide +kernel, by decide +kernel⟩
abbrev s_Stand_between : Stmt := inClass (topS 30) 7
abbrev N_Stand_between : List Str := ["self", "one", "other", "sides"]
theorem sc_Stand_between : FnScope N_Stand_between ["self", "one", "other"] (defScope s_Stand_between) := ⟨rfl, rfl, rfl, by decide +kernel, rfl, by decide +kernel, by decide +kernel⟩
abbrev s_Stand_broken : Stmt := inClass (topS 30) 8
abbrev N_Stand_broken : List Str := ["self"]
theorem sc_Stand_broken : FnScope N_Stand_broken ["self"] (defScope s_Stand_broken) := ⟨rfl, rfl, rfl, by decide +kernel, rfl, by decide +kernel, by decide +kernel⟩
abbrev s_first_broken : Stmt := topS 32
abbrev N_first_broken : List Str := ["web", "stand", "number", "one", "other", "kind", "ring"]
theorem sc_first_broken : FnScope N_first_broken ["web"] (defScope s_first_broken) := ⟨rfl, rfl, rfl, by decide +kernel, rfl, by decide +kernel, by decide +kernel⟩
abbrev s_l_cell_at : Stmt := topS 34
abbrev N_l_cell_at : List Str := ["_law_script", "_law_k"]
theorem sc_l_cell_at : FnScope N_l_cell_at ["_law_script", "_law_k"] (defScope s_l_cell_at) := ⟨rfl, rfl, rfl, by decide +kernel, rfl, by decide +kernel, by decide +kernel⟩
abbrev s_l_draw : Stmt := topS 35
abbrev N_l_draw : List Str := ["_law_well", "_law_many", "_law_digit", "_law_number"]
theorem sc_l_draw : FnScope N_l_draw ["_law_well", "_law_many"] (defScope s_l_draw) := ⟨rfl, rfl, rfl, by decide +kernel, rfl, by decide +kernel, by decide +kernel⟩
abbrev s_l_size : Stmt := topS 36
abbrev N_l_size : List Str := ["_law_script", "_law_well", "_law_great", "_law_many", "_law_deeds"]
theorem sc_l_size : FnScope N_l_size ["_law_script"] (defScope s_l_size) := ⟨rfl, rfl, rfl, by decide +kernel, rfl, by decide +kernel, by decide +kernel⟩
abbrev s_l_deed : Stmt := topS 37
abbrev N_l_deed : List Str := ["_law_script", "_law_k", "_law_many", "_law_ties", "_law_goes_round", "_law_well", "_law_way", "_law_kind", "_law_one", "_law_other"]
theorem sc_l_deed : FnScope N_l_deed ["_law_script", "_law_k", "_law_many", "_law_ties", "_law_goes_round"] (defScope s_l_deed) := ⟨rfl, rfl, rfl, by decide +kernel, rfl, by decide +kernel, by decide +kernel⟩
abbrev s_l_made : Stmt := topS 38
abbrev N_l_made : List Str := ["_law_web", "_law_stand", "_law_tie"]
theorem sc_l_made : FnScope N_l_made ["_law_web"] (defScope s_l_made) := ⟨rfl, rfl, rfl, by decide +kernel, rfl, by decide +kernel, by decide +kernel⟩
abbrev s_l_told : Stmt := topS 39
abbrev N_l_told : List Str := ["_law_stand", "_law_many", "_law_k", "_law_some", "_law_j", "_law_rows", "_law_one", "_law_other"]
theorem sc_l_told : FnScope N_l_told ["_law_stand", "_law_many", "_law_k"] (defScope s_l_told) := ⟨rfl, rfl, rfl, by decide +kernel, rfl, by decide +kernel, by decide +kernel⟩
abbrev s_l_between_right : Stmt := topS 40
abbrev N_l_between_right : List Str := ["_law_stand", "_law_kept_web", "_law_k", "_law_parts", "_law_sides", "_law_j", "_law_one", "_law_other", "_law_due", "_law_part"]
theorem sc_l_between_right : FnScope N_l_between_right ["_law_stand", "_law_kept_web", "_law_k"] (defScope s_l_between_right) := ⟨rfl, rfl, rfl, by decide +kernel, rfl, by decide +kernel, by decide +kernel⟩
abbrev s_l_kept_right : Stmt := topS 41
abbrev N_l_kept_right : List Str := ["_law_stand", "_law_rings", "_law_k", "_law_web", "_law_broken", "_law_number", "_law_ties", "_law_tie", "_law_kept"]
theorem sc_l_kept_right : FnScope N_l_kept_right ["_law_stand", "_law_rings", "_law_k"] (defScope s_l_kept_right) := ⟨rfl, rfl, rfl, by decide +kernel, rfl, by decide +kernel, by decide +kernel⟩
abbrev s_l_rings_right : Stmt := topS 42
abbrev N_l_rings_right : List Str := ["_law_web", "_law_broken", "_law_rings", "_law_number", "_law_ring", "_law_ahead", "_law_others", "_law_tie"]
theorem sc_l_rings_right : FnScope N_l_rings_right ["_law_web", "_law_broken", "_law_rings"] (defScope s_l_rings_right) := ⟨rfl, rfl, rfl, by decide +kernel, rfl, by decide +kernel, by decide +kernel⟩
abbrev s_l_turned_right : Stmt := topS 43
abbrev N_l_turned_right : List Str := ["_law_script", "_law_stand", "_law_k", "_law_web", "_law_well", "_law_some", "_law_place"]
theorem sc_l_turned_right : FnScope N_l_turned_right ["_law_script", "_law_stand", "_law_k"] (defScope s_l_turned_right) := ⟨rfl, rfl, rfl, by decide +kernel, rfl, by decide +kernel, by decide +kernel⟩
abbrev s_law : Stmt := topS 44
abbrev N_law : List Str := ["_law_script", "_law_many", "_law_deeds", "_law_goes_round", "_law_stand", "_law_ties", "_law_rings", "_law_k", "_law_tie"]
theorem sc_law : FnScope N_law ["_law_script"] (defScope s_law) := ⟨rfl, rfl, rfl, by decide +kernel, rfl, by decide +kernel, by decide +kernel⟩
/-! ### own rules: a list against [] -/
section
variable {X : Cx}
def rEqE (K : PySem.W.Frag) : R2 := fun x y H Q => ∃ (a b : Addr) (xs : List V), x = .ref a ∧ y = .ref b ∧ SqL K H a xs ∧ SqL K H b [] ∧ Q (.bl xs.isEmpty) H
def rNeE (K : PySem.W.Frag) : R2 := fun x y H Q => ∃ (a b : Addr) (xs : List V), x = .ref a ∧ y = .ref b ∧ SqL K H a xs ∧ SqL K H b [] ∧ Q (.bl (!xs.isEmpty)) H
theorem op_eqE (hu : X.A.units < cLine) : OpR X (compareOp .Eq) (rEqE X.K) := by
  intro pins s σ H x y v u Q I rx ry h
  obtain ⟨a, b, xs, rfl, rfl, ha, hb, q⟩ := h
  obtain rfl : v = Value.ref a := rx
  obtain rfl : u = Value.ref b := ry
  obtain ⟨its, r1, p1, _⟩ := I.list ha
  obtain ⟨its2, r2, p2, _⟩ := I.list hb
  cases r2
  cases xs with
  | nil =>
    cases r1
    exact SeqAt.eq_listAt (e := fun _ => true) p1.isList p2.isList rfl hu (fun j h1 _ => absurd h1 (by simp)) ⟨.bl true, H, I, rfl, q⟩
  | cons z zs =>
    cases r1 with
    | cons r t => exact SeqAt.eq_list_lengthsAt p1.isList p2.isList (by simp) hu ⟨.bl false, H, I, rfl, q⟩
theorem op_neE (hu : X.A.units < cLine) : OpR X (compareOp .NotEq) (rNeE X.K) := by
  intro pins s σ H x y v u Q I rx ry h
  obtain ⟨a, b, xs, rfl, rfl, ha, hb, q⟩ := h
  obtain rfl : v = Value.ref a := rx
  obtain rfl : u = Value.ref b := ry
  obtain ⟨its, r1, p1, _⟩ := I.list ha
  obtain ⟨its2, r2, p2, _⟩ := I.list hb
  cases r2
  cases xs with
  | nil =>
    cases r1
    exact SeqAt.RcNeAt.lists (e := fun _ => true) p1.isList p2.isList rfl hu (fun j h1 _ => absurd h1 (by simp)) _ _ _ _ ⟨.bl false, H, I, rfl, q⟩
  | cons z zs =>
    cases r1 with
    | cons r t => exact SeqAt.RcNeAt.lists_lengths p1.isList p2.isList (by simp) hu _ _ _ _ ⟨.bl true, H, I, rfl, q⟩
end
section
variable {P : Program} {w : World} {K : PySem.W.Frag} {mg : Str → Option Value} {base : Heap}
/-! ### webs -/
structure Tie where
  one : Int
  other : Int
  foe : Bool
def kindS : Bool → Str
  | true => "foe"
  | false => "friend"
def TieV (H : Hp) (v : V) (t : Tie) : Prop := ∃ a, v = .ref a ∧ H a = some (.tup [.int t.one, .int t.other, .str (kindS t.foe)])
def TieOk (n : Int) (t : Tie) : Prop := 0 ≤ t.one ∧ t.one < n ∧ 0 ≤ t.other ∧ t.other < n ∧ t.one ≠ t.other
def WebAt (H : Hp) (v : V) (n : Int) (ts : List Tie) : Prop := ∃ a b vs, v = .ref a ∧ H a = some (.tup [.int n, .ref b]) ∧ H b = some (.tup vs) ∧ Paired (TieV H) vs ts
structure WebOk (n : Int) (ts : List Tie) : Prop where
  lo : 1 ≤ n
  hi : n ≤ 40
  few : ts.length ≤ 120
  ok : ∀ t ∈ ts, TieOk n t
/-- tuples stay -/
def Tk (H H' : Hp) : Prop := ∀ b xs, H b = some (.tup xs) → H' b = some (.tup xs)
theorem Tk.trans {H H1 H2 : Hp} (a : Tk H H1) (b : Tk H1 H2) : Tk H H2 := fun x xs h => b x xs (a x xs h)
theorem Same.tk {H H' : Hp} (s : Same H H') : Tk H H' := fun b xs h => s b _ h
theorem tk_lst {H : Hp} {l : Addr} {xs ys : List V} (h : H l = some (.lst xs)) : Tk H (upd H l (.lst ys)) := fun b zs e => by
  rw [upd_ne (ne_of e h (by intro z; cases z))]
  exact e
theorem TieV.tk {H H' : Hp} (k : Tk H H') {v : V} {t : Tie} (h : TieV H v t) : TieV H' v t := by
  obtain ⟨a, rfl, e⟩ := h
  exact ⟨a, rfl, k _ _ e⟩
theorem ties_tk {H H' : Hp} (k : Tk H H') {vs : List V} {ts : List Tie} (h : Paired (TieV H) vs ts) : Paired (TieV H') vs ts := Paired.mono (fun _ _ x => x.tk k) h
theorem WebAt.tk {H H' : Hp} (k : Tk H H') {v : V} {n : Int} {ts : List Tie} (h : WebAt H v n ts) : WebAt H' v n ts := by
  obtain ⟨a, b, vs, rfl, h1, h2, h3⟩ := h
  exact ⟨a, b, vs, rfl, k _ _ h1, k _ _ h2, ties_tk k h3⟩
theorem Kp.mut {d c l : Addr} {H H' : Hp} {o : HO} (k : Kp d c H H') (h : H l = none) : Kp d c H (upd H' l o) := fun b u h1 h2 e => by
  rw [upd_ne (ne_of_none e h)]
  exact k b u h1 h2 e
theorem Paired.at {α β : Type} {F : α → β → Prop} : ∀ {l : List α} {m : List β} {i : Nat} {a : α}, Paired F l m → l[i]? = some a → ∃ b, m[i]? = some b ∧ F a b
  | _, _, _, _, .nil, e => by simp at e
  | _, _, 0, _, .cons r _, e => by simp at e; subst e; exact ⟨_, rfl, r⟩
  | _, _, i + 1, a, .cons _ t, e => by
    obtain ⟨u, h1, h2⟩ := Paired.at (i := i) (a := a) t (by simpa using e)
    exact ⟨u, by simpa using h1, h2⟩
theorem Paired.at' {α β : Type} {F : α → β → Prop} : ∀ {l : List α} {m : List β} {i : Nat} {b : β}, Paired F l m → m[i]? = some b → ∃ a, l[i]? = some a ∧ F a b
  | _, _, _, _, .nil, e => by simp at e
  | _, _, 0, _, .cons r _, e => by simp at e; subst e; exact ⟨_, rfl, r⟩
  | _, _, i + 1, b, .cons _ t, e => by
    obtain ⟨u, h1, h2⟩ := Paired.at' (i := i) (b := b) t (by simpa using e)
    exact ⟨u, by simpa using h1, h2⟩
theorem getI {α : Type} {xs : List α} {i : Int} (h0 : 0 ≤ i) (h1 : i < (xs.length : Int)) : ∃ v, atI xs i = some v ∧ xs[i.toNat]? = some v := by
  obtain ⟨j, rfl⟩ : ∃ j : Nat, i = (j : Int) := ⟨i.toNat, by omega⟩
  have h2 : j < xs.length := by omega
  exact ⟨xs[j], atI_nat (List.getElem?_eq_getElem h2), by rw [Int.toNat_natCast]; exact List.getElem?_eq_getElem h2⟩
theorem other_ne {n a b : Int} (h0 : 0 ≤ a) (h1 : a < n) (g0 : 0 ≤ b) (g1 : b < n - 1) : a ≠ (a + 1 + b) % n := by
  by_cases h : a + 1 + b < n
  · rw [Int.emod_eq_of_lt (by omega) h]
    omega
  · have e : a + 1 + b = (a + 1 + b - n) + 1 * n := by omega
    rw [e, Int.add_mul_emod_self_right, Int.emod_eq_of_lt (by omega) (by omega)]
    omega
theorem pick2 {α : Type} (a b : α) (k : Bool) : atI [a, b] (if k then 1 else 0) = some (if k then b else a) := by
  cases k <;> rfl
theorem Kp.free {d c l : Addr} {H H' : Hp} (k : Kp d c H H') (h : H' l = none) (h1 : l ≠ d) (h2 : l ≠ c) : H l = none := by
  cases e : H l with
  | none => rfl
  | some o =>
    rw [k l o h1 h2 e] at h
    cases h
theorem atI_of {xs : List V} {i : Int} {v : V} (h0 : 0 ≤ i) (e : xs[i.toNat]? = some v) : atI xs i = some v := by
  obtain ⟨j, rfl⟩ : ∃ j : Nat, i = (j : Int) := ⟨i.toNat, by omega⟩
  exact atI_nat (by rw [Int.toNat_natCast] at e; exact e)
theorem atI_ints {xs : List Int} {i : Int} (h0 : 0 ≤ i) (h1 : i < xs.length) : ∃ x ∈ xs, xs[i.toNat]? = some x ∧ atI (xs.map V.int) i = some (.int x) := by
  have h : i.toNat < xs.length := by omega
  exact ⟨xs[i.toNat], List.getElem_mem h, List.getElem?_eq_getElem h, atI_of h0 (by rw [List.getElem?_map, List.getElem?_eq_getElem h]; rfl)⟩
end
/-! ### tuples cut and put together -/
section
variable {X : Cx}
theorem cutV_whole {xs : List V} {lo hi : Option Int} (h : HT.sIx xs.length 0 lo = 0 ∧ HT.sIx xs.length xs.length hi = xs.length) : cutV xs lo hi = xs := by
  unfold cutV
  rw [h.1, h.2]
  simp
def rSlU : V → Option Int → Option Int → Hp → VK → Prop := fun x lo hi H Q => ∃ a xs, x = .ref a ∧ H a = some (.tup xs) ∧ ∀ r H', Same H H' → H' r = some (.tup (cutV xs lo hi)) → Q (.ref r) H'
theorem sl_tupU : SlR X rSlU := by
  intro pins s σ H x v vl vu lo hi sl Q I rx hs pl pu h
  obtain ⟨a, xs, rfl, hx, q⟩ := h
  refine sl_tupA pins s σ H _ v vl vu lo hi sl Q I rx hs pl pu ⟨a, xs, rfl, SqT.of hx, fun hw => ?_, fun _ p np => ?_⟩
  · exact q a H (Same.refl H) (by rw [cutV_whole hw]; exact hx)
  · exact q p _ (same_new np) upd_same
def rCatU : R2 := fun x y H Q => ∃ a b xs ys, x = .ref a ∧ y = .ref b ∧ H a = some (.tup xs) ∧ H b = some (.tup ys) ∧ xs.length + ys.length ≤ 100000 ∧ ∀ r H', Same H H' → H' r = some (.tup (xs ++ ys)) → Q (.ref r) H'
theorem op_catU : OpR X (binaryOp .Add) rCatU := by
  intro pins s σ H x y v u Q I rx ry h
  obtain ⟨a, b, xs, ys, rfl, rfl, ha, hb, hz, q⟩ := h
  refine op_catA pins s σ H _ _ v u Q I rx ry ⟨a, b, xs, ys, rfl, rfl, SqT.of ha, SqT.of hb, Evl.sz_of hz, fun e => ?_, fun _ e => ?_, fun _ _ p np => ?_⟩
  · subst e
    exact q b H (Same.refl H) hb
  · subst e
    exact q a H (Same.refl H) (by rw [List.append_nil]; exact ha)
  · exact q p _ (same_new np) upd_same
end
/-! ### things of any kind -/
/-- its kind is known -/
def Kn (H : Hp) : V → Prop
  | .non => True
  | .bl _ => True
  | .int _ => True
  | .str _ => True
  | .ref a => (∃ xs, H a = some (.lst xs)) ∨ (∃ xs, H a = some (.tup xs)) ∨ ∃ kvs, H a = some (.dK kvs)
  | _ => False
def isI : V → Bool
  | .int _ => true
  | .bl _ => true
  | _ => false
def isB : V → Bool
  | .bl _ => true
  | _ => false
def isW : V → Bool
  | .int _ => true
  | _ => false
def isT (H : Hp) : V → Bool
  | .ref a => match H a with
    | some (.tup _) => true
    | _ => false
  | _ => false
section
variable {K : PySem.W.Frag} {H : Hp}
theorem kn_int {v : V} (h : Kn H v) : ∃ t, TyX K H v t ∧ PySem.W.kitOne K t (.type "int") = some (isI v) := by
  cases v with
  | non => exact ⟨_, .base .non, kit_ty (r := false) (by decide +kernel)⟩
  | bl b => exact ⟨_, .base (.bl b), kit_ty (r := true) (by decide +kernel)⟩
  | int i => exact ⟨_, .base (.int i), kit_ty (r := true) (by decide +kernel)⟩
  | str x => exact ⟨_, .base (.str x), kit_ty (r := false) (by decide +kernel)⟩
  | ref a =>
    rcases h with ⟨xs, h⟩ | ⟨xs, h⟩ | ⟨xs, h⟩
    · exact ⟨_, .base (.lst h), kit_ty (r := false) (by decide +kernel)⟩
    · exact ⟨_, .base (.tup h), kit_ty (r := false) (by decide +kernel)⟩
    · exact ⟨_, .base (.dK h), kit_ty (r := false) (by decide +kernel)⟩
  | byt b => exact h.elim
  | flt b => exact h.elim
  | ty n => exact h.elim
theorem kn_bool {v : V} (h : Kn H v) : ∃ t, TyX K H v t ∧ PySem.W.kitOne K t (.type "bool") = some (isB v) := by
  cases v with
  | non => exact ⟨_, .base .non, kit_ty (r := false) (by decide +kernel)⟩
  | bl b => exact ⟨_, .base (.bl b), kit_ty (r := true) (by decide +kernel)⟩
  | int i => exact ⟨_, .base (.int i), kit_ty (r := false) (by decide +kernel)⟩
  | str x => exact ⟨_, .base (.str x), kit_ty (r := false) (by decide +kernel)⟩
  | ref a =>
    rcases h with ⟨xs, h⟩ | ⟨xs, h⟩ | ⟨xs, h⟩
    · exact ⟨_, .base (.lst h), kit_ty (r := false) (by decide +kernel)⟩
    · exact ⟨_, .base (.tup h), kit_ty (r := false) (by decide +kernel)⟩
    · exact ⟨_, .base (.dK h), kit_ty (r := false) (by decide +kernel)⟩
  | byt b => exact h.elim
  | flt b => exact h.elim
  | ty n => exact h.elim
theorem kn_tup {v : V} (h : Kn H v) : ∃ t, TyX K H v t ∧ PySem.W.kitOne K t (.type "tuple") = some (isT H v) := by
  cases v with
  | non => exact ⟨_, .base .non, kit_ty (r := false) (by decide +kernel)⟩
  | bl b => exact ⟨_, .base (.bl b), kit_ty (r := false) (by decide +kernel)⟩
  | int i => exact ⟨_, .base (.int i), kit_ty (r := false) (by decide +kernel)⟩
  | str x => exact ⟨_, .base (.str x), kit_ty (r := false) (by decide +kernel)⟩
  | ref a =>
    unfold isT
    rcases h with ⟨xs, h⟩ | ⟨xs, h⟩ | ⟨xs, h⟩
    · exact ⟨_, .base (.lst h), by simp only [h]; exact kit_ty (r := false) (by decide +kernel)⟩
    · exact ⟨_, .base (.tup h), by simp only [h]; exact kit_ty (r := true) (by decide +kernel)⟩
    · exact ⟨_, .base (.dK h), by simp only [h]; exact kit_ty (r := false) (by decide +kernel)⟩
  | byt b => exact h.elim
  | flt b => exact h.elim
  | ty n => exact h.elim
theorem isT_at {v : V} (h : isT H v = true) : ∃ a xs, v = .ref a ∧ H a = some (.tup xs) := by
  cases v with
  | ref a =>
    unfold isT at h
    cases e : H a with
    | none => simp only [e] at h; cases h
    | some o =>
      cases o with
      | tup xs => exact ⟨a, xs, rfl, e⟩
      | _ => simp only [e] at h; cases h
  | _ => cases h
theorem isT_of {a : Addr} {xs : List V} (h : H a = some (.tup xs)) : isT H (.ref a) = true := by
  unfold isT
  simp only [h]
end
section
variable {P : Program} {w : World} {K : PySem.W.Frag} {mg : Str → Option Value} {base : Heap}
def spWhole : Sp := fun vs H Q _ => ∃ v, vs = [v] ∧ Kn H v ∧ Q (.bl (isW v)) H
theorem and_whole {v : V} : (isI v && !isB v) = isW v := by cases v <;> rfl
theorem ok_is_whole {f : Addr} {fd : FuncData} (F : Fun K "is_whole" "is_whole" s_is_whole f fd) (M : Free mg) : FnOk P w K mg base CX0 1 f fd ["thing"] spWhole := by
  refine F.ok sc_is_whole (fun vs H Q E h => ?_) (fun cdv A outer s H vs Q E hr h => ?_)
  · obtain ⟨v, rfl, _⟩ := h
    rfl
  · obtain ⟨v, rfl, hk, q⟩ := h
    refine ⟨_, (pss_one (ps_ret (pe_and (pe_callB call_isi (by rfl) M.isinstance (by decide +kernel) (pa_cons (pv 0) (pa_cons (pe_bltn (v := .ty "int") (by rfl) M.int (by decide +kernel) rfl) pa_nil))) (pe_one (pe_not (pe_callB call_isi (by rfl) M.isinstance (by decide +kernel) (pa_cons (pv 0) (pa_cons (pe_bltn (v := .ty "bool") (by rfl) M.bool (by decide +kernel) rfl) pa_nil)))))))), ?_⟩
    obtain ⟨t1, h1, e1⟩ := kn_int (K := K) hk
    obtain ⟨t2, h2, e2⟩ := kn_bool (K := K) hk
    refine ⟨v, rfl, v, _, t1, _, _, rfl, .ty "int", h1, e1, _, rfl, ?_⟩
    rw [← and_whole] at q
    cases hi : isI v with
    | false =>
      rw [hi] at q
      exact q
    | true =>
      rw [hi] at q
      exact ⟨v, rfl, v, _, t2, _, _, rfl, .ty "bool", h2, e2, _, rfl, q⟩
def wfrom (lo : Int) : V → Bool
  | .int i => decide (lo ≤ i)
  | _ => false
def parts (H : Hp) : V → Option (List V)
  | .ref a => match H a with
    | some (.tup xs) => some xs
    | _ => none
  | _ => none
theorem parts_of' {H : Hp} {a : Addr} {xs : List V} (h : H a = some (.tup xs)) : parts H (.ref a) = some xs := by
  unfold parts
  simp only [h]
theorem parts_none {H : Hp} {v : V} (h : isT H v = false) : parts H v = none := by
  cases v with
  | ref a =>
    unfold isT at h
    unfold parts
    cases e : H a with
    | none => simp only [e]
    | some o =>
      cases o with
      | tup xs => simp only [e] at h; cases h
      | _ => simp only [e]
  | _ => rfl
def lenIs (H : Hp) (v : V) (n : Int) : Bool := match parts H v with
  | some xs => decide ((xs.length : Int) = n)
  | none => false
def spTupleOf : Sp := fun vs H Q _ => ∃ n v, vs = [.int n, v] ∧ Kn H v ∧ Q (.bl (lenIs H v n)) H
theorem dec_int (a b : Int) : decide (V.int a = V.int b) = decide (a = b) := by
  by_cases h : a = b
  · rw [decide_eq_true h, h, decide_eq_true rfl]
  · rw [decide_eq_false h, decide_eq_false (fun z => h (V.int.inj z))]
theorem ok_is_tuple_of {f : Addr} {fd : FuncData} (F : Fun K "is_tuple_of" "is_tuple_of" s_is_tuple_of f fd) (M : Free mg) : FnOk P w K mg base CX0 1 f fd ["length", "thing"] spTupleOf := by
  refine F.ok sc_is_tuple_of (fun vs H Q E h => ?_) (fun cdv A outer s H vs Q E hr h => ?_)
  · obtain ⟨n, v, rfl, _⟩ := h
    rfl
  · obtain ⟨n, v, rfl, hk, q⟩ := h
    refine ⟨_, (pss_one (ps_ret (pe_and (pe_callB call_isi (by rfl) M.isinstance (by decide +kernel) (pa_cons (pv 1) (pa_cons (pe_bltn (v := .ty "tuple") (by rfl) M.tuple (by decide +kernel) rfl) pa_nil))) (pe_one (pe_cmpR op_eq (pe_callB call_len_seq (by rfl) M.len PySem.boot_len (pa_cons (pv 1) pa_nil)) (pv 0) (nomark _)))))), ?_⟩
    obtain ⟨t1, h1, e1⟩ := kn_tup (K := K) hk
    refine ⟨v, rfl, v, _, t1, _, _, rfl, .ty "tuple", h1, e1, _, rfl, ?_⟩
    unfold lenIs at q
    cases hi : isT H v with
    | false =>
      rw [parts_none hi] at q
      exact q
    | true =>
      obtain ⟨a, xs, rfl, e⟩ := isT_at hi
      rw [parts_of' e] at q
      refine ⟨.ref a, rfl, a, xs, rfl, .inr (SqT.of e), .int n, rfl, rfl, ?_⟩
      rw [dec_int]
      exact q
/-! ### a def whose code object stands at c: its own table is at Pt -/
structure FunC (K : PySem.W.Frag) (x qual : Str) (st : Stmt) (f : Addr) (fd : FuncData) (c : Addr) : Prop where
  ex : ∃ (oc : Value) (od : Option Addr) (kV doc pm : Value) (an : Option Addr) (ct : Value) (osl : Array (Option Value)),
    fd = PySem.W.fnOf x qual (defArgs st) (defBody st) (defScope st) .none kV doc pm an (.ref c) ct ∧ K.lookup f = some ⟨oc, od, .func fd, osl⟩ ∧ PySem.W.codeIn K (.ref c) qual = true
  kp : PySem.W.keepIn K (.ref f) = true
theorem FunC.ok {x qual : Str} {st : Stmt} {f c : Addr} {fd : FuncData} {N ps : List Str} {k : Nat} {sp : Sp} (F : FunC K x qual st f fd c) (S : FnScope N ps (defScope st)) (len : ∀ vs H Q E, sp vs H Q E → vs.length = ps.length)
    (hbody : ∀ (A : Around) (outer : List Env) (s : Shared) (H : Hp) (vs : List V) (Q : VK) (E : XK), Room k (A.deeper (envOfC qual (defScope st) s.heap.objs.size f (.ref c))) → sp vs H Q E →
      ∃ t, PSs (cxOf CX0 P w K mg base N qual (defScope st) f (.ref c) A outer s H E).nox (defBody st) t ∧ t { nx := fun _ H' => Q .non H', rt := Q } (start N vs) H) : FnOk P w K mg base CX0 (k + 1) f fd ps sp := by
  obtain ⟨oc, od, kV, doc, pm, an, ct, osl, rfl, lk, hcd⟩ := F.ex
  refine fn_of lk hcd S len fun A outer s H vs Q E hr hsp => ?_
  obtain ⟨t, h, q⟩ := hbody A outer s H vs Q E hr hsp
  exact ⟨t, h.nox, q⟩
theorem FunC.fn {x qual : Str} {st : Stmt} {f c : Addr} {fd : FuncData} (F : FunC K x qual st f fd c) : Fun K x qual st f fd := by
  obtain ⟨oc, od, kV, doc, pm, an, ct, osl, rfl, lk, hcd⟩ := F.ex
  exact ⟨⟨oc, od, kV, doc, pm, an, _, ct, osl, rfl, lk, hcd⟩, F.kp⟩
theorem parts_at {H : Hp} {v : V} {xs : List V} (h : parts H v = some xs) : ∃ a, v = .ref a ∧ H a = some (.tup xs) := by
  cases v with
  | ref a =>
    unfold parts at h
    cases e : H a with
    | none => simp only [e] at h; cases h
    | some o =>
      cases o with
      | tup ys => simp only [e] at h; cases h; exact ⟨a, rfl, e⟩
      | _ => simp only [e] at h; cases h
  | _ => cases h
end
/-! ### all but the tables is kept -/
structure Kt (Ps : List Addr) (H H' : Hp) : Prop where
  tab : ∀ P ∈ Ps, GxR.TabG H' P
  keep : ∀ b o, b ∉ Ps → H b = some o → H' b = some o
def Tabs (Ps : List Addr) (H : Hp) : Prop := ∀ P ∈ Ps, GxR.TabG H P
theorem Kt.refl {Ps : List Addr} {H : Hp} (h : Tabs Ps H) : Kt Ps H H := ⟨h, fun _ _ _ e => e⟩
theorem Kt.trans {Ps : List Addr} {H H1 H2 : Hp} (a : Kt Ps H H1) (b : Kt Ps H1 H2) : Kt Ps H H2 := ⟨b.tab, fun x o h e => b.keep x o h (a.keep x o h e)⟩
theorem Kt.same {Ps : List Addr} {H H' : Hp} (h : Tabs Ps H) (s : Same H H') : Kt Ps H H' := ⟨fun P hP => by obtain ⟨ps, e, t⟩ := h P hP; exact ⟨ps, s _ _ e, t⟩, fun b o _ e => s b o e⟩
theorem Kt.tabbed {Ps : List Addr} {P : Addr} {H H' : Hp} (h : Tabs Ps H) (hP : P ∈ Ps) (t : GxR.Tabbed P H H') : Kt Ps H H' := by
  refine ⟨fun Q hQ => ?_, fun b o hb e => ?_⟩
  · by_cases e : Q = P
    · rw [e]
      exact t.1
    · obtain ⟨ps, e1, t1⟩ := h Q hQ
      exact ⟨ps, by rw [t.2 Q e]; exact e1, t1⟩
  · rw [t.2 b (fun z => hb (by rw [z]; exact hP))]
    exact e
theorem Tabs.out {Ps : List Addr} {H : Hp} {a : Addr} {o : HO} (t : Tabs Ps H) (h : H a = some o) (no : ∀ ps, o ≠ .tbl ps) : a ∉ Ps := fun z => by
  obtain ⟨ps, e, _⟩ := t a z
  rw [e] at h
  cases h
  exact no _ rfl
theorem Kt.tup {Ps : List Addr} {a : Addr} {H H' : Hp} {xs : List V} (k : Kt Ps H H') (t : Tabs Ps H) (h : H a = some (.tup xs)) : H' a = some (.tup xs) := k.keep a _ (t.out h fun _ z => by cases z) h
theorem Kt.lst {Ps : List Addr} {a : Addr} {H H' : Hp} {xs : List V} (k : Kt Ps H H') (t : Tabs Ps H) (h : H a = some (.lst xs)) : H' a = some (.lst xs) := k.keep a _ (t.out h fun _ z => by cases z) h
theorem Kt.dct {Ps : List Addr} {a : Addr} {H H' : Hp} {xs : List (Key × V)} (k : Kt Ps H H') (t : Tabs Ps H) (h : H a = some (.dK xs)) : H' a = some (.dK xs) := k.keep a _ (t.out h fun _ z => by cases z) h
theorem Kt.tk {Ps : List Addr} {H H' : Hp} (k : Kt Ps H H') (t : Tabs Ps H) : Tk H H' := fun _ _ e => k.tup t e
theorem Kt.kn {Ps : List Addr} {H H' : Hp} (k : Kt Ps H H') (t : Tabs Ps H) {v : V} (h : Kn H v) : Kn H' v := by
  cases v with
  | ref a =>
    rcases h with ⟨xs, h⟩ | ⟨xs, h⟩ | ⟨xs, h⟩
    · exact .inl ⟨xs, k.lst t h⟩
    · exact .inr (.inl ⟨xs, k.tup t h⟩)
    · exact .inr (.inr ⟨xs, k.dct t h⟩)
  | _ => exact h
theorem Tabs.same {Ps : List Addr} {H H' : Hp} (t : Tabs Ps H) (s : Same H H') : Tabs Ps H' := (Kt.same t s).tab
theorem Tabs.new {Ps : List Addr} {H : Hp} {a : Addr} {o : HO} (t : Tabs Ps H) (h : H a = none) : Tabs Ps (upd H a o) := t.same (same_new h)
/-! ### x in t of data of any depth -/
def rInT (K : PySem.W.Frag) : R2 := fun x y H Q => ∃ d ds, Dp K H x d ∧ Dp K H y (.tuple ds) ∧ SeqAt.shaped d = true ∧ SeqAt.shaped (.tuple ds) = true ∧ Q (.bl (ds.any fun z => PyData.eqv z d)) H
theorem op_inTup {X : Cx} (hu : X.A.units + 65 < cLine) : OpR X (compareOp .In) (rInT X.K) := by
  intro pins s σ H x y v u Q I rx ry want
  obtain ⟨d, ds, hd, he, sd, se, q⟩ := want
  obtain ⟨as, r1⟩ := Dp.reads I d x v hd rx
  obtain ⟨bs, r2⟩ := Dp.reads I (.tuple ds) y u he ry
  have lay : PyData.canLayAll0 ds = true := by
    have z := SeqAt.canLay_of_shaped se
    rw [PyData.canLay0] at z
    exact z
  have deep := SeqAt.depth_of_shaped sd
  exact SeqAt.in_tuple_reads r2 r1 lay (SeqAt.canLay_of_shaped sd) (by omega) ⟨.bl _, H, I, rfl, q⟩
/-! ### ties, walks, parts: the mathematics -/
def Adj (ts : List Tie) (a b : Int) (foe : Bool) : Prop := ∃ t ∈ ts, t.foe = foe ∧ ((t.one = a ∧ t.other = b) ∨ (t.one = b ∧ t.other = a))
theorem Adj.symm {ts : List Tie} {a b : Int} {k : Bool} (h : Adj ts a b k) : Adj ts b a k := by
  obtain ⟨t, ht, e, h⟩ := h
  exact ⟨t, ht, e, h.symm⟩
/-- a walk with so many foes, even or odd -/
inductive RP (ts : List Tie) (a : Int) : Int → Bool → Prop
  | nil : RP ts a a false
  | step {b c : Int} {p k : Bool} : RP ts a b p → Adj ts b c k → RP ts a c (p ^^ k)
def Rch (ts : List Tie) (a b : Int) : Prop := ∃ p, RP ts a b p
theorem RP.trans {ts : List Tie} {a b c : Int} {p q : Bool} (h : RP ts a b p) (g : RP ts b c q) : RP ts a c (p ^^ q) := by
  induction g with
  | nil =>
    rw [Bool.xor_false]
    exact h
  | step _ k ih =>
    rw [← Bool.xor_assoc]
    exact ih.step k
theorem RP.one {ts : List Tie} {a b : Int} {k : Bool} (h : Adj ts a b k) : RP ts a b k := by
  have q := RP.nil.step h
  rw [Bool.false_xor] at q
  exact q
theorem RP.symm {ts : List Tie} {a b : Int} {p : Bool} (h : RP ts a b p) : RP ts b a p := by
  induction h with
  | nil => exact .nil
  | step _ k ih =>
    have q := (RP.one k.symm).trans ih
    rw [Bool.xor_comm] at q
    exact q
theorem Rch.refl {ts : List Tie} {a : Int} : Rch ts a a := ⟨_, .nil⟩
theorem Rch.symm {ts : List Tie} {a b : Int} (h : Rch ts a b) : Rch ts b a := by
  obtain ⟨p, h⟩ := h
  exact ⟨p, h.symm⟩
theorem Rch.trans {ts : List Tie} {a b c : Int} (h : Rch ts a b) (g : Rch ts b c) : Rch ts a c := by
  obtain ⟨p, h⟩ := h
  obtain ⟨q, g⟩ := g
  exact ⟨_, h.trans g⟩
theorem Rch.adj {ts : List Tie} {a b : Int} {k : Bool} (h : Adj ts a b k) : Rch ts a b := ⟨_, RP.one h⟩
theorem Rch.ind {ts : List Tie} {a b : Int} (C : Int → Prop) (h : Rch ts a b) (h0 : C a) (hs : ∀ x y k, C x → Adj ts x y k → C y) : C b := by
  obtain ⟨p, h⟩ := h
  induction h with
  | nil => exact h0
  | step _ k ih => exact hs _ _ _ ih k
theorem Adj.rng {ts : List Tie} {n a b : Int} {k : Bool} (ok : ∀ t ∈ ts, TieOk n t) (h : Adj ts a b k) : 0 ≤ b ∧ b < n := by
  obtain ⟨t, ht, _, h⟩ := h
  obtain ⟨h1, h2, h3, h4, _⟩ := ok t ht
  rcases h with ⟨e1, e2⟩ | ⟨e1, e2⟩
  · omega
  · omega
theorem Rch.rng {ts : List Tie} {n a b : Int} (ok : ∀ t ∈ ts, TieOk n t) (ha : 0 ≤ a ∧ a < n) (h : Rch ts a b) : 0 ≤ b ∧ b < n := h.ind (fun x => 0 ≤ x ∧ x < n) ha fun _ _ _ _ k => k.rng ok
def leader (ts : List Tie) (s : Int) : Prop := ∀ q, Rch ts s q → s ≤ q
/-- rising lists of the same numbers are one -/
theorem rising_ext : ∀ {xs ys : List Int}, xs.Pairwise (· < ·) → ys.Pairwise (· < ·) → (∀ z, z ∈ xs ↔ z ∈ ys) → xs = ys
  | [], [], _, _, _ => rfl
  | [], y :: ys, _, _, h => by have := (h y).mpr (by simp); simp at this
  | x :: xs, [], _, _, h => by have := (h x).mp (by simp); simp at this
  | x :: xs, y :: ys, hx, hy, h => by
    rw [List.pairwise_cons] at hx hy
    have e : x = y := by
      have h1 := (h x).mp (by simp)
      have h2 := (h y).mpr (by simp)
      rcases List.mem_cons.mp h1 with e | e
      · exact e
      · rcases List.mem_cons.mp h2 with e' | e'
        · exact e'.symm
        · have := hx.1 y e'
          have := hy.1 x e
          omega
    subst e
    rw [rising_ext hx.2 hy.2 fun z => ?_]
    constructor
    · intro hz
      rcases List.mem_cons.mp ((h z).mp (List.mem_cons_of_mem _ hz)) with e | e
      · have := hx.1 z hz
        omega
      · exact e
    · intro hz
      rcases List.mem_cons.mp ((h z).mpr (List.mem_cons_of_mem _ hz)) with e | e
      · have := hy.1 z hz
        omega
      · exact e
/-- 0, 1, .., n - 1 -/
def rng (n : Nat) : List Int := (List.range n).map fun (i : Nat) => (i : Int)
theorem mem_rng {n : Nat} {z : Int} : z ∈ rng n ↔ 0 ≤ z ∧ z < n := by
  unfold rng
  rw [List.mem_map]
  constructor
  · rintro ⟨i, hi, rfl⟩
    have := List.mem_range.mp hi
    omega
  · rintro ⟨h1, h2⟩
    exact ⟨z.toNat, List.mem_range.mpr (by omega), by omega⟩
theorem rng_rising (n : Nat) : (rng n).Pairwise (· < ·) := by
  unfold rng
  rw [List.pairwise_map]
  exact List.pairwise_lt_range.imp (by intro a b h; omega)
theorem rng_succ (n : Nat) : rng (n + 1) = rng n ++ [(n : Int)] := by
  unfold rng
  rw [List.range_succ, List.map_append]
  rfl
theorem rng_length (n : Nat) : (rng n).length = n := by
  unfold rng
  rw [List.length_map, List.length_range]
open Classical in
/-- the part of s -/
noncomputable def partOf (ts : List Tie) (n : Nat) (s : Int) : List Int := (rng n).filter fun p => decide (Rch ts s p)
open Classical in
/-- the parts by their first places, below i -/
noncomputable def partsTo (ts : List Tie) (n i : Nat) : List (List Int) := ((rng i).filter fun s => decide (leader ts s)).map (partOf ts n)
open Classical in
theorem partsTo_succ (ts : List Tie) (n i : Nat) : partsTo ts n (i + 1) = partsTo ts n i ++ (if leader ts i then [partOf ts n i] else []) := by
  unfold partsTo
  rw [rng_succ, List.filter_append, List.map_append]
  congr 1
  by_cases h : leader ts (i : Int)
  · rw [if_pos h, List.filter_cons, if_pos (decide_eq_true h)]
    rfl
  · rw [if_neg h, List.filter_cons, if_neg (by simpa using h)]
    rfl
theorem part_rising (ts : List Tie) (n : Nat) (s : Int) : (partOf ts n s).Pairwise (· < ·) := (rng_rising n).filter _
theorem mem_part {ts : List Tie} {n : Nat} {s z : Int} : z ∈ partOf ts n s ↔ (0 ≤ z ∧ z < n) ∧ Rch ts s z := by
  unfold partOf
  rw [List.mem_filter, mem_rng]
  simp
/-! ### the least place that each comes to, gone over again and again -/
def relax (f : Int → Int) (t : Tie) : Int → Int := fun x => if x = t.one ∨ x = t.other then min (f t.one) (f t.other) else f x
def rounds (ts : List Tie) : Nat → Int → Int
  | 0 => fun x => x
  | r + 1 => ts.foldl relax (rounds ts r)
theorem relax_le (f : Int → Int) (t : Tie) (x : Int) : relax f t x ≤ f x := by
  unfold relax
  split
  · rename_i h
    rcases h with rfl | rfl <;> omega
  · exact Int.le_refl _
theorem fold_le : ∀ (l : List Tie) (f : Int → Int) (x : Int), l.foldl relax f x ≤ f x
  | [], _, _ => Int.le_refl _
  | t :: l, f, x => Int.le_trans (fold_le l (relax f t) x) (relax_le f t x)
theorem fold_tie : ∀ (l : List Tie) (f : Int → Int) (t : Tie), t ∈ l → l.foldl relax f t.one ≤ min (f t.one) (f t.other) ∧ l.foldl relax f t.other ≤ min (f t.one) (f t.other)
  | t' :: l, f, t, h => by
    rcases List.mem_cons.mp h with e | e
    · subst e
      have h1 := fold_le l (relax f t) t.one
      have h2 := fold_le l (relax f t) t.other
      have e1 : relax f t t.one = min (f t.one) (f t.other) := by unfold relax; rw [if_pos (.inl rfl)]
      have e2 : relax f t t.other = min (f t.one) (f t.other) := by unfold relax; rw [if_pos (.inr rfl)]
      rw [e1] at h1
      rw [e2] at h2
      exact ⟨h1, h2⟩
    · have ih := fold_tie l (relax f t') t e
      have h1 := relax_le f t' t.one
      have h2 := relax_le f t' t.other
      exact ⟨Int.le_trans ih.1 (by omega), Int.le_trans ih.2 (by omega)⟩
theorem fold_rch {ts : List Tie} : ∀ (l : List Tie) (f : Int → Int), (∀ t ∈ l, t ∈ ts) → (∀ x, Rch ts x (f x)) → ∀ x, Rch ts x (l.foldl relax f x)
  | [], _, _, h => h
  | t :: l, f, hl, h => fold_rch l (relax f t) (fun t' ht => hl t' (List.mem_cons_of_mem _ ht)) fun x => by
    have ad : Rch ts t.one t.other := Rch.adj (k := t.foe) ⟨t, hl t (by simp), rfl, .inl ⟨rfl, rfl⟩⟩
    unfold relax
    split
    · rename_i hx
      have key : Rch ts x t.one ∧ Rch ts x t.other := by
        rcases hx with e | e <;> subst e
        · exact ⟨Rch.refl, ad⟩
        · exact ⟨ad.symm, Rch.refl⟩
      rcases Int.le_total (f t.one) (f t.other) with q | q
      · rw [Int.min_eq_left q]
        exact key.1.trans (h _)
      · rw [Int.min_eq_right q]
        exact key.2.trans (h _)
    · exact h x
theorem rounds_rch (ts : List Tie) : ∀ (r : Nat) (x : Int), Rch ts x (rounds ts r x)
  | 0, _ => Rch.refl
  | r + 1, x => fold_rch ts _ (fun _ h => h) (rounds_rch ts r) x
theorem filter_lt {p q : Int → Bool} : ∀ {l : List Int}, (∀ x ∈ l, q x = true → p x = true) → (∃ x ∈ l, p x = true ∧ q x = false) → (l.filter q).length < (l.filter p).length
  | [], _, ⟨x, hx, _⟩ => by simp at hx
  | y :: l, hi, ⟨x, hx, hp, hq⟩ => by
    have mono : (l.filter q).length ≤ (l.filter p).length := by
      have hi' : ∀ x ∈ l, q x = true → p x = true := fun x h => hi x (List.mem_cons_of_mem _ h)
      clear hi hx hp hq
      induction l with
      | nil => exact Nat.le_refl _
      | cons z l ih =>
        have ih := ih fun x h => hi' x (List.mem_cons_of_mem _ h)
        rw [List.filter_cons, List.filter_cons]
        have hz := hi' z (by simp)
        cases h1 : q z <;> cases h2 : p z <;> simp_all <;> omega
    rw [List.filter_cons, List.filter_cons]
    rcases List.mem_cons.mp hx with e | e
    · subst e
      rw [hq, hp]
      simp
      omega
    · have ih := filter_lt (l := l) (fun x h => hi x (List.mem_cons_of_mem _ h)) ⟨x, e, hp, hq⟩
      have hy := hi y (by simp)
      cases h1 : q y <;> cases h2 : p y <;> simp_all <;> omega
open Classical in
/-- behind as many rounds as there are places each has its part's least place -/
theorem rounds_least {ts : List Tie} {n : Nat} (ok : ∀ t ∈ ts, TieOk n t) {m p : Int} (hm : leader ts m) (h0 : 0 ≤ m ∧ m < n) (hp : Rch ts m p) : rounds ts n p = m := by
  have ge : ∀ r x, Rch ts m x → m ≤ rounds ts r x := fun r x hx => hm _ (hx.trans (rounds_rch ts r x))
  have mono : ∀ r x, rounds ts (r + 1) x ≤ rounds ts r x := fun r x => fold_le ts _ x
  have atm : ∀ r, rounds ts r m = m := fun r => by
    have h1 := ge r m Rch.refl
    have h2 : rounds ts r m ≤ m := by
      induction r with
      | zero => exact Int.le_refl _
      | succ r ih => exact Int.le_trans (mono r m) (ih (ge r m Rch.refl))
    omega
  have cnt : ∀ r, ((rng n).filter fun x => decide (Rch ts m x ∧ rounds ts r x ≠ m)).length ≤ n - r := fun r => by
    induction r with
    | zero =>
      refine Nat.le_trans (List.length_filter_le _ _) ?_
      rw [rng_length]
      omega
    | succ r ih =>
      by_cases hex : ∃ x, Rch ts m x ∧ rounds ts r x ≠ m
      · obtain ⟨x, hx, hne⟩ := hex
        -- an edge over which it comes
        have edge : ∃ a b k, Rch ts m a ∧ rounds ts r a = m ∧ Adj ts a b k ∧ rounds ts r b ≠ m := by
          by_cases hn : ∃ a b k, Rch ts m a ∧ rounds ts r a = m ∧ Adj ts a b k ∧ rounds ts r b ≠ m
          · exact hn
          · exfalso
            refine hne (hx.ind (fun y => Rch ts m y ∧ rounds ts r y = m) ⟨Rch.refl, atm r⟩ fun a b k ha k' => ⟨ha.1.trans (Rch.adj k'), ?_⟩).2
            by_cases hb : rounds ts r b = m
            · exact hb
            · exact absurd ⟨a, b, k, ha.1, ha.2, k', hb⟩ hn
        obtain ⟨a, b, k, ha, ha2, hab, hb⟩ := edge
        have hmb : Rch ts m b := ha.trans (Rch.adj hab)
        have hb' : rounds ts (r + 1) b = m := by
          have h1 := ge (r + 1) b hmb
          obtain ⟨t, ht, _, h⟩ := hab
          have ft := fold_tie ts (rounds ts r) t ht
          have h2 : rounds ts (r + 1) b ≤ m := by
            rcases h with ⟨e1, e2⟩ | ⟨e1, e2⟩
            · have q := ft.2
              rw [e1, e2, ha2] at q
              exact Int.le_trans q (by omega)
            · have q := ft.1
              rw [e1, e2, ha2] at q
              exact Int.le_trans q (by omega)
          omega
        have lt := filter_lt (p := fun x => decide (Rch ts m x ∧ rounds ts r x ≠ m)) (q := fun x => decide (Rch ts m x ∧ rounds ts (r + 1) x ≠ m)) (l := rng n) (fun x _ hq => by
          have hq := of_decide_eq_true hq
          refine decide_eq_true ⟨hq.1, fun z => hq.2 ?_⟩
          have h1 := ge (r + 1) x hq.1
          have h2 := mono r x
          omega) ⟨b, mem_rng.mpr (hmb.rng ok h0), decide_eq_true ⟨hmb, hb⟩, decide_eq_false fun z => z.2 hb'⟩
        omega
      · have e : (rng n).filter (fun x => decide (Rch ts m x ∧ rounds ts (r + 1) x ≠ m)) = [] := by
          rw [List.filter_eq_nil_iff]
          intro x _ hq
          have hq := of_decide_eq_true hq
          refine hex ⟨x, hq.1, fun z => hq.2 ?_⟩
          have h1 := ge (r + 1) x hq.1
          have h2 := mono r x
          omega
        rw [e]
        exact Nat.zero_le _
  have c := cnt n
  rw [Nat.sub_self] at c
  have e := List.eq_nil_of_length_eq_zero (Nat.le_zero.mp c)
  by_cases hne : rounds ts n p = m
  · exact hne
  · rw [List.filter_eq_nil_iff] at e
    exact absurd (decide_eq_true ⟨hp, hne⟩) (e p (mem_rng.mpr (hp.rng ok h0)))
open Classical in
/-- each has a least place -/
theorem has_leader {ts : List Tie} {n : Nat} (ok : ∀ t ∈ ts, TieOk n t) {p : Int} (h0 : 0 ≤ p ∧ p < n) : ∃ m, leader ts m ∧ (0 ≤ m ∧ m < n) ∧ Rch ts m p := by
  have key : ∀ (k : Nat) (x : Int), x = k → Rch ts p x → ∃ m, leader ts m ∧ (0 ≤ m ∧ m < n) ∧ Rch ts m p := by
    intro k
    induction k using Nat.strongRecOn with
    | ind k ih =>
      intro x hx hr
      have hxr := hr.rng ok h0
      by_cases hl : leader ts x
      · exact ⟨x, hl, hxr, hr.symm⟩
      · have hl' : ∃ q, Rch ts x q ∧ q < x := by
          by_cases h : ∃ q, Rch ts x q ∧ q < x
          · exact h
          · exfalso
            refine hl fun q hq => ?_
            by_cases h' : q < x
            · exact absurd ⟨q, hq, h'⟩ h
            · omega
        obtain ⟨q, hq, hlt⟩ := hl'
        have hqr := hq.rng ok hxr
        exact ih q.toNat (by omega) q (by omega) (hr.trans hq)
  exact key p.toNat p (by omega) Rch.refl
/-! ### tuples that are known to have no dict: their methods -/
def NoD (H : Hp) (p : Addr) (xs : List V) : Prop := ∃ o : Obj, o.dict = none ∧ H p = some (.frz o (.tup xs))
theorem NoD.same {H H' : Hp} {p : Addr} {xs : List V} (h : NoD H p xs) (s : Same H H') : NoD H' p xs := by
  obtain ⟨o, h1, h2⟩ := h
  exact ⟨o, h1, s _ _ h2⟩
theorem NoD.sq {K : PySem.W.Frag} {H : Hp} {p : Addr} {xs : List V} (h : NoD H p xs) : SqT K H p xs := by
  obtain ⟨o, h1, h2⟩ := h
  exact .inl (.inr ⟨o, h2⟩)
section
variable {X : Cx}
theorem call_tuple_ofZ : CallR X (.type "tuple") (fun xs H Q => ∃ p ys, xs = [.ref p] ∧ SqL X.K H p ys ∧ ∀ l o, o.dict = none → H l = none → Q (.ref l) (upd H l (.frz o (.tup ys)))) := by
  intro pins s σ H xs us Q I r h
  obtain ⟨p, ys, rfl, hq, q⟩ := h
  obtain ⟨u, rfl, rx⟩ := vals1 r
  cases rx
  obtain ⟨its, r', pl, hz⟩ := I.list hq
  have hlen := r'.length
  refine call_tuple_list pl.isList (fun h' kp => ?_) (by simp only [List.size_toArray] <;> omega)
  have I1 : Inv X pins σ H { s with heap := h' } := I.kept (t' := s.toks) kp
  have I2 : Inv X pins σ (upd H h'.objs.size (.frz { cls := .type "tuple", data := .seq its.toArray } (.tup ys))) { s with heap := h'.push { cls := .type "tuple", data := .seq its.toArray } } :=
    I1.laid (t' := s.toks) (fun b o e => Heap.get?_push_of_some _ e) (Nat.le_refl _) (show ObjOk X.prog X.w _ _ _ (.frz { cls := .type "tuple", data := .seq its.toArray } (.tup ys)) from ⟨Heap.get?_push_size _ rfl, hz, its, r', IsTup.new _ _⟩)
  exact ⟨.ref h'.objs.size, _, I2, rfl, q _ _ rfl (I1.hok.fresh (Nat.le_refl _))⟩
def tTupRgZ (te : L2.St → Hp → (Int → Int → Hp → Prop) → Prop) : TE := fun σ H Q => te σ H fun a b H1 => RgOk a b ∧ ∀ q o, o.dict = none → H1 q = none → Q (.ref q) (upd H1 q (.frz o (.tup (rgV a b))))
theorem pe_tupRgZ {e : Expr} {te : L2.St → Hp → (Int → Int → Hp → Prop) → Prop} {p pos : Pos} (hc : X.calm = true) (hg : Gl X "tuple") (hm : X.mg "tuple" = none) (he : PRg X e te) (na : starEach [e] X.env = (false, eval e X.env) :: starEach [] X.env := by rfl) : PE X (.Call (.Name "tuple" p) [e] [] pos) (tTupRgZ te) := by
  refine ⟨fun pins s σ H Q I h => ?_⟩
  refine Call_ (ld_blt I hg hm boot_tuple (PyProof.Rows.callWith_type1 (args_cons (thn (he pins s σ H _ I h) fun x s1 ⟨r, a, b, t, u, v, H1, ex, hr, I1, ok, q⟩ => args_nil ?_) na) na))
  subst ex
  obtain ⟨b1, b2, b3, b4, b5⟩ := ok
  refine call_tuple_range (n := (b - a).toNat) (I1.ok.hd hc) hr (small_one b1 b2 b3 b4) (rangeSize_nat a b) b5 fun h' tk acc hk hi => ?_
  have I2 : Inv X pins σ H1 { s1 with heap := h', toks := tk } := I1.kept hk
  refine ⟨.ref h'.objs.size, upd H1 h'.objs.size (.frz { cls := .type "tuple", data := .seq acc } (.tup (rgV a b))), I2.laid (t' := tk) (fun c o e => Heap.get?_push_of_some _ e) (Nat.le_refl _) (show ObjOk X.prog X.w _ _ _ (.frz { cls := .type "tuple", data := .seq acc } (.tup (rgV a b))) from ⟨Heap.get?_push_size _ rfl, ?_, acc.toList, vals_rg hi, ?_⟩), rfl, q _ _ rfl (I2.hok.fresh (Nat.le_refl _))⟩
  · rw [rgV_length, sizeLine_eq]; omega
  · rw [Array.toArray_toList]; exact IsTup.new _ _
/-- a method of such a tuple -/
def tBMT (r : V → List V → Hp → VK → Prop) (to : TE) (t : TA) : TE := fun σ H Q => to σ H fun x H1 => (∃ p xs, x = .ref p ∧ NoD H1 p xs) ∧ t σ H1 fun xs H2 => r x xs H2 Q
theorem pe_bmT {o e : Expr} {es : List Expr} {to : TE} {t : TA} {name : Str} {apos cpos : Pos} {id : String} {r : V → List V → Hp → VK → Prop} (slot : Slot "tuple" name id) (hty : typeOf (.builtin id) = pure (.type "method_descriptor")) (hm : MtR X id r) (ho : PE X o to) (ha : PA X (e :: es) t)
    (hbase : attributeBase o name X.env (eval o X.env) = eval o X.env := by rfl)
    (hfew : ((backTo cpos (starEach (e :: es) X.env)).all (fun x => !x.1) && (backToKw cpos (keywordEach [] X.env)).all (fun x => x.1.isSome)
      && decide ((e :: es).length + ([] : List Keyword).length + (if ([] : List Keyword).isEmpty then 0 else 1) < 30)) = true := by rfl)
    (hline : (apos.endLine == cpos.line) = true := by rfl) (hs : starEach (e :: es) X.env = (false, eval e X.env) :: starEach es X.env := by rfl) (hplain : (backTo cpos (starEach es X.env)).any (·.1) = false := by rfl) :
    PE X (.Call (.Attribute o name apos) (e :: es) [] cpos) (tBMT r to t) := by
  refine ⟨fun pins s σ H Q I h => ?_⟩
  refine wpAny_Call_method_late hbase hfew hline rfl (thn (ho.run pins s σ H _ I h) fun v s1 ⟨x, H1, I1, r1, ⟨p, xs, ex, ob, od, hp⟩, q1⟩ => ?_)
  subst ex
  obtain rfl : v = Value.ref p := r1
  obtain ⟨e1, hz, its, rv, o2, e2, c2, n2, d2⟩ := (show ObjOk X.prog X.w H1 s1.heap p (.frz ob (.tup xs)) from I1.hok p _ hp)
  rw [e1] at e2
  cases e2
  refine ⟨"tuple", id, PySem.F.plainAttrs_tuple, slot, hty, ⟨ob, e1, c2⟩, fun a ea => ?_, ?_⟩
  · cases ea
    exact ⟨ob, e1, od⟩
  have hA := ha.run cpos pins s1 σ H1 _ I1 q1
  rw [hs] at hA ⊢
  refine Calls.callWith_builtin (by show (false || (backTo cpos (starEach es X.env)).any (·.1)) = false; rw [hplain] <;> rfl) (Calls.evalArgs_plain ?_)
  exact thn hA fun us s2 ⟨vs, H2, I2, r2, q2⟩ => hm pins s2 σ H2 (.ref p) vs (.ref p) us Q I2 rfl r2 q2
def rCntT (K : PySem.W.Frag) : V → List V → Hp → VK → Prop := fun x xs H Q => ∃ (p : Addr) (ns : List Int) (k : Int), x = .ref p ∧ xs = [.int k] ∧ SqT K H p (ns.map V.int) ∧ Q (.int (ns.count k : Nat)) H
theorem mt_tcount : MtR X "tuple.count" (rCntT X.K) := by
  intro pins s σ H x xs v us Q I rx rxs h
  obtain ⟨p, ns, k, rfl, rfl, hs, q⟩ := h
  cases rx
  obtain ⟨u, rfl, ru⟩ := rxs.one
  obtain ⟨t, rfl⟩ := ru
  obtain ⟨its, rv, ⟨⟨cls, dd, data, sl⟩, ho, hc, n, hd⟩, hlen⟩ := I.tuple hs
  simp only at hc hd
  subst hc hd
  have hi := ints_of_vals rv
  refine call_meets PySem.F.slot_tuple_count ⟨_, ho, rfl⟩ PySem.F.entry_tuple_count (PySem.F.args_tuple_count_2 _ _)
    (SeqAt.tuple_countAt p its.toArray n dd sl (.int k t) (eqk k)) ⟨ho, fun y hy => (eqk_gives hi y (by simpa using hy)).at _ _, ?_⟩
  have ec : its.toArray.toList.countP (eqk k) = ns.count k := eqk_count hi
  refine ⟨.int (ns.count k : Nat), H, I.tok _, ⟨s.toks, ?_⟩, q⟩
  show Value.int ((its.toArray.toList.countP (eqk k) : Nat) : Int) s.toks = Value.int ((ns.count k : Nat) : Int) s.toks
  rw [ec]
end
/-! ### zip of two tuples -/
theorem walk_zipT {K : PySem.W.Frag} {a b : Addr} {xs ys : List V} {n : Nat} (hn : n = min xs.length ys.length) : Walk (RZ.ItzT K a b) n (fun H => SqT K H a xs ∧ SqT K H b ys) (YPair (fun i => xs[i]?) (fun i => ys[i]?)) := by
  subst hn
  refine ⟨fun i _ hi q => ?_, fun _ q => ⟨xs, ys, q.1, q.2, by omega⟩, fun i H v H' _ q y => ?_⟩
  · have h1 : i < xs.length := by omega
    have h2 : i < ys.length := by omega
    exact ⟨xs, ys, xs[i], ys[i], q.1, q.2, by simp [h1], by simp [h2]⟩
  · obtain ⟨T, x, z, h1, h2, h3, h4, h5⟩ := y
    exact ⟨T, x, z, h1, h2, h3, h4 xs q.1, h5 ys q.2⟩
/-! ### rows of numbers as data -/
def IntsV (H : Hp) (v : V) (xs : List Int) : Prop := ∃ b, v = .ref b ∧ H b = some (.tup (xs.map V.int))
theorem IntsV.tk {H H' : Hp} (k : Tk H H') {v : V} {xs : List Int} (h : IntsV H v xs) : IntsV H' v xs := by
  obtain ⟨a, rfl, e⟩ := h
  exact ⟨a, rfl, k _ _ e⟩
def intsD (xs : List Int) : PyData := .tuple (xs.map PyData.int)
section
variable {K : PySem.W.Frag} {H : Hp}
theorem dp_ints : ∀ (xs : List Int), DpAll K H (xs.map V.int) (xs.map PyData.int)
  | [] => .nil
  | x :: xs => .cons (.int x) (dp_ints xs)
theorem IntsV.dp {v : V} {xs : List Int} (h : IntsV H v xs) : Dp K H v (intsD xs) := by
  obtain ⟨b, rfl, e⟩ := h
  exact .tup (SqT.of e) (dp_ints xs)
end
theorem lay_ints : ∀ xs : List Int, PyData.canLayAll0 (xs.map PyData.int) = true
  | [] => by simp [PyData.canLayAll0]
  | x :: xs => by simp [PyData.canLayAll0, PyData.canLay0, lay_ints xs]
theorem deep_ints : ∀ xs : List Int, PyData.depthAll (xs.map PyData.int) = 0
  | [] => by simp [PyData.depthAll]
  | x :: xs => by simp [PyData.depthAll, PyData.depth, deep_ints xs]
theorem lay_intsD (xs : List Int) : (intsD xs).canLay0 = true := by
  unfold intsD
  rw [PyData.canLay0]
  exact lay_ints xs
theorem deep_intsD (xs : List Int) : (intsD xs).depth = 1 := by
  unfold intsD
  rw [PyData.depth, deep_ints]
theorem shaped_intsD (xs : List Int) : SeqAt.shaped (intsD xs) = true := by
  unfold SeqAt.shaped
  rw [lay_intsD, deep_intsD]
  rfl
theorem eqv_nil (xs : List Int) : PyData.eqv (intsD xs) (intsD []) = xs.isEmpty := by
  unfold intsD
  rw [PyData.eqv]
  cases xs <;> rfl
/-! ### enumerate of a tuple -/
set_option maxHeartbeats 1000000 in
theorem meets_enumOne {v : Value} {o : Obj} {S : Heap → Prop} (B : Begins v o S) : Meets (Builtin.«enumerate.__new__» ⟨[.type "enumerate", v], []⟩) (fun _ R s => S s.heap ∧
      R (.ok (.ret (.ref (s.heap.push o).objs.size))) { s with heap := (s.heap.push o).push { cls := .type "enumerate", data := .fields #[.none, .bool false, .ref s.heap.objs.size, rawInt 0, .none, .none] } }) :=
  .of_wp fun prog w A R s h => by
    obtain ⟨hp, g, d, tk, os⟩ := s
    obtain ⟨h1, h⟩ := h
    have sub0 := sub_enumerate
    have begun : ∀ {A' : PySem.Around} {E : Value → Shared → Prop} {Q : Value → Shared → Prop}, Q (.ref hp.objs.size) ⟨hp.push o, g, d, tk, os⟩ → wpAny (model prog w) A' (pyIter v) Q E ⟨hp, g, d, tk, os⟩ := fun q => B.iter prog w _ _ ⟨hp, g, d, tk, os⟩ _ h1 q
    wp_walk using begun
    refine wpAny_stack_any fun st => wpAny_pure ?_
    split
    · rename_i c _ _ _ _ _
      cases (c == Value.type "enumerate")
      all_goals
        wp_walk using begun
        exact ⟨_, rfl, h⟩
    · wp_walk using begun
      exact ⟨_, rfl, h⟩
theorem call_enumT {P : Program} {w : World} {A : PySem.Around} {E : Value → Shared → Prop} {s : Shared} {t : Addr} {items : Array Value} {Q : Value → Shared → Prop} (ht : s.heap.IsTuple t items)
    (h : ∀ h', IsEnum h' (s.heap.objs.size + 1) s.heap.objs.size 0 .none → h'.IsTupleIter s.heap.objs.size t 0 → (∀ b o, s.heap.get? b = some o → h'.get? b = some o) → Q (.ref (s.heap.objs.size + 1)) { s with heap := h' }) : wpAny (model P w) A (call (.type "enumerate") [.ref t]) Q E s := by
  refine callType_new PySem.F.called_enumerate (by decide) (PySem.F.typeCall_enumerate_1 _) (PySem.F.newCall_enumerate_1 _) (fun ob => PySem.F.args_object_init_2 ob _) PySem.F.entry_enumerate_new (meets_enumOne (begins_tuple t items)) ⟨ht, ?_⟩
  have size1 := Heap.size_push s.heap { cls := .type "tuple_iterator", data := .fields #[.ref t, .int 0 0] }
  have en := Heap.get?_push_size (s.heap.push { cls := .type "tuple_iterator", data := .fields #[.ref t, .int 0 0] }) (o := { cls := .type "enumerate", data := .fields #[.none, .bool false, .ref s.heap.objs.size, rawInt 0, .none, .none] }) rfl
  rw [size1] at en
  show _ ∧ _
  rw [size1]
  exact ⟨⟨_, en, rfl⟩, h _ en ⟨_, Heap.get?_push_of_some _ (Heap.get?_push_size _ rfl), rfl, rfl⟩ fun b o e => Heap.get?_push_of_some _ (Heap.get?_push_of_some _ e)⟩
/-- the turns: a new pair each, of the number and the part -/
def ItN (K : PySem.W.Frag) (a : Addr) : It where
  go := fun i H => ∃ (xs : List V) (x : V), SqT K H a xs ∧ xs[i]? = some x
  yld := fun i H v H' => ∃ T x, v = .ref T ∧ H T = none ∧ H' = upd H T (.tup [.int (i : Nat), x]) ∧ ∀ xs, SqT K H a xs → xs[i]? = some x
  stop := fun i H => ∃ xs : List V, SqT K H a xs ∧ xs.length ≤ i
theorem turn_enumT {P : Program} {w : World} {K : PySem.W.Frag} {elts : List Expr} {kk : Nat} {tpos : Pos} (a e it : Addr) (n1 : e ≠ it) (n2 : a ≠ it) (n3 : e ≠ a) :
    Turn P w K (.Tuple elts kk tpos) (ItN K a) [e, it] e (fun i h => (∃ old, IsEnum h e it ((i : Nat) : Int) old) ∧ h.IsTupleIter it a i) where
  mem := List.mem_cons_self
  obj := by
    rintro i h ⟨⟨old, he⟩, o, ho, hc, hd⟩ b hb
    rcases List.mem_cons.mp hb with rfl | hb
    · exact ⟨_, he, fun v q => nomatch q⟩
    · rw [List.mem_singleton.mp hb]
      exact ⟨o, ho, fun v q => by rw [hd] at q; cases q⟩
  keep := by
    rintro i h h' ⟨⟨old, he⟩, hit⟩ kp
    exact ⟨⟨old, kp e (by simp) _ he⟩, hit.at fun o q => kp it (by simp) o q⟩
  item := by
    intro X hP hw hK hc i pins s σ H E I hf st hg
    subst hP hw hK
    obtain ⟨⟨old, he⟩, hit⟩ := st
    obtain ⟨xs, x, hq, hx⟩ := hg
    obtain ⟨its, rv, tup, _⟩ := I.tuple hq
    obtain ⟨u, hu, ru⟩ := rv.get hx
    have le := Heap.lt_size he
    have li : it < s.heap.objs.size := let ⟨_, q, _⟩ := hit; Heap.lt_size q
    have lt : i < its.toArray.size := by simpa using (List.getElem?_eq_some_iff.mp hu).1
    refine wpAny_pyNext_enum_itemD (Draws.tuple (A := X.A.in1) (I.ok.hd hc) it a n2 its.toArray) he ⟨hit, tup⟩ lt n1 (by simp [n1, n3]) fun x' h' tk ex out st' new _ kp => ?_
    obtain rfl : u = x' := Option.some.inj (((by simpa using hu) : its.toArray[i]? = some u).symm.trans ex)
    refine ⟨_, rfl, wpAny_letOwnedTupleGo_enum (s := { s with heap := h', toks := tk + 1 }) out fun h2 he2 sb => ?_⟩
    have new2 : h2.get? s.heap.objs.size = some { cls := .type "tuple", data := .seq #[.int i tk, u] } := (sb.2 _ (Nat.ne_of_gt le)).trans new
    have objT : ObjOk X.prog X.w (upd H s.heap.objs.size (.tup [.int (i : Nat), x])) h2 s.heap.objs.size (.tup [.int (i : Nat), x]) := ⟨by show 2 ≤ sizeLine; decide, [.int i tk, u], .cons ⟨_, rfl⟩ (.cons ru .nil), ⟨_, new2, rfl, _, rfl⟩⟩
    have J : Inv X pins σ (upd H s.heap.objs.size (.tup [.int (i : Nat), x])) { s with heap := h2, toks := tk + 1 } := I.turnedNew (ch := [e, it]) (fun b ob hb q => by
      simp only [List.mem_cons, List.not_mem_nil, or_false, not_or] at hb
      exact (sb.2 b hb.1).trans (kp b ob hb.1 hb.2 q)) hf (Nat.le_refl _) objT
    refine ⟨.ref s.heap.objs.size, _, J, rfl, ⟨_, x, rfl, I.hok.fresh (Nat.le_refl _), rfl, fun ys hy => by rw [I.tuple_inj hy hq]; exact hx⟩, ⟨⟨u, ?_⟩, st'.1.at fun o q => (sb.2 it (Ne.symm n1)).trans q⟩, fun b hb => ?_⟩
    · rw [show ((i + 1 : Nat) : Int) = (i : Int) + 1 from by omega]
      exact he2
    · have lb : b < s.heap.objs.size := by
        rcases List.mem_cons.mp hb with rfl | hb
        · exact le
        · rw [List.mem_singleton.mp hb]
          exact li
      rw [upd_ne (Nat.ne_of_lt lb)]
      exact (hf b hb).1
  done := by
    intro X hP hw hK hc i pins s σ H E I hf st hg
    subst hP hw hK
    obtain ⟨⟨old, he⟩, hit⟩ := st
    obtain ⟨xs, hq, hx⟩ := hg
    obtain ⟨its, rv, tup, _⟩ := I.tuple hq
    have hl := rv.length
    obtain ⟨f0, f1, f2, f3, f4, f5⟩ := hf it (by simp)
    have D : Draws X.prog X.w X.A.in1 it [it, a] i (fun _ _ => False) (fun j h => j = i ∧ h.IsTupleIter it a i ∧ h.IsTuple a its.toArray) := {
      live := fun j h z => let ⟨_, ⟨o, q, _⟩, _⟩ := z; ⟨o, q⟩
      frame := fun j h h' z kp => ⟨z.1, z.2.1.at fun o q => kp it (by simp) o q, z.2.2.at fun o q => kp a (by simp) o q⟩
      item := fun j s' Q E' hj z => absurd z.1 (Nat.ne_of_lt hj)
      done := fun s' Q E' z fin => wpAny_nextOf_tuple_end (I.ok.hd hc) z.2.1 z.2.2 (by simp; omega) fin }
    exact wpAny_pyNext_enum_endD D he ⟨rfl, hit, tup⟩ fun h' eb => ⟨rfl, I.turned (t' := s.toks) (fun b o hb q => eb b o hb q) f0 f1 f3 f4 f5⟩
  self := fun A i s Q E st h => let ⟨⟨_, he⟩, _⟩ := st; wpAny_pyIter_enum he h
def iEnT (K : PySem.W.Frag) (ta : TA) : TI := fun σ H R => ta σ H fun vs H1 => ∃ a xs, vs = [.ref a] ∧ SqT K H1 a xs ∧ R (ItN K a) H1
theorem pi_enumT {X : Cx} {e : Expr} {ta : TA} {p pos tpos : Pos} {elts : List Expr} {kk : Nat} (hg : Gl X "enumerate") (hm : X.mg "enumerate" = none) (ha : PA X [e] ta) (hs : starEach [e] X.env = [(false, eval e X.env)] := by rfl) :
    PI X (.Tuple elts kk tpos) (.Call (.Name "enumerate" p) [e] [] pos) (iEnT X.K ta) := by
  refine ⟨fun pins s σ H R I want => Call_ (ld_blt I hg hm boot_enumerate (PyProof.Rows.callWith_type1 (thn (ha.run pos pins s σ H _ I want) fun us s1 got => ?_) hs rfl))⟩
  obtain ⟨vs, H1, J, rel, a, xs, ex, hq, q⟩ := got
  subst ex
  obtain ⟨u, eu, r1⟩ := vals1 rel
  subst eu
  obtain rfl : u = Value.ref a := r1
  obtain ⟨its, rv, tup, _⟩ := J.tuple hq
  have la : a < s1.heap.objs.size := let ⟨_, q, _⟩ := tup; Heap.lt_size q
  refine call_enumT (items := its.toArray) tup fun h' he hit kp => wpAny_pyIter_enum he ?_
  have J2 : Inv X pins σ H1 { s1 with heap := h' } := J.kept (t' := s1.toks) kp
  refine ⟨s1.heap.objs.size + 1, [s1.heap.objs.size + 1, s1.heap.objs.size], _, _, H1, rfl, J2, turn_enumT a (s1.heap.objs.size + 1) s1.heap.objs.size (Nat.succ_ne_self _) (Nat.ne_of_lt la) (Nat.ne_of_gt (Nat.lt_succ_of_lt la)), ⟨⟨.none, he⟩, hit⟩, fun b hb => ?_, q⟩
  have lb : s1.heap.objs.size ≤ b := by
    rcases List.mem_cons.mp hb with rfl | hb
    · exact Nat.le_succ _
    · rw [List.mem_singleton.mp hb]
      exact Nat.le_refl _
  exact J.fpOk lb (J.hok.fresh lb)
theorem walk_enumT {K : PySem.W.Frag} {a : Addr} {xs : List V} : Walk (ItN K a) xs.length (fun H => SqT K H a xs) (YPair (fun i => some (.int (i : Nat))) (fun i => xs[i]?)) :=
  ⟨fun i H hi h => ⟨xs, xs[i], h, List.getElem?_eq_getElem hi⟩, fun H h => ⟨xs, h, Nat.le_refl _⟩, fun i H x H' hi h y => by
    obtain ⟨T, z, e1, e2, e3, e4⟩ := y
    exact ⟨T, _, z, e1, e2, e3, rfl, e4 xs h⟩⟩
/-! ### the law: the least place that each comes to -/
def lf (f : Int → Int) (n : Nat) : List V := (rng n).map fun i => V.int (f i)
theorem lf_len (f : Int → Int) (n : Nat) : (lf f n).length = n := by unfold lf; rw [List.length_map, rng_length]
theorem lf_get? (f : Int → Int) {n j : Nat} (h : j < n) : (lf f n)[j]? = some (.int (f j)) := by
  unfold lf rng
  rw [List.map_map, List.getElem?_map, List.getElem?_range h]
  rfl
theorem lf_at (f : Int → Int) {n : Nat} {i : Int} (h0 : 0 ≤ i) (h1 : i < n) : atI (lf f n) i = some (.int (f i)) := by
  have e : ((i.toNat : Nat) : Int) = i := by omega
  refine atI_of h0 ?_
  rw [lf_get? f (by omega), e]
theorem lf_set (f : Int → Int) {n : Nat} {i y : Int} (h0 : 0 ≤ i) (h1 : i < n) : (lf f n).set i.toNat (.int y) = lf (fun x => if x = i then y else f x) n := by
  refine List.ext_getElem? fun j => ?_
  rw [List.getElem?_set]
  by_cases hj : j < n
  · by_cases e : i.toNat = j
    · rw [if_pos e, if_pos (by rw [lf_len]; omega), lf_get? _ hj, if_pos (by omega)]
    · rw [if_neg e, lf_get? _ hj, lf_get? _ hj, if_neg (by omega)]
  · have e : i.toNat ≠ j := by omega
    rw [if_neg e, List.getElem?_eq_none (by rw [lf_len]; omega), List.getElem?_eq_none (by rw [lf_len]; omega)]
theorem ixN_of {n : Nat} {i : Int} (h0 : 0 ≤ i) (h1 : i < n) : ixN n i = some i.toNat := by
  unfold ixN
  rw [if_pos (by omega), if_pos (by omega)]
/-! ### stems (mathematics) -/
theorem Rch.mono {ts ts' : List Tie} (h : ∀ t ∈ ts, t ∈ ts') {a b : Int} (r : Rch ts a b) : Rch ts' a b :=
  r.ind (fun x => Rch ts' a x) .refl fun x y k hx ad => by
    obtain ⟨t, ht, e⟩ := ad
    exact hx.trans (Rch.adj (k := k) ⟨t, h t ht, e⟩)
theorem rch_pq {ts : List Tie} {t : Tie} {p q : Int} (h : (p = t.one ∧ q = t.other) ∨ (p = t.other ∧ q = t.one)) : Rch (ts ++ [t]) p q := by
  refine Rch.adj (k := t.foe) ⟨t, List.mem_append_right _ (by simp), rfl, ?_⟩
  rcases h with ⟨h1, h2⟩ | ⟨h1, h2⟩
  · exact .inl ⟨h1.symm, h2.symm⟩
  · exact .inr ⟨h2.symm, h1.symm⟩
theorem rch_snoc {ts : List Tie} {t : Tie} {p q : Int} (h : (p = t.one ∧ q = t.other) ∨ (p = t.other ∧ q = t.one)) {a b : Int} : Rch (ts ++ [t]) a b ↔ Rch ts a b ∨ (Rch ts a p ∧ Rch ts q b) ∨ (Rch ts a q ∧ Rch ts p b) := by
  have up : ∀ {x y : Int}, Rch ts x y → Rch (ts ++ [t]) x y := fun r => r.mono fun t ht => List.mem_append_left _ ht
  constructor
  · intro r
    refine r.ind (fun x => Rch ts a x ∨ (Rch ts a p ∧ Rch ts q x) ∨ (Rch ts a q ∧ Rch ts p x)) (.inl .refl) fun x y k hx ad => ?_
    obtain ⟨t', ht, e1, e2⟩ := ad
    rcases List.mem_append.mp ht with ht | ht
    · have st : Rch ts x y := Rch.adj (k := k) ⟨t', ht, e1, e2⟩
      rcases hx with h1 | ⟨h1, h2⟩ | ⟨h1, h2⟩
      · exact .inl (h1.trans st)
      · exact .inr (.inl ⟨h1, h2.trans st⟩)
      · exact .inr (.inr ⟨h1, h2.trans st⟩)
    · rw [List.mem_singleton] at ht
      subst ht
      have xy : (x = p ∧ y = q) ∨ (x = q ∧ y = p) := by
        rcases e2 with ⟨e2, e3⟩ | ⟨e2, e3⟩ <;> rcases h with ⟨h1, h2⟩ | ⟨h1, h2⟩
        · exact .inl ⟨by omega, by omega⟩
        · exact .inr ⟨by omega, by omega⟩
        · exact .inr ⟨by omega, by omega⟩
        · exact .inl ⟨by omega, by omega⟩
      rcases xy with ⟨rfl, rfl⟩ | ⟨rfl, rfl⟩
      · rcases hx with h1 | ⟨h1, h2⟩ | ⟨h1, h2⟩
        · exact .inr (.inl ⟨h1, .refl⟩)
        · exact .inr (.inl ⟨h1, .refl⟩)
        · exact .inl h1
      · rcases hx with h1 | ⟨h1, h2⟩ | ⟨h1, h2⟩
        · exact .inr (.inr ⟨h1, .refl⟩)
        · exact .inl h1
        · exact .inr (.inr ⟨h1, .refl⟩)
  · rintro (h1 | ⟨h1, h2⟩ | ⟨h1, h2⟩)
    · exact up h1
    · exact (up h1).trans ((rch_pq h).trans (up h2))
    · exact (up h1).trans ((rch_pq h).symm.trans (up h2))
theorem rch_nil {a b : Int} (h : Rch [] a b) : a = b := h.ind (fun x => a = x) rfl fun x y k _ ad => by
  obtain ⟨t, ht, _⟩ := ad
  simp at ht
def tieN (ts : List Tie) (k : Nat) : Tie := ts.getD k ⟨0, 0, false⟩
theorem tieN_of {ts : List Tie} {k : Nat} {t : Tie} (h : ts[k]? = some t) : tieN ts k = t := by
  unfold tieN
  rw [List.getD_eq_getElem?_getD, h]
  rfl
open Classical in
noncomputable def stemB (ts : List Tie) (k : Nat) : Bool := decide (¬ Rch (ts.take k) (tieN ts k).one (tieN ts k).other)
noncomputable def stemsTo (ts : List Tie) (k : Nat) : List Int := (rng k).filter fun i => stemB ts i.toNat
theorem stemsTo_succ (ts : List Tie) (k : Nat) : stemsTo ts (k + 1) = stemsTo ts k ++ (if stemB ts k = true then [(k : Int)] else []) := by
  unfold stemsTo
  rw [rng_succ, List.filter_append, List.filter_cons, Int.toNat_natCast]
  rfl
theorem stemsTo_len (ts : List Tie) (k : Nat) : (stemsTo ts k).length ≤ k := by
  unfold stemsTo
  have := List.length_filter_le (fun i => stemB ts i.toNat) (rng k)
  rw [rng_length] at this
  exact this
open Classical in
theorem stem_iff {ts : List Tie} {k : Nat} {t : Tie} (h : ts[k]? = some t) : stemB ts k = true ↔ ¬ Rch (ts.take k) t.one t.other := by
  unfold stemB
  rw [tieN_of h]
  exact decide_eq_true_iff
theorem take_snoc {α : Type} {ts : List α} {k : Nat} {t : α} (h : ts[k]? = some t) : ts.take (k + 1) = ts.take k ++ [t] := by
  rw [List.take_add_one, h]
  rfl
/-- labels: alike just where ties lead -/
def Lab (ts : List Tie) (n : Nat) (g : Int → Int) : Prop := ∀ i j : Int, 0 ≤ i → i < n → 0 ≤ j → j < n → (g i = g j ↔ Rch ts i j)
def mrg (g : Int → Int) (old new : Int) : Int → Int := fun x => if g x = old then new else g x
theorem lab_nil (n : Nat) : Lab [] n (fun i => i) := fun i j _ _ _ _ => ⟨fun h => by rw [show i = j from h]; exact .refl, fun h => rch_nil h⟩
theorem lab_same {ts : List Tie} {n : Nat} {g : Int → Int} {t : Tie} (h : Lab ts n g) (ok : TieOk n t) (e : g t.one = g t.other) : Lab (ts ++ [t]) n g := fun i j i0 i1 j0 j1 => by
  obtain ⟨o1, o2, o3, o4, _⟩ := ok
  have r : Rch ts t.one t.other := (h _ _ o1 o2 o3 o4).mp e
  rw [rch_snoc (.inl ⟨rfl, rfl⟩), h i j i0 i1 j0 j1]
  constructor
  · exact .inl
  · rintro (h1 | ⟨h1, h2⟩ | ⟨h1, h2⟩)
    · exact h1
    · exact h1.trans (r.trans h2)
    · exact h1.trans (r.symm.trans h2)
theorem lab_step {ts : List Tie} {n : Nat} {g : Int → Int} {t : Tie} {p q : Int} (h : Lab ts n g) (ok : TieOk n t) (e : (p = t.one ∧ q = t.other) ∨ (p = t.other ∧ q = t.one)) : Lab (ts ++ [t]) n (mrg g (g p) (g q)) := fun i j i0 i1 j0 j1 => by
  have pr : (0 ≤ p ∧ p < n) ∧ (0 ≤ q ∧ q < n) := by
    obtain ⟨o1, o2, o3, o4, _⟩ := ok
    rcases e with ⟨rfl, rfl⟩ | ⟨rfl, rfl⟩
    · exact ⟨⟨o1, o2⟩, o3, o4⟩
    · exact ⟨⟨o3, o4⟩, o1, o2⟩
  obtain ⟨⟨p0, p1⟩, q0, q1⟩ := pr
  rw [rch_snoc e]
  unfold mrg
  have ip := h i p i0 i1 p0 p1
  have jp := h j p j0 j1 p0 p1
  have iq := h i q i0 i1 q0 q1
  have jq := h j q j0 j1 q0 q1
  have ij := h i j i0 i1 j0 j1
  by_cases hi : g i = g p <;> by_cases hj : g j = g p
  · rw [if_pos hi, if_pos hj]
    exact ⟨fun _ => .inl (ij.mp (hi.trans hj.symm)), fun _ => rfl⟩
  · rw [if_pos hi, if_neg hj]
    constructor
    · intro z
      exact .inr (.inl ⟨ip.mp hi, (jq.mp z.symm).symm⟩)
    · rintro (z | ⟨_, z⟩ | ⟨_, z⟩)
      · exact absurd ((ij.mpr z).symm.trans hi) hj
      · exact (jq.mpr z.symm).symm
      · exact absurd (jp.mpr z.symm) hj
  · rw [if_neg hi, if_pos hj]
    constructor
    · intro z
      exact .inr (.inr ⟨iq.mp z, (jp.mp hj).symm⟩)
    · rintro (z | ⟨z, _⟩ | ⟨z, _⟩)
      · exact absurd ((ij.mpr z).trans hj) hi
      · exact absurd (ip.mpr z) hi
      · exact iq.mpr z
  · rw [if_neg hi, if_neg hj]
    constructor
    · intro z
      exact .inl (ij.mp z)
    · rintro (z | ⟨z, _⟩ | ⟨_, z⟩)
      · exact ij.mpr z
      · exact absurd (ip.mpr z) hi
      · exact absurd (jp.mpr z.symm) hj
/-- heads: labels that are places of their own; how many -/
structure Heads (ts : List Tie) (n i : Nat) (g : Int → Int) : Prop where
  lab : Lab (ts.take i) n g
  rng : ∀ x : Int, 0 ≤ x → x < n → 0 ≤ g x ∧ g x < n
  idem : ∀ x : Int, 0 ≤ x → x < n → g (g x) = g x
  cnt : ((FF.rng n).filter fun x => decide (g x = x)).length + (stemsTo ts i).length = n
theorem heads_nil (ts : List Tie) (n : Nat) : Heads ts n 0 (fun i => i) := by
  refine ⟨by rw [List.take_zero]; exact lab_nil n, fun x h0 h1 => ⟨h0, h1⟩, fun x _ _ => rfl, ?_⟩
  have e : ((FF.rng n).filter fun x => decide (x = x)) = FF.rng n := by
    rw [List.filter_eq_self]
    intro x _
    exact decide_eq_true rfl
  show ((FF.rng n).filter fun x => decide (x = x)).length + 0 = n
  rw [e, rng_length, Nat.add_zero]
theorem filter_drop {p q : Int → Bool} {h : Int} : ∀ {l : List Int}, l.Nodup → h ∈ l → p h = true → (∀ x ∈ l, q x = (p x && decide (x ≠ h))) → (l.filter q).length + 1 = (l.filter p).length
  | x :: l, nd, hm, hp, hq => by
    rw [List.nodup_cons] at nd
    have hx := hq x (by simp)
    rw [List.filter_cons, List.filter_cons, hx]
    by_cases e : x = h
    · subst e
      have same : l.filter q = l.filter p := List.filter_congr fun y hy => by
        rw [hq y (List.mem_cons_of_mem _ hy), decide_eq_true (show y ≠ x from fun z => nd.1 (by rw [← z]; exact hy)), Bool.and_true]
      rw [same, hp]
      simp
    · have hm' : h ∈ l := (List.mem_cons.mp hm).elim (fun z => absurd z.symm e) id
      have ih := filter_drop (l := l) nd.2 hm' hp fun y hy => hq y (List.mem_cons_of_mem _ hy)
      rw [decide_eq_true (show x ≠ h from e), Bool.and_true]
      cases p x
      · simpa using ih
      · simp
        omega
theorem heads_same {ts : List Tie} {n i : Nat} {g : Int → Int} {t : Tie} (h : Heads ts n i g) (et : ts[i]? = some t) (ok : TieOk n t) (e : g t.one = g t.other) : Heads ts n (i + 1) g := by
  refine ⟨by rw [take_snoc et]; exact lab_same h.lab ok e, h.rng, h.idem, ?_⟩
  have no : ¬ stemB ts i = true := fun z => (stem_iff et).mp z ((h.lab _ _ ok.1 ok.2.1 ok.2.2.1 ok.2.2.2.1).mp e)
  rw [stemsTo_succ, if_neg no, List.append_nil]
  exact h.cnt
theorem heads_step {ts : List Tie} {n i : Nat} {g : Int → Int} {t : Tie} {p q : Int} (h : Heads ts n i g) (et : ts[i]? = some t) (ok : TieOk n t) (e : (p = t.one ∧ q = t.other) ∨ (p = t.other ∧ q = t.one)) (ne : g p ≠ g q) : Heads ts n (i + 1) (mrg g (g p) (g q)) := by
  have pr : (0 ≤ p ∧ p < n) ∧ (0 ≤ q ∧ q < n) := by
    obtain ⟨o1, o2, o3, o4, _⟩ := ok
    rcases e with ⟨rfl, rfl⟩ | ⟨rfl, rfl⟩
    · exact ⟨⟨o1, o2⟩, o3, o4⟩
    · exact ⟨⟨o3, o4⟩, o1, o2⟩
  obtain ⟨⟨p0, p1⟩, q0, q1⟩ := pr
  have gp := h.rng p p0 p1
  have gq := h.rng q q0 q1
  have ip := h.idem p p0 p1
  have iq := h.idem q q0 q1
  refine ⟨by rw [take_snoc et]; exact lab_step h.lab ok e, fun x x0 x1 => ?_, fun x x0 x1 => ?_, ?_⟩
  · unfold mrg
    split
    · exact gq
    · exact h.rng x x0 x1
  · have ix := h.idem x x0 x1
    by_cases hx : g x = g p
    · have e1 : mrg g (g p) (g q) x = g q := if_pos hx
      rw [e1]
      show (if g (g q) = g p then g q else g (g q)) = g q
      rw [iq, if_neg (Ne.symm ne)]
    · have e1 : mrg g (g p) (g q) x = g x := if_neg hx
      rw [e1]
      show (if g (g x) = g p then g q else g (g x)) = g x
      rw [ix, if_neg hx]
  · have yes : stemB ts i = true := (stem_iff et).mpr fun z => by
      have hl := (h.lab _ _ ok.1 ok.2.1 ok.2.2.1 ok.2.2.2.1).mpr z
      rcases e with ⟨rfl, rfl⟩ | ⟨rfl, rfl⟩
      · exact ne hl
      · exact ne hl.symm
    have drop := filter_drop (p := fun x => decide (g x = x)) (q := fun x => decide (mrg g (g p) (g q) x = x)) (h := g p) (l := FF.rng n) ((rng_rising n).imp fun h => by omega) (mem_rng.mpr gp) (decide_eq_true ip) (fun x hx => ?_)
    · rw [stemsTo_succ, if_pos yes, List.length_append]
      have := h.cnt
      simp only [List.length_cons, List.length_nil]
      omega
    · have xr := mem_rng.mp hx
      rw [Bool.eq_iff_iff, Bool.and_eq_true, decide_eq_true_iff, decide_eq_true_iff, decide_eq_true_iff]
      show (if g x = g p then g q else g x) = x ↔ _
      by_cases hx : g x = g p
      · rw [if_pos hx]
        constructor
        · intro z
          exact absurd (by rw [← z, iq] at hx; exact hx.symm) ne
        · rintro ⟨z1, z2⟩
          exact absurd (z1.symm.trans hx) z2
      · rw [if_neg hx]
        exact ⟨fun z => ⟨z, fun y => hx (by rw [y]; exact ip)⟩, fun z => z.1⟩
/-- stems are told by the places of the ties alone -/
theorem rch_frames : ∀ {ts us : List Tie}, ts.length = us.length → (∀ (i : Nat) t u, ts[i]? = some t → us[i]? = some u → (u.one = t.one ∧ u.other = t.other) ∨ (u.one = t.other ∧ u.other = t.one)) → ∀ {a b : Int}, Rch ts a b → Rch us a b := by
  intro ts us hl h a b r
  refine r.ind (fun x => Rch us a x) .refl fun x y k hx ad => ?_
  obtain ⟨t, ht, _, e⟩ := ad
  obtain ⟨i, hi, rfl⟩ := List.getElem_of_mem ht
  have hu : us[i]? = some us[i] := List.getElem?_eq_getElem (by omega)
  have w := h i _ _ (List.getElem?_eq_getElem hi) hu
  refine hx.trans (Rch.adj (k := us[i].foe) ⟨us[i], List.getElem_mem _, rfl, ?_⟩)
  rcases w with ⟨w1, w2⟩ | ⟨w1, w2⟩ <;> rcases e with ⟨e1, e2⟩ | ⟨e1, e2⟩
  · exact .inl ⟨by omega, by omega⟩
  · exact .inr ⟨by omega, by omega⟩
  · exact .inr ⟨by omega, by omega⟩
  · exact .inl ⟨by omega, by omega⟩
def Framed (ts us : List Tie) : Prop := ts.length = us.length ∧ ∀ (i : Nat) t u, ts[i]? = some t → us[i]? = some u → (u.one = t.one ∧ u.other = t.other) ∨ (u.one = t.other ∧ u.other = t.one)
theorem Framed.symm {ts us : List Tie} (h : Framed ts us) : Framed us ts := ⟨h.1.symm, fun i u t e1 e2 => by
  rcases h.2 i t u e2 e1 with ⟨w1, w2⟩ | ⟨w1, w2⟩
  · exact .inl ⟨w1.symm, w2.symm⟩
  · exact .inr ⟨w2.symm, w1.symm⟩⟩
theorem Framed.take {ts us : List Tie} (h : Framed ts us) (k : Nat) : Framed (ts.take k) (us.take k) := by
  refine ⟨by rw [List.length_take, List.length_take, h.1], fun i t u e1 e2 => ?_⟩
  by_cases hk : i < k
  · rw [List.getElem?_take_of_lt hk] at e1 e2
    exact h.2 i t u e1 e2
  · rw [List.getElem?_take] at e1
    rw [if_neg hk] at e1
    cases e1
theorem Framed.map {ts : List Tie} {f : Tie → Tie} (h : ∀ t ∈ ts, ((f t).one = t.one ∧ (f t).other = t.other) ∨ ((f t).one = t.other ∧ (f t).other = t.one)) : Framed ts (ts.map f) := by
  refine ⟨by rw [List.length_map], fun i t u e1 e2 => ?_⟩
  rw [List.getElem?_map, e1] at e2
  cases e2
  exact h t (List.mem_of_getElem? e1)
theorem stems_framed {ts us : List Tie} (h : Framed ts us) : stemsTo us us.length = stemsTo ts ts.length := by
  unfold stemsTo
  rw [← h.1]
  refine List.filter_congr fun i hi => ?_
  have ir := mem_rng.mp hi
  have e1 : ts[i.toNat]? = some ts[i.toNat] := List.getElem?_eq_getElem (by omega)
  have l := h.1
  have e2 : us[i.toNat]? = some us[i.toNat] := List.getElem?_eq_getElem (by omega)
  have ht := h.take i.toNat
  rw [Bool.eq_iff_iff, stem_iff e1, stem_iff e2]
  have both : ∀ a b : Int, Rch (ts.take i.toNat) a b ↔ Rch (us.take i.toNat) a b := fun a b => ⟨fun r => rch_frames ht.1 ht.2 r, fun r => rch_frames ht.symm.1 ht.symm.2 r⟩
  rcases h.2 _ _ _ e1 e2 with ⟨w1, w2⟩ | ⟨w1, w2⟩
  · rw [w1, w2, both]
  · rw [w1, w2, both]
    exact ⟨fun z y => z y.symm, fun z y => z y.symm⟩
theorem stemsTo_rising (ts : List Tie) (k : Nat) : (stemsTo ts k).Pairwise (· < ·) := (rng_rising k).filter _
theorem stemsTo_mem {ts : List Tie} {k : Nat} {i : Int} : i ∈ stemsTo ts k ↔ (0 ≤ i ∧ i < k) ∧ stemB ts i.toNat = true := by
  unfold stemsTo
  rw [List.mem_filter, mem_rng]
theorem stems_own (ts : List Tie) : stemsTo ((stemsTo ts ts.length).map fun i => tieN ts i.toNat) (stemsTo ts ts.length).length = rng (stemsTo ts ts.length).length := by
  generalize hS : stemsTo ts ts.length = S
  unfold stemsTo
  rw [List.filter_eq_self]
  intro j hj
  have jr := mem_rng.mp hj
  have hjl : j.toNat < S.length := by omega
  have ej : (S.map fun i => tieN ts i.toNat)[j.toNat]? = some (tieN ts S[j.toNat].toNat) := by
    rw [List.getElem?_map, List.getElem?_eq_getElem hjl]
    rfl
  have hm : S[j.toNat] ∈ stemsTo ts ts.length := by rw [hS]; exact List.getElem_mem _
  obtain ⟨⟨m0, m1⟩, mb⟩ := stemsTo_mem.mp hm
  have et : ts[S[j.toNat].toNat]? = some (tieN ts S[j.toNat].toNat) := by
    have h : S[j.toNat].toNat < ts.length := by omega
    rw [List.getElem?_eq_getElem h, tieN_of (List.getElem?_eq_getElem h)]
  rw [stem_iff ej]
  rw [stem_iff et] at mb
  refine fun r => mb (r.mono fun t ht => ?_)
  rw [← List.map_take, List.mem_map] at ht
  obtain ⟨x, hx, rfl⟩ := ht
  obtain ⟨a, ha, rfl⟩ := List.getElem_of_mem hx
  rw [List.length_take] at ha
  rw [List.getElem_take]
  have hx' : S[a] ∈ stemsTo ts ts.length := by rw [hS]; exact List.getElem_mem _
  obtain ⟨⟨x0, x1⟩, _⟩ := stemsTo_mem.mp hx'
  have rise : S.Pairwise (· < ·) := by rw [← hS]; exact stemsTo_rising _ _
  have lt : S[a] < S[j.toNat] := List.pairwise_iff_getElem.mp rise a j.toNat (by omega) hjl (by omega)
  have h : S[a].toNat < ts.length := by omega
  rw [tieN_of (List.getElem?_eq_getElem h)]
  rw [List.mem_iff_getElem]
  exact ⟨S[a].toNat, by rw [List.length_take]; omega, by rw [List.getElem_take]⟩
/-! ### ties that sides break -/
def sd (ss : List Int) (i : Int) : Int := ss.getD i.toNat 0
def tieAt (ts : List Tie) (i : Int) : Tie := ts.getD i.toNat ⟨0, 0, false⟩
def brk (ss : List Int) (t : Tie) : Bool := decide (sd ss t.one = sd ss t.other) == t.foe
def badTo (ss : List Int) (ts : List Tie) (k : Nat) : List Int := (rng k).filter fun i => brk ss (tieAt ts i)
def bad (ss : List Int) (ts : List Tie) : List Int := badTo ss ts ts.length
theorem badTo_succ (ss : List Int) (ts : List Tie) (k : Nat) : badTo ss ts (k + 1) = badTo ss ts k ++ (if brk ss (tieAt ts k) = true then [(k : Int)] else []) := by
  unfold badTo
  rw [rng_succ, List.filter_append, List.filter_cons]
  rfl
theorem badTo_len (ss : List Int) (ts : List Tie) (k : Nat) : (badTo ss ts k).length ≤ k := by
  unfold badTo
  have := List.length_filter_le (fun i => brk ss (tieAt ts i)) (rng k)
  rw [rng_length] at this
  exact this
theorem atI_sd {ss : List Int} {i : Int} (h0 : 0 ≤ i) (h1 : i < ss.length) : atI (ss.map V.int) i = some (.int (sd ss i)) := by
  have h : i.toNat < ss.length := by omega
  refine atI_of h0 ?_
  unfold sd
  rw [List.getElem?_map, List.getElem?_eq_getElem h, List.getD_eq_getElem?_getD, List.getElem?_eq_getElem h]
  rfl
theorem tieAt_of {ts : List Tie} {i : Nat} {t : Tie} (h : ts[i]? = some t) : tieAt ts i = t := by
  unfold tieAt
  rw [Int.toNat_natCast, List.getD_eq_getElem?_getD, h]
  rfl
theorem eq_brk (x y : Int) (f : Bool) : decide (V.bl (decide (V.int x = V.int y)) = V.bl (decide (V.str (kindS f) = V.str "foe"))) = (decide (x = y) == f) := by
  have e : decide (V.int x = V.int y) = decide (x = y) := by
    by_cases h : x = y
    · rw [decide_eq_true h, decide_eq_true (by rw [h])]
    · rw [decide_eq_false h, decide_eq_false (fun z => h (V.int.inj z))]
  rw [e]
  cases decide (x = y) <;> cases f <;> rfl
theorem ne_brk (x y : Int) (f : Bool) : (!decide (V.bl (!decide (V.int x = V.int y)) = V.bl (decide (V.str (kindS f) = V.str "foe")))) = (decide (x = y) == f) := by
  have e : decide (V.int x = V.int y) = decide (x = y) := by
    by_cases h : x = y
    · rw [decide_eq_true h, decide_eq_true (by rw [h])]
    · rw [decide_eq_false h, decide_eq_false (fun z => h (V.int.inj z))]
  rw [e]
  cases decide (x = y) <;> cases f <;> rfl
def spBreaks : Sp := fun vs H Q _ => ∃ (a b : Addr) (ss : List Int) (t : Tie), vs = [.ref a, .ref b] ∧ H a = some (.tup (ss.map V.int)) ∧ H b = some (.tup [.int t.one, .int t.other, .str (kindS t.foe)]) ∧ TieOk ss.length t ∧ Q (.bl (brk ss t)) H
def spBroken : Sp := fun vs H Q _ => ∃ (v : V) (a : Addr) (n : Int) (ts : List Tie) (ss : List Int), vs = [v, .ref a] ∧ WebAt H v n ts ∧ WebOk n ts ∧ H a = some (.tup (ss.map V.int)) ∧ (ss.length : Int) = n ∧
  ∀ r H', Same H H' → H' r = some (.tup ((bad ss ts).map V.int)) → Q (.ref r) H'
section
variable {P : Program} {w : World} {K : PySem.W.Frag} {mg : Str → Option Value} {base : Heap}
theorem ok_breaks {f : Addr} {fd : FuncData} (F : Fun K "breaks" "breaks" s_breaks f fd) : FnOk P w K mg base CX0 1 f fd ["sides", "tie"] spBreaks := by
  refine F.ok sc_breaks (fun vs H Q E h => ?_) (fun cdv A outer s H vs Q E hr h => ?_)
  · obtain ⟨a, b, ss, t, rfl, _⟩ := h
    rfl
  · obtain ⟨a, b, ss, t, rfl, ha, hb, ok, q⟩ := h
    refine ⟨_, (pss_cons (ps_asg (pv 1) (pg_tup rfl (pgs_cons (pg_name (i := 2) sc_breaks.nd rfl (.inl rfl)) (pgs_cons (pg_name (i := 3) sc_breaks.nd rfl (.inl rfl)) (pgs_cons (pg_name (i := 4) sc_breaks.nd rfl (.inl rfl)) pgs_nil)))))
      (pss_one (ps_ret (pe_cmpR op_eq (pe_cmpR op_eq (pe_ix ix_tup (pv 0) (pv 2) (fun _ _ => rfl)) (pe_ix ix_tup (pv 0) (pv 3) (fun _ _ => rfl)) (nomark _)) (pe_cmpR op_eq (pv 4) pe_str (nomark _)) (nomark _))))), ?_⟩
    refine ⟨.ref b, rfl, b, _, rfl, SqT.of hb, rfl, _, _, rfl, _, _, rfl, _, _, rfl, rfl, ?_⟩
    refine ⟨.ref a, rfl, .int t.one, rfl, a, _, t.one, _, rfl, rfl, SqT.of ha, atI_sd ok.1 ok.2.1, .ref a, rfl, .int t.other, rfl, a, _, t.other, _, rfl, rfl, SqT.of ha, atI_sd ok.2.2.1 ok.2.2.2.1, rfl, .str (kindS t.foe), rfl, rfl, rfl, ?_⟩
    rw [eq_brk]
    exact q
theorem ok_broken_by {f : Addr} {fd : FuncData} (F : Fun K "broken_by" "broken_by" s_broken_by f fd) (M : Free mg) (me : mg "enumerate" = none) (D1 : Df P w K mg base 1 "breaks" ["sides", "tie"] spBreaks) : FnOk P w K mg base CX0 2 f fd ["web", "sides"] spBroken := by
  obtain ⟨f1, fd1, G1, g1, k1, b1⟩ := D1
  refine F.ok sc_broken_by (fun vs H Q E h => ?_) (fun cdv A outer s H vs Q E hr h => ?_)
  · obtain ⟨v, a, n, ts, ss, rfl, _⟩ := h
    rfl
  · obtain ⟨v, a, n, ts, ss, rfl, ⟨wa, wb, us, rfl, hwa, hwb, hp⟩, ok, ha, hl, q⟩ := h
    refine ⟨_, (pss_one (ps_ret (pe_callTy call_tuple_of (by rfl) M.tuple (by decide +kernel) (pa_cons (pe_lc (own := [("number", 2), ("tie", 3)]) (g := gTup K 2 (gCons (gName 2) (gCons (gName 3) gNil))) (te := tVar 2) rfl sc_broken_by.nd (pi_enumT (by rfl) me (pa_cons (pe_ix ix_tup (pv 0) pe_int (fun _ _ => rfl)) pa_nil)) (blkOk_by (N := N_broken_by) (sc := defScope s_broken_by) (own := [("number", 2), ("tie", 3)]) (by decide +kernel)) (fun _ _ _ _ _ => (pg_tup rfl (pgs_cons (pg_name (i := 2) sc_broken_by.nd rfl (.inl rfl)) (pgs_cons (pg_name (i := 3) sc_broken_by.nd rfl (.inl rfl)) pgs_nil)))) (fun _ _ _ _ _ => (pts_one (pt_val (pe_call G1 hr (by rfl) g1 k1 b1 .nil pass0 (pa_cons (pv 1) (pa_cons (pv 3) pa_nil)))))) (fun _ _ _ _ _ => (pv 2))) pa_nil)))), ?_⟩
    have hlen : us.length = ts.length := Paired.length hp
    have few := ok.few
    refine ⟨.ref wa, rfl, wa, _, 1, .ref wb, rfl, rfl, SqT.of hwa, rfl, wb, us, rfl, SqT.of hwb, fun Z nZ => ?_⟩
    refine lc_it (walk_enumT (xs := us)) (fun i H' => H' Z = some (.lst ((badTo ss ts i).map V.int)) ∧ Same H H') ⟨upd_same, same_new nZ⟩ (fun i H' _ h => SqT.of (h.2 _ _ hwb)) ?_ ?_
    · rintro i x H1 H2 hi ⟨hZ, s1⟩ ⟨T, x1, y, rfl, nT, rfl, e1, e2⟩
      obtain rfl : V.int (i : Nat) = x1 := Option.some.inj e1
      obtain ⟨t, et, c, rfl, hc⟩ := Paired.at hp e2
      have okt := ok.ok t (List.mem_of_getElem? et)
      have s2 := s1.trans (same_new (o := .tup [.int (i : Nat), .ref c]) nT)
      have hZ2 := same_new (o := .tup [.int (i : Nat), .ref c]) nT _ _ hZ
      refine ⟨T, _, rfl, SqT.of upd_same, rfl, _, _, rfl, _, _, rfl, rfl, rfl, .ref a, rfl, .ref c, rfl, a, c, ss, t, rfl, s2 _ _ ha, s2 _ _ hc, by rw [hl]; exact okt, _, rfl, ?_⟩
      have et2 := tieAt_of et
      have lb := badTo_len ss ts i
      rw [badTo_succ, et2, List.map_append]
      by_cases hb : brk ss t = true
      · rw [hb]
        exact ⟨.int i, rfl, _, hZ2, by rw [List.length_map]; exact small1000 (by omega), upd_same, fun b o e => by rw [upd_ne (ne_of_none e nZ)]; exact s2 b o e⟩
      · rw [Bool.not_eq_true] at hb
        rw [hb]
        simp only [Bool.false_eq_true, if_false, List.map_nil, List.append_nil]
        exact ⟨hZ2, s2⟩
    · rintro H1 ⟨hZ, s1⟩
      rw [hlen] at hZ
      refine ⟨Z, _, rfl, .inl ⟨SqL.of hZ, fun r nr => ?_⟩⟩
      exact q r _ (s1.trans (same_new nr)) upd_same
end
/-! ### sides put over -/
def Bin (ss : List Int) : Prop := ∀ x ∈ ss, x = 0 ∨ x = 1
theorem sd_get {ss : List Int} {i : Int} (h0 : 0 ≤ i) (h1 : i < ss.length) : ∃ h : i.toNat < ss.length, sd ss i = ss[i.toNat] := by
  have h : i.toNat < ss.length := by omega
  refine ⟨h, ?_⟩
  unfold sd
  rw [List.getD_eq_getElem?_getD, List.getElem?_eq_getElem h]
  rfl
theorem sd_bin {ss : List Int} (b : Bin ss) {i : Int} (h0 : 0 ≤ i) (h1 : i < ss.length) : sd ss i = 0 ∨ sd ss i = 1 := by
  obtain ⟨h, e⟩ := sd_get h0 h1
  rw [e]
  exact b _ (List.getElem_mem h)
def over (ss : List Int) : List Int := ss.map fun s => 1 - s
theorem sd_over {ss : List Int} {i : Int} (h0 : 0 ≤ i) (h1 : i < ss.length) : sd (over ss) i = 1 - sd ss i := by
  obtain ⟨h, e⟩ := sd_get h0 h1
  obtain ⟨h', e'⟩ := sd_get (ss := over ss) h0 (by unfold over; rw [List.length_map]; exact h1)
  rw [e, e']
  simp [over]
theorem brk_over {ss : List Int} {t : Tie} (ok : TieOk ss.length t) : brk (over ss) t = brk ss t := by
  unfold brk
  rw [sd_over ok.1 ok.2.1, sd_over ok.2.2.1 ok.2.2.2.1]
  congr 1
  rw [decide_eq_decide]
  omega
theorem tieAt_mem {ts : List Tie} {i : Int} (h : i ∈ rng ts.length) : tieAt ts i ∈ ts := by
  rw [mem_rng] at h
  have h' : i.toNat < ts.length := by omega
  unfold tieAt
  rw [List.getD_eq_getElem?_getD, List.getElem?_eq_getElem h']
  exact List.getElem_mem h'
theorem bad_over {ss : List Int} {ts : List Tie} (ok : ∀ t ∈ ts, TieOk ss.length t) : bad (over ss) ts = bad ss ts := by
  unfold bad badTo
  exact List.filter_congr fun i hi => brk_over (ok _ (tieAt_mem hi))
def moved (ss : List Int) (p : Int) : List Int := ss.set p.toNat (1 - sd ss p)
theorem moved_len (ss : List Int) (p : Int) : (moved ss p).length = ss.length := by unfold moved; rw [List.length_set]
theorem sd_moved {ss : List Int} {p i : Int} (p0 : 0 ≤ p) (p1 : p < ss.length) (h0 : 0 ≤ i) (h1 : i < ss.length) : sd (moved ss p) i = if i = p then 1 - sd ss p else sd ss i := by
  show (ss.set p.toNat (1 - sd ss p)).getD i.toNat 0 = _
  rw [List.getD_eq_getElem?_getD, List.getElem?_set]
  by_cases hp : i = p
  · subst hp
    rw [if_pos rfl, if_pos (by omega), if_pos rfl]
    rfl
  · rw [if_neg (by omega), if_neg hp]
    unfold sd
    rw [List.getD_eq_getElem?_getD]
theorem brk_moved {ss : List Int} (b : Bin ss) {t : Tie} {p : Int} (ok : TieOk ss.length t) (p0 : 0 ≤ p) (p1 : p < ss.length) : brk (moved ss p) t = (brk ss t != (t.one == p || t.other == p)) := by
  unfold brk
  rw [sd_moved p0 p1 ok.1 ok.2.1, sd_moved p0 p1 ok.2.2.1 ok.2.2.2.1]
  have b1 := sd_bin b ok.1 ok.2.1
  have b2 := sd_bin b ok.2.2.1 ok.2.2.2.1
  have ne := ok.2.2.2.2
  by_cases h1 : t.one = p
  · have h2 : t.other ≠ p := fun z => ne (h1.trans z.symm)
    rw [if_pos h1, if_neg h2, ← h1]
    have e1 : (t.one == t.one) = true := by simp
    rw [e1, Bool.true_or]
    rcases b1 with e | e <;> rcases b2 with e' | e' <;> rw [e, e'] <;> cases t.foe <;> rfl
  · rw [if_neg h1]
    have e1 : (t.one == p) = false := by simp [h1]
    rw [e1, Bool.false_or]
    by_cases h2 : t.other = p
    · rw [if_pos h2, ← h2]
      have e2 : (t.other == t.other) = true := by simp
      rw [e2]
      rcases b1 with e | e <;> rcases b2 with e' | e' <;> rw [e, e'] <;> cases t.foe <;> rfl
    · rw [if_neg h2]
      have e2 : (t.other == p) = false := by simp [h2]
      rw [e2, Bool.bne_false]
theorem moved_cut {ss : List Int} {p : Int} (p0 : 0 ≤ p) (p1 : p < ss.length) : cutV (ss.map V.int) none (some p) ++ [V.int (1 - sd ss p)] ++ cutV (ss.map V.int) (some (p + 1)) none = (moved ss p).map V.int := by
  obtain ⟨k, rfl⟩ : ∃ k : Nat, p = k := ⟨p.toNat, by omega⟩
  have hk : k < ss.length := by omega
  have e1 : cutV (ss.map V.int) none (some (k : Int)) = (ss.take k).map V.int := by
    unfold cutV
    rw [HT.sIx_none, HT.sIx_nat, List.length_map, Nat.min_eq_left (by omega), List.drop_zero, List.map_take]
    rfl
  have e2 : cutV (ss.map V.int) (some ((k : Int) + 1)) none = (ss.drop (k + 1)).map V.int := by
    unfold cutV
    rw [HT.sIx_none, show ((k : Int) + 1) = ((k + 1 : Nat) : Int) from by omega, HT.sIx_nat, List.length_map, Nat.min_eq_left (by omega), List.map_drop]
    exact List.take_of_length_le (by rw [List.length_drop, List.length_map]; omega)
  rw [e1, e2]
  unfold moved
  rw [Int.toNat_natCast, List.set_eq_take_append_cons_drop, if_pos hk]
  simp
theorem in_bad {ss : List Int} {ts : List Tie} {i : Nat} (hi : i < ts.length) : inV (.int (i : Int)) ((bad ss ts).map V.int) = brk ss (tieAt ts i) := by
  rw [Bool.eq_iff_iff]
  unfold inV
  rw [List.any_map, List.any_eq_true]
  unfold bad badTo
  constructor
  · rintro ⟨x, hx, e⟩
    have e' : (x == (i : Int)) = true := e
    rw [beq_iff_eq] at e'
    subst e'
    exact (List.mem_filter.mp hx).2
  · intro h
    exact ⟨i, List.mem_filter.mpr ⟨mem_rng.mpr (by omega), h⟩, by show ((i : Int) == (i : Int)) = true; simp⟩
theorem flat_ints (xs : List Int) : (xs.map V.int).all flatV = true := by
  rw [List.all_map, List.all_eq_true]
  intro x _
  rfl
theorem in_two (p x y : Int) : inV (.int p) [.int x, .int y] = (x == p || y == p) := by
  show ((x == p) || ((y == p) || false)) = _
  rw [Bool.or_false]
theorem ne_bl (a b : Bool) : (!decide (V.bl a = V.bl b)) = (a != b) := by cases a <;> cases b <;> rfl
/-! ### the fixed choice: the mathematics -/
def Cons (ss : List Int) (ts : List Tie) : Prop := ∀ t ∈ ts, brk ss t = false
def Odd (ts : List Tie) (n : Nat) : Prop := ∃ x : Int, (0 ≤ x ∧ x < n) ∧ RP ts x x true
def one? (ss : List Int) (i : Int) : Bool := decide (sd ss i = 1)
structure Told (ts : List Tie) (n : Nat) (ss : List Int) : Prop where
  len : ss.length = n
  bin : Bin ss
  each : ∀ i : Int, 0 ≤ i → i < n → ∃ m, leader ts m ∧ RP ts m i (one? ss i)
theorem brk_one {ss : List Int} (b : Bin ss) {t : Tie} (ok : TieOk ss.length t) : brk ss t = ((one? ss t.one ^^ one? ss t.other) ^^ t.foe) := by
  unfold brk one?
  have b1 := sd_bin b ok.1 ok.2.1
  have b2 := sd_bin b ok.2.2.1 ok.2.2.2.1
  rcases b1 with e | e <;> rcases b2 with e' | e' <;> rw [e, e'] <;> cases t.foe <;> decide
theorem cons_adj {ss : List Int} {ts : List Tie} (b : Bin ss) (ok : ∀ t ∈ ts, TieOk ss.length t) (h : Cons ss ts) {x y : Int} {k : Bool} (ad : Adj ts x y k) : (one? ss x ^^ one? ss y) = k := by
  obtain ⟨t, ht, rfl, h1⟩ := ad
  have e := h t ht
  rw [brk_one b (ok t ht)] at e
  rcases h1 with ⟨rfl, rfl⟩ | ⟨rfl, rfl⟩
  · revert e
    cases one? ss t.one <;> cases one? ss t.other <;> cases t.foe <;> simp
  · revert e
    cases one? ss t.one <;> cases one? ss t.other <;> cases t.foe <;> simp
theorem cons_walk {ss : List Int} {ts : List Tie} (b : Bin ss) (ok : ∀ t ∈ ts, TieOk ss.length t) (h : Cons ss ts) {x y : Int} {p : Bool} (r : RP ts x y p) : (one? ss x ^^ one? ss y) = p := by
  induction r with
  | nil => rw [Bool.xor_self]
  | step _ ad ih =>
    rw [← ih, ← cons_adj b ok h ad]
    rename_i u v p k _
    cases one? ss x <;> cases one? ss u <;> cases one? ss v <;> rfl
theorem cons_no_odd {ss : List Int} {ts : List Tie} {n : Nat} (b : Bin ss) (ok : ∀ t ∈ ts, TieOk ss.length t) (h : Cons ss ts) : ¬ Odd ts n := by
  rintro ⟨x, _, r⟩
  have := cons_walk b ok h r
  rw [Bool.xor_self] at this
  cases this
theorem leader_one {ts : List Tie} {m m' i : Int} (h : leader ts m) (h' : leader ts m') (r : Rch ts m i) (r' : Rch ts m' i) : m = m' := by
  have h1 := h m' (r.trans r'.symm)
  have h2 := h' m (r'.trans r.symm)
  omega
theorem told_unique {ts : List Tie} {n : Nat} {ss zs : List Int} (ok : ∀ t ∈ ts, TieOk n t) (h : Told ts n ss) (g : Told ts n zs) (c : Cons ss ts) : ss = zs := by
  refine List.ext_getElem? fun j => ?_
  by_cases hj : j < n
  · obtain ⟨m, l1, r1⟩ := h.each j (by omega) (by omega)
    obtain ⟨m', l2, r2⟩ := g.each j (by omega) (by omega)
    obtain rfl := leader_one l1 l2 ⟨_, r1⟩ ⟨_, r2⟩
    have w := cons_walk h.bin (by rw [h.len]; exact ok) c (r1.trans r2.symm)
    rw [Bool.xor_self] at w
    have e : one? ss j = one? zs j := by
      revert w
      cases one? ss (j : Int) <;> cases one? zs (j : Int) <;> simp
    have b1 := sd_bin h.bin (i := j) (by omega) (by rw [h.len]; omega)
    have b2 := sd_bin g.bin (i := j) (by omega) (by rw [g.len]; omega)
    obtain ⟨h1, e1⟩ := sd_get (ss := ss) (i := j) (by omega) (by rw [h.len]; omega)
    obtain ⟨h2, e2⟩ := sd_get (ss := zs) (i := j) (by omega) (by rw [g.len]; omega)
    have es : sd ss j = sd zs j := by
      unfold one? at e
      rcases b1 with x | x <;> rcases b2 with y | y <;> rw [x, y] at e ⊢ <;> revert e <;> decide
    rw [Int.toNat_natCast] at h1 h2
    rw [List.getElem?_eq_getElem h1, List.getElem?_eq_getElem h2]
    have : ss[j] = zs[j] := by
      have q1 : sd ss j = ss[j] := e1
      have q2 : sd zs j = zs[j] := e2
      rw [← q1, ← q2, es]
    rw [this]
  · rw [List.getElem?_eq_none (by rw [h.len]; omega), List.getElem?_eq_none (by rw [g.len]; omega)]
theorem told_odd {ts : List Tie} {n : Nat} {ss : List Int} (ok : ∀ t ∈ ts, TieOk n t) (h : Told ts n ss) {t : Tie} (ht : t ∈ ts) (hb : brk ss t = true) : Odd ts n := by
  have okt := ok t ht
  obtain ⟨m, l1, r1⟩ := h.each t.one okt.1 okt.2.1
  obtain ⟨m', l2, r2⟩ := h.each t.other okt.2.2.1 okt.2.2.2.1
  have ad : Adj ts t.one t.other t.foe := ⟨t, ht, rfl, .inl ⟨rfl, rfl⟩⟩
  obtain rfl := leader_one l1 l2 (Rch.trans ⟨_, r1⟩ (Rch.adj ad)) ⟨_, r2⟩
  have w := (r1.step ad).trans r2.symm
  refine ⟨m, Rch.rng ok ⟨okt.1, okt.2.1⟩ ⟨_, r1.symm⟩, ?_⟩
  have e : ((one? ss t.one ^^ t.foe) ^^ one? ss t.other) = true := by
    rw [brk_one h.bin (by rw [h.len]; exact okt)] at hb
    revert hb
    cases one? ss t.one <;> cases one? ss t.other <;> cases t.foe <;> simp
  rw [← e]
  exact w
theorem bad_nil {ss : List Int} {ts : List Tie} : bad ss ts = [] ↔ Cons ss ts := by
  unfold bad badTo Cons
  rw [List.filter_eq_nil_iff]
  constructor
  · intro h t ht
    obtain ⟨j, hj⟩ := List.getElem?_of_mem ht
    have hl := (List.getElem?_eq_some_iff.mp hj).1
    have := h j (mem_rng.mpr (by omega))
    rw [tieAt_of hj] at this
    simpa using this
  · intro h i hi
    rw [h _ (tieAt_mem hi)]
    decide
/-! ### groups by their least places, sides along the ties -/
theorem RP.mono {ts ts' : List Tie} (h : ∀ t ∈ ts, t ∈ ts') {a b : Int} {p : Bool} (r : RP ts a b p) : RP ts' a b p := by
  induction r with
  | nil => exact .nil
  | step _ ad ih =>
    obtain ⟨t, ht, e, q⟩ := ad
    exact ih.step ⟨t, h t ht, e, q⟩
def bit (x : Int) : Bool := decide (x = 1)
structure GS (ts : List Tie) (n : Nat) (g s : Int → Int) (good : Bool) : Prop where
  rp : ∀ i : Int, 0 ≤ i → i < n → RP ts (g i) i (bit (s i))
  le : ∀ i : Int, 0 ≤ i → i < n → 0 ≤ g i ∧ g i ≤ i
  bn : ∀ i : Int, 0 ≤ i → i < n → s i = 0 ∨ s i = 1
  eq : ∀ t ∈ ts, g t.one = g t.other
  yes : good = true → ∀ t ∈ ts, (bit (s t.one) ^^ bit (s t.other)) = t.foe
  no : good = false → Odd ts n
theorem GS.nil (n : Nat) : GS [] n (fun i => i) (fun _ => 0) true :=
  ⟨fun i _ _ => .nil, fun i h _ => ⟨h, Int.le_refl _⟩, fun _ _ _ => .inl rfl, fun t h => by simp at h, fun _ t h => by simp at h, fun h => by cases h⟩
theorem GS.same {ts : List Tie} {n : Nat} {g s : Int → Int} {good : Bool} (h : GS ts n g s good) {a b : Int} (r : Rch ts a b) : g a = g b :=
  r.ind (fun x => g a = g x) rfl fun x y k e ad => by
    obtain ⟨t, ht, _, q⟩ := ad
    have := h.eq t ht
    rcases q with ⟨rfl, rfl⟩ | ⟨rfl, rfl⟩
    · rw [e, this]
    · rw [e, this]
theorem GS.lead {ts : List Tie} {n : Nat} {g s : Int → Int} {good : Bool} (ok : ∀ t ∈ ts, TieOk n t) (h : GS ts n g s good) {i : Int} (h0 : 0 ≤ i) (h1 : i < n) : leader ts (g i) := fun q hq => by
  have e1 := h.same hq
  have e2 := h.same (⟨_, h.rp i h0 h1⟩ : Rch ts (g i) i)
  have r := hq.rng ok ⟨(h.le i h0 h1).1, by have := (h.le i h0 h1).2; omega⟩
  have := (h.le q r.1 r.2).2
  omega
def gNew (g : Int → Int) (low high : Int) : Int → Int := fun x => if low < high ∧ g x = high then low else g x
def sNew (g s : Int → Int) (low high turn : Int) : Int → Int := fun x => if low < high ∧ g x = high then (s x + turn) % 2 else s x
theorem bit_add {a b : Int} (ha : a = 0 ∨ a = 1) (hb : b = 0 ∨ b = 1) : bit ((a + b) % 2) = (bit a ^^ bit b) ∧ ((a + b) % 2 = 0 ∨ (a + b) % 2 = 1) := by
  rcases ha with rfl | rfl <;> rcases hb with rfl | rfl <;> decide
theorem GS.step {ts : List Tie} {n : Nat} {g s : Int → Int} {good : Bool} (h : GS ts n g s good) (okts : ∀ t ∈ ts, TieOk n t) {t : Tie} (ok : TieOk n t) {low high turn : Int} (hlow : low = min (g t.one) (g t.other)) (hhigh : high = max (g t.one) (g t.other)) (ht : turn = (s t.one + s t.other + (if t.foe = true then 1 else 0)) % 2) :
    GS (ts ++ [t]) n (gNew g low high) (sNew g s low high turn) (if low = high then good && decide (turn = 0) else good) := by
  have mono : ∀ x ∈ ts, x ∈ ts ++ [t] := fun x hx => List.mem_append_left _ hx
  have ad : Adj (ts ++ [t]) t.one t.other t.foe := ⟨t, by simp, rfl, .inl ⟨rfl, rfl⟩⟩
  have r1 := (h.rp t.one ok.1 ok.2.1).mono mono
  have r2 := (h.rp t.other ok.2.2.1 ok.2.2.2.1).mono mono
  have b1 := h.bn t.one ok.1 ok.2.1
  have b2 := h.bn t.other ok.2.2.1 ok.2.2.2.1
  have bt : bit turn = ((bit (s t.one) ^^ bit (s t.other)) ^^ t.foe) ∧ (turn = 0 ∨ turn = 1) := by
    rw [ht]
    rcases b1 with e | e <;> rcases b2 with e' | e' <;> rw [e, e'] <;> cases t.foe <;> decide
  have cross : low < high → RP (ts ++ [t]) low high (bit turn) := fun hl => by
    by_cases hc : g t.one ≤ g t.other
    · have e1 : low = g t.one := by omega
      have e2 : high = g t.other := by omega
      have w := (r1.step ad).trans r2.symm
      rw [e1, e2, bt.1]
      rw [show ((bit (s t.one) ^^ bit (s t.other)) ^^ t.foe) = ((bit (s t.one) ^^ t.foe) ^^ bit (s t.other)) from by cases bit (s t.one) <;> cases bit (s t.other) <;> cases t.foe <;> rfl]
      exact w
    · have e1 : low = g t.other := by omega
      have e2 : high = g t.one := by omega
      have w := (r2.step ad.symm).trans r1.symm
      rw [e1, e2, bt.1]
      rw [show ((bit (s t.one) ^^ bit (s t.other)) ^^ t.foe) = ((bit (s t.other) ^^ t.foe) ^^ bit (s t.one)) from by cases bit (s t.one) <;> cases bit (s t.other) <;> cases t.foe <;> rfl]
      exact w
  refine ⟨fun i h0 h1 => ?_, fun i h0 h1 => ?_, fun i h0 h1 => ?_, fun x hx => ?_, fun hg x hx => ?_, fun hg => ?_⟩
  · unfold gNew sNew
    by_cases hc : low < high ∧ g i = high
    · rw [if_pos hc, if_pos hc, (bit_add (h.bn i h0 h1) bt.2).1, Bool.xor_comm]
      have w := (h.rp i h0 h1).mono mono
      rw [hc.2] at w
      exact (cross hc.1).trans w
    · rw [if_neg hc, if_neg hc]
      exact (h.rp i h0 h1).mono mono
  · unfold gNew
    have l := h.le i h0 h1
    have l1 := h.le t.one ok.1 ok.2.1
    have l2 := h.le t.other ok.2.2.1 ok.2.2.2.1
    split
    · omega
    · exact l
  · unfold sNew
    split
    · exact (bit_add (h.bn i h0 h1) bt.2).2
    · exact h.bn i h0 h1
  · unfold gNew
    rcases List.mem_append.mp hx with hx | hx
    · rw [h.eq x hx]
    · rw [List.mem_singleton.mp hx]
      split <;> split <;> omega
  · rcases List.mem_append.mp hx with hx | hx
    · have hgood : good = true := by
        by_cases e : low = high
        · rw [if_pos e] at hg
          revert hg
          cases good <;> simp
        · rw [if_neg e] at hg
          exact hg
      have q := h.yes hgood x hx
      have e := h.eq x hx
      unfold sNew
      by_cases hc : low < high ∧ g x.one = high
      · have hc' : low < high ∧ g x.other = high := ⟨hc.1, by rw [← e]; exact hc.2⟩
        have okx := okts x hx
        rw [if_pos hc, if_pos hc', (bit_add (h.bn x.one okx.1 okx.2.1) bt.2).1, (bit_add (h.bn x.other okx.2.2.1 okx.2.2.2.1) bt.2).1, ← q]
        cases bit (s x.one) <;> cases bit (s x.other) <;> cases bit turn <;> rfl
      · have hc' : ¬ (low < high ∧ g x.other = high) := fun z => hc ⟨z.1, by rw [e]; exact z.2⟩
        rw [if_neg hc, if_neg hc']
        exact q
    · rw [List.mem_singleton.mp hx]
      unfold sNew
      by_cases e : low = high
      · rw [if_pos e] at hg
        have h0 : turn = 0 := by
          revert hg
          cases good <;> simp
        rw [if_neg (by omega), if_neg (by omega)]
        have z := bt.1
        rw [h0] at z
        revert z
        cases bit (s t.one) <;> cases bit (s t.other) <;> cases t.foe <;> decide
      · have hlt : low < high := by omega
        by_cases hc : g t.one ≤ g t.other
        · rw [if_neg (by omega), if_pos ⟨hlt, by omega⟩, (bit_add b2 bt.2).1, bt.1]
          cases bit (s t.one) <;> cases bit (s t.other) <;> cases t.foe <;> rfl
        · rw [if_pos ⟨hlt, by omega⟩, if_neg (by omega), (bit_add b1 bt.2).1, bt.1]
          cases bit (s t.one) <;> cases bit (s t.other) <;> cases t.foe <;> rfl
  · have old : good = false → Odd (ts ++ [t]) n := fun e => by
      obtain ⟨x, hx, r⟩ := h.no e
      exact ⟨x, hx, r.mono mono⟩
    by_cases e : low = high
    · rw [if_pos e] at hg
      cases hgood : good
      · exact old hgood
      · rw [hgood] at hg
        have h1 : turn = 1 := by
          rcases bt.2 with z | z
          · rw [z] at hg
            cases hg
          · exact z
        have eg : g t.one = g t.other := by omega
        have w := (r1.step ad).trans (eg ▸ r2).symm
        refine ⟨g t.one, ?_, ?_⟩
        · have := h.le t.one ok.1 ok.2.1
          have := ok.2.1
          omega
        · have z := bt.1
          rw [h1] at z
          rw [show ((bit (s t.one) ^^ t.foe) ^^ bit (s t.other)) = true from by
            revert z
            cases bit (s t.one) <;> cases bit (s t.other) <;> cases t.foe <;> decide] at w
          exact w
    · rw [if_neg e] at hg
      exact old hg
/-! ### d.update(e) -/
def rUpdate : V → List V → Hp → VK → Prop := fun x vs H Q => ∃ (a b : Addr) (kvs more : List (Key × V)), x = .ref a ∧ vs = [.ref b] ∧ H a = some (.dK kvs) ∧ H b = some (.dK more) ∧ a ≠ b ∧ kvs.length + more.length ≤ sizeLine ∧ Q .non (upd H a (.dK (mergeK kvs more)))
theorem mt_update {X : Cx} : MtR X "dict.update" rUpdate := by
  intro pins s σ H x vs v us Q I rx rv h
  obtain ⟨a, b, kvs, more, ex, ev, e1, e2, ne, hl, q⟩ := h
  subst ex
  subst ev
  obtain rfl : v = Value.ref a := rx
  obtain ⟨u, eu, r1⟩ := vals1 rv
  subst eu
  obtain rfl : u = Value.ref b := r1
  obtain ⟨z1, hd1, vs1, rel1, dd1⟩ := dk_of I.hok e1
  obtain ⟨z2, hd2, vs2, rel2, dd2⟩ := dk_of I.hok e2
  refine call_meetsIn PySem.F.slot_dict_update dd1.typeIs PySem.F.entry_dict_update (PySem.F.args_dict_update_2 _ _) (meets_dict_update (mixKind X.prog X.w) a b ne hd2) ⟨vs1, vs2, dd1, dd2, by rw [← rel1.length, ← rel2.length]; exact hl, fun h' dd' _ hs => ⟨.non, _, ?_, rfl, q⟩⟩
  have he : ∃ q, h'.get? a = some q := let ⟨q, _, _, hq, _⟩ := dd'; ⟨q, hq⟩
  exact d_write (t' := s.toks) I (by rw [e1]; exact True.intro) hs he (dk_new (Nat.le_trans (length_mergeK more kvs) hl) hd1 (rel2.merge rel1) dd')
/-! ### for each place its ties -/
theorem Same.mut {H H' : Hp} {a : Addr} {o : HO} (s : Same H H') (h : H a = none) : Same H (upd H' a o) := fun b x e => by
  rw [upd_ne (ne_of_none e h)]
  exact s b x e
abbrev Nb := Int × Bool
def NbV (H : Hp) (v : V) (p : Nb) : Prop := ∃ a, v = .ref a ∧ H a = some (.tup [.int p.1, .str (kindS p.2)])
theorem NbV.tk {H H' : Hp} (k : Tk H H') {v : V} {p : Nb} (h : NbV H v p) : NbV H' v p := by
  obtain ⟨a, rfl, e⟩ := h
  exact ⟨a, rfl, k _ _ e⟩
structure Around (H : Hp) (L : Addr) (As : List Addr) (N : Nat → List Nb) : Prop where
  at' : H L = some (.lst (As.map V.ref))
  nd : As.Nodup
  each : ∀ j a, As[j]? = some a → ∃ vs, H a = some (.lst vs) ∧ Paired (NbV H) vs (N j)
  out : L ∉ As
theorem Around.same {H H' : Hp} {L : Addr} {As : List Addr} {N : Nat → List Nb} (h : Around H L As N) (s : Same H H') : Around H' L As N :=
  ⟨s _ _ h.at', h.nd, fun j a e => by
    obtain ⟨vs, h1, h2⟩ := h.each j a e
    exact ⟨vs, s _ _ h1, Paired.mono (fun _ _ x => x.tk (Same.tk s)) h2⟩, h.out⟩
theorem Around.put {H : Hp} {L q : Addr} {As : List Addr} {N : Nat → List Nb} (h : Around H L As N) {j : Nat} {a : Addr} {vs : List V} {p : Nb} (ea : As[j]? = some a) (ev : H a = some (.lst vs)) (eq : NbV H (.ref q) p) :
    Around (upd H a (.lst (vs ++ [.ref q]))) L As (fun i => N i ++ if i = j then [p] else []) := by
  have k : Tk H (upd H a (.lst (vs ++ [.ref q]))) := tk_lst ev
  refine ⟨?_, h.nd, fun i b e => ?_, h.out⟩
  · have ne : L ≠ a := fun z => h.out (by rw [z]; exact List.mem_of_getElem? ea)
    rw [upd_ne ne]
    exact h.at'
  · obtain ⟨ws, h1, h2⟩ := h.each i b e
    by_cases hij : i = j
    · subst hij
      rw [ea] at e
      cases e
      rw [ev] at h1
      cases h1
      refine ⟨_, upd_same, ?_⟩
      rw [if_pos rfl]
      exact Paired.snoc (Paired.mono (fun _ _ x => x.tk k) h2) (eq.tk k)
    · have ne : b ≠ a := fun z => hij (by
        subst z
        exact (List.getElem?_inj (List.getElem?_eq_some_iff.mp e).1 h.nd).mp (e.trans ea.symm))
      refine ⟨ws, by rw [upd_ne ne]; exact h1, ?_⟩
      rw [if_neg hij, List.append_nil]
      exact Paired.mono (fun _ _ x => x.tk k) h2
def nb1 (t : Tie) (i : Int) : List Nb := (if i = t.one then [(t.other, t.foe)] else []) ++ (if i = t.other then [(t.one, t.foe)] else [])
def nbs (ts : List Tie) (i : Int) : List Nb := ts.flatMap fun t => nb1 t i
theorem nbs_snoc (ts : List Tie) (t : Tie) (i : Int) : nbs (ts ++ [t]) i = nbs ts i ++ nb1 t i := by
  unfold nbs
  rw [List.flatMap_append]
  simp
theorem nb1_len (t : Tie) (i : Int) : (nb1 t i).length ≤ 2 := by
  unfold nb1
  rw [List.length_append]
  split <;> split <;> simp
theorem nbs_len (ts : List Tie) (i : Int) : (nbs ts i).length ≤ 2 * ts.length := by
  induction ts with
  | nil => simp [nbs]
  | cons t ts ih =>
    have h := nb1_len t i
    unfold nbs at ih ⊢
    rw [List.flatMap_cons, List.length_append, List.length_cons]
    omega
theorem mem_nbs {ts : List Tie} {i : Int} {p : Nb} : p ∈ nbs ts i ↔ Adj ts i p.1 p.2 := by
  unfold nbs Adj nb1
  rw [List.mem_flatMap]
  constructor
  · rintro ⟨t, ht, h⟩
    refine ⟨t, ht, ?_⟩
    rcases List.mem_append.mp h with h | h
    · split at h
      · rename_i e
        rw [List.mem_singleton] at h
        subst h
        exact ⟨rfl, .inl ⟨e.symm, rfl⟩⟩
      · simp at h
    · split at h
      · rename_i e
        rw [List.mem_singleton] at h
        subst h
        exact ⟨rfl, .inr ⟨rfl, e.symm⟩⟩
      · simp at h
  · rintro ⟨t, ht, e, h⟩
    refine ⟨t, ht, List.mem_append.mpr ?_⟩
    obtain ⟨p1, p2⟩ := p
    simp only at e h
    rcases h with ⟨h1, h2⟩ | ⟨h1, h2⟩
    · left
      rw [if_pos h1.symm, List.mem_singleton, ← e, ← h2]
    · right
      rw [if_pos h2.symm, List.mem_singleton, ← e, ← h1]
/-- the list that neighbours tells -/
def AroundAt (H : Hp) (v : V) (n : Int) (ts : List Tie) : Prop := ∃ L As, v = .ref L ∧ (As.length : Int) = n ∧ Around H L As (fun j => nbs ts j)
theorem AroundAt.same {H H' : Hp} {v : V} {n : Int} {ts : List Tie} (h : AroundAt H v n ts) (s : Same H H') : AroundAt H' v n ts := by
  obtain ⟨L, As, rfl, h1, h2⟩ := h
  exact ⟨L, As, rfl, h1, h2.same s⟩
def spNeighbours : Sp := fun vs H Q _ => ∃ (v : V) (n : Int) (ts : List Tie), vs = [v] ∧ WebAt H v n ts ∧ WebOk n ts ∧
  ∀ v' H', AroundAt H' v' n ts → Same H H' → Q v' H'
section
variable {P : Program} {w : World} {K : PySem.W.Frag} {mg : Str → Option Value} {base : Heap}
theorem ok_neighbours {f : Addr} {fd : FuncData} (F : Fun K "neighbours" "neighbours" s_neighbours f fd) (M : Free mg) : FnOk P w K mg base CX0 1 f fd ["web"] spNeighbours := by
  refine F.ok sc_neighbours (fun vs H Q E h => ?_) (fun cdv A outer s H vs Q E hr h => ?_)
  · obtain ⟨v, n, ts, rfl, _⟩ := h
    rfl
  · obtain ⟨v, n, ts, rfl, ⟨a, b, us, rfl, ha, hb, hp⟩, ok, q⟩ := h
    refine ⟨_, (pss_cons (ps_asg (pv 0) (pg_tup rfl (pgs_cons (pg_name (i := 1) sc_neighbours.nd rfl (.inl rfl)) (pgs_cons (pg_name (i := 2) sc_neighbours.nd rfl (.inl rfl)) pgs_nil))))
      (pss_cons (ps_setLc (i := 3) (own := [("place", 4)]) (g := gName 4) (tt := tYes) rfl sc_neighbours.nd rfl rfl (sw_true rfl rfl rfl (by decide +kernel)) (pi_range1 (by rfl) M.range (pa_cons (pv 1) pa_nil)) (blkOk_by (N := N_neighbours) (sc := defScope s_neighbours) (own := [("place", 4)]) (by decide +kernel)) (fun _ _ _ _ _ => (pg_name (i := 4) sc_neighbours.nd rfl (.inl rfl))) (fun _ _ _ _ _ => pts_nil) (fun _ _ _ _ _ => (pe_lst pa_nil)))
      (pss_cons (ps_for PassesOwn.never rfl (pi_tup (pv 2)) (pg_tup rfl (pgs_cons (pg_name (i := 5) sc_neighbours.nd rfl (.inl rfl)) (pgs_cons (pg_name (i := 6) sc_neighbours.nd rfl (.inl rfl)) (pgs_cons (pg_name (i := 7) sc_neighbours.nd rfl (.inl rfl)) pgs_nil))))
        (pss_cons (ps_expr (pe_bm PySem.F.plainAttrs_list PySem.F.slot_list_append PySem.F.type_list_append mt_append (pe_ix ix_list (pv 3) (pv 5) (fun _ _ => rfl)) (pa_cons (pe_tup (pa_cons (pv 6) (pa_cons (pv 7) pa_nil))) pa_nil)))
        (pss_one (ps_expr (pe_bm PySem.F.plainAttrs_list PySem.F.slot_list_append PySem.F.type_list_append mt_append (pe_ix ix_list (pv 3) (pv 6) (fun _ _ => rfl)) (pa_cons (pe_tup (pa_cons (pv 5) (pa_cons (pv 7) pa_nil))) pa_nil))))))
      (pss_one (ps_ret (pv 3)))))), ?_⟩
    obtain ⟨k, rfl⟩ : ∃ k : Nat, n = k := ⟨n.toNat, by have := ok.lo; omega⟩
    have hk : k ≤ 40 := by have := ok.hi; omega
    -- many, ties = web
    refine ⟨.ref a, rfl, a, _, rfl, SqT.of ha, rfl, _, _, rfl, _, _, rfl, rfl, ?_⟩
    -- around
    refine ⟨.int k, rfl, k, rfl, by omega, by omega, fun L nL => ?_⟩
    rw [Int.toNat_natCast]
    refine lc_range (lo := 0) (n := k) (fun i H' => ∃ As : List Addr, As.length = i ∧ Around H' L As (fun _ => []) ∧ (∀ x ∈ As, H x = none) ∧ Same H H') ?_ ?_ ?_
    · exact ⟨[], rfl, ⟨upd_same, List.nodup_nil, fun j a e => by simp at e, by simp⟩, fun x hx => by simp at hx, same_new nL⟩
    · rintro i H1 hi ⟨As, hl, hA, hf, s1⟩
      refine ⟨rfl, Nat.zero_le _, fun p np => ?_⟩
      have hA2 := hA.same (same_new (o := .lst []) np)
      refine ⟨_, hA2.at', by rw [List.length_map]; exact small1000 (by omega), As ++ [p], by rw [List.length_append, hl]; rfl, ?_, fun x hx => ?_, Same.mut (s1.trans (same_new np)) nL⟩
      · have npA : p ∉ As := fun z => by
          obtain ⟨j, hj⟩ := List.getElem?_of_mem z
          obtain ⟨vs, h1, _⟩ := hA.each j p hj
          rw [np] at h1
          cases h1
        have npL : p ≠ L := fun z => by
          have h1 := hA.at'
          rw [← z, np] at h1
          cases h1
        refine ⟨by rw [upd_same, List.map_append]; rfl, ?_, fun j x e => ?_, ?_⟩
        · rw [List.nodup_append]
          refine ⟨hA.nd, by simp, fun x hx y hy z => ?_⟩
          rw [List.mem_singleton] at hy
          subst hy
          subst z
          exact npA hx
        · have hx : x ≠ L := fun z => by
            subst z
            rcases List.mem_append.mp (List.mem_of_getElem? e) with h | h
            · exact hA.out h
            · exact npL (List.mem_singleton.mp h).symm
          rcases List.mem_append.mp (List.mem_of_getElem? e) with h | h
          · obtain ⟨j2, e2⟩ := List.getElem?_of_mem h
            obtain ⟨vs, h1, h2⟩ := hA2.each j2 x e2
            cases h2
            exact ⟨[], by rw [upd_ne hx]; exact h1, .nil⟩
          · rw [List.mem_singleton] at h
            subst h
            exact ⟨[], by rw [upd_ne hx]; exact upd_same, .nil⟩
        · intro z
          rcases List.mem_append.mp z with h | h
          · exact hA.out h
          · exact npL (List.mem_singleton.mp h).symm
      · rcases List.mem_append.mp hx with h | h
        · exact hf x h
        · rw [List.mem_singleton.mp h]
          exact s1.free np
    rintro H0 ⟨As, hl, hA, hf, s0⟩
    have nLH : H L = none := nL
    -- the loop
    refine ⟨.ref b, rfl, b, rfl, ⟨_, SqT.of (s0 _ _ hb)⟩, ?_⟩
    have hlen : us.length = ts.length := Paired.length hp
    refine for_tup (xs := us) (fun i σ' H' => ∃ y5 y6 y7 : Option V, σ' = [some (.ref a), some (.int k), some (.ref b), some (.ref L), none, y5, y6, y7] ∧ Around H' L As (fun j => nbs (ts.take i) j) ∧ Same H H') ?_ ?_ ?_ ?_
    · exact ⟨none, none, none, rfl, hA, s0⟩
    · rintro i σ' H' _ ⟨y5, y6, y7, rfl, hA1, s1⟩
      exact SqT.of (s1 _ _ hb)
    · rintro i x σ' H1 ex ⟨y5, y6, y7, rfl, hA1, s1⟩
      obtain ⟨t, et, c, rfl, hc⟩ := Paired.at hp ex
      have okt := ok.ok t (List.mem_of_getElem? et)
      have hti := (List.getElem?_eq_some_iff.mp et).1
      have etk : ts.take (i + 1) = ts.take i ++ [t] := by
        rw [List.take_add_one, et]
        rfl
      have hts := ok.few
      refine ⟨c, _, rfl, SqT.of (s1 _ _ hc), rfl, _, _, rfl, _, _, rfl, _, _, rfl, rfl, ?_⟩
      obtain ⟨o1, o2, o3, o4, o5⟩ := okt
      -- the first
      obtain ⟨x1, e1, e1'⟩ := getI (xs := As) o1 (by omega)
      obtain ⟨vs1, g1, p1⟩ := hA1.each _ _ e1'
      have l1 := Paired.length p1
      have l1' := nbs_len (ts.take i) (t.one.toNat : Int)
      rw [List.length_take] at l1'
      refine ⟨.ref L, rfl, .int t.one, rfl, L, _, t.one, .ref x1, rfl, rfl, SqL.of hA1.at', ?_, .inl ⟨rfl, _, SqL.of g1⟩, .int t.other, rfl, .str (kindS t.foe), rfl, by show 2 ≤ sizeLine; decide, fun p np => ?_⟩
      · exact atI_of o1 (by rw [List.getElem?_map, e1']; rfl)
      have A2 := hA1.same (same_new (o := .tup [.int t.other, .str (kindS t.foe)]) np)
      refine ⟨x1, vs1, _, rfl, rfl, same_new np _ _ g1, small1000 (by omega), ?_⟩
      have A3 := A2.put e1' (same_new np _ _ g1) (q := p) (p := (t.other, t.foe)) ⟨p, rfl, upd_same⟩
      have s3 : Same H (upd (upd H1 p (.tup [.int t.other, .str (kindS t.foe)])) x1 (.lst (vs1 ++ [.ref p]))) := Same.mut (s1.trans (same_new np)) (hf _ (List.mem_of_getElem? e1'))
      generalize upd (upd H1 p (.tup [.int t.other, .str (kindS t.foe)])) x1 (.lst (vs1 ++ [.ref p])) = H3 at A3 s3
      -- the second
      obtain ⟨x2, e2, e2'⟩ := getI (xs := As) o3 (by omega)
      obtain ⟨vs2, g2, p2⟩ := A3.each _ _ e2'
      have l2 := Paired.length p2
      rw [List.length_append] at l2
      have l2' := nbs_len (ts.take i) (t.other.toNat : Int)
      rw [List.length_take] at l2'
      have l2'' : (if t.other.toNat = t.one.toNat then [(t.other, t.foe)] else []).length ≤ 1 := by split <;> simp
      refine ⟨.ref L, rfl, .int t.other, rfl, L, _, t.other, .ref x2, rfl, rfl, SqL.of A3.at', ?_, .inl ⟨rfl, _, SqL.of g2⟩, .int t.one, rfl, .str (kindS t.foe), rfl, by show 2 ≤ sizeLine; decide, fun p' np' => ?_⟩
      · exact atI_of o3 (by rw [List.getElem?_map, e2']; rfl)
      have A4 := A3.same (same_new (o := .tup [.int t.one, .str (kindS t.foe)]) np')
      refine ⟨x2, vs2, _, rfl, rfl, same_new np' _ _ g2, small1000 (by omega), ?_⟩
      have A5 := A4.put e2' (same_new np' _ _ g2) (q := p') (p := (t.one, t.foe)) ⟨p', rfl, upd_same⟩
      refine ⟨_, _, _, rfl, ?_, Same.mut (s3.trans (same_new np')) (hf _ (List.mem_of_getElem? e2'))⟩
      refine ⟨A5.at', A5.nd, fun j z ez => ?_, A5.out⟩
      obtain ⟨ws, w1, w2⟩ := A5.each j z ez
      refine ⟨ws, w1, ?_⟩
      rw [etk, nbs_snoc]
      have en : nb1 t j = (if j = t.one.toNat then [(t.other, t.foe)] else []) ++ (if j = t.other.toNat then [(t.one, t.foe)] else []) := by
        unfold nb1
        congr 1
        · by_cases h : j = t.one.toNat
          · rw [if_pos h, if_pos (by omega)]
          · rw [if_neg h, if_neg (by omega)]
        · by_cases h : j = t.other.toNat
          · rw [if_pos h, if_pos (by omega)]
          · rw [if_neg h, if_neg (by omega)]
      rw [en, ← List.append_assoc]
      exact w2
    · rintro σ' H1 ⟨y5, y6, y7, rfl, hA1, s1⟩
      rw [hlen, List.take_length] at hA1
      exact ⟨.ref L, rfl, q _ _ ⟨L, As, rfl, by rw [hl], hA1⟩ s1⟩
end
/-! ### the places that ties lead to -/
def sideI (b : Bool) : Int := if b then 1 else 0
def kvOf (ks : List Nb) : List (Key × V) := ks.map fun p => (Sum.inl p.1, V.int (sideI p.2))
theorem kvOf_none {z : Int} : ∀ {ks : List Nb}, z ∉ ks.map (·.1) → valV (kvOf ks) (Sum.inl z) = none
  | [], _ => rfl
  | p :: ks, h => by
    rw [List.map_cons, List.mem_cons, not_or] at h
    have e := kvOf_none (ks := ks) h.2
    have h1 := h.1
    unfold kvOf at e ⊢
    rw [List.map_cons, valV_neg (fun z => h1 (Sum.inl.inj z).symm)]
    exact e
theorem kvOf_some {z : Int} {b : Bool} : ∀ {ks : List Nb}, (ks.map (·.1)).Nodup → (z, b) ∈ ks → valV (kvOf ks) (Sum.inl z) = some (.int (sideI b))
  | p :: ks, nd, h => by
    rw [List.map_cons, List.nodup_cons] at nd
    rcases List.mem_cons.mp h with e | e
    · subst e
      unfold kvOf
      rw [List.map_cons, valV_pos rfl]
    · have q := kvOf_some (ks := ks) nd.2 e
      have ne : p.1 ≠ z := fun y => nd.1 (by rw [y]; exact List.mem_map.mpr ⟨_, e, rfl⟩)
      unfold kvOf at q ⊢
      rw [List.map_cons, valV_neg (fun y => ne (Sum.inl.inj y))]
      exact q
theorem kvOf_put {ks : List Nb} {z : Int} {b : Bool} (h : z ∉ ks.map (·.1)) : putK (kvOf ks) (Sum.inl z) (.int (sideI b)) = kvOf (ks ++ [(z, b)]) := by
  unfold putK
  rw [if_neg]
  · unfold kvOf
    rw [List.map_append]
    rfl
  · intro g
    rw [List.any_eq_true] at g
    obtain ⟨kv, h1, h2⟩ := g
    unfold kvOf at h1
    rw [List.mem_map] at h1
    obtain ⟨p, hp, rfl⟩ := h1
    exact h (List.mem_map.mpr ⟨p, hp, Sum.inl.inj (of_decide_eq_true h2)⟩)
theorem kvOf_len (ks : List Nb) : (kvOf ks).length = ks.length := by unfold kvOf; rw [List.length_map]
theorem pigeon : ∀ (n : Nat) (xs : List Int), xs.Nodup → (∀ x ∈ xs, 0 ≤ x ∧ x < n) → xs.length ≤ n
  | 0, xs, _, h => by
    cases xs with
    | nil => simp
    | cons x r =>
      have := h x (by simp)
      omega
  | n + 1, xs, nd, h => by
    have q := pigeon n (xs.erase (n : Int)) (nd.erase _) fun x hx => by
      have h1 := h x (List.mem_of_mem_erase hx)
      have h2 : x ≠ n := (List.Nodup.mem_erase_iff nd).mp hx |>.1
      omega
    have l := List.length_erase (a := (n : Int)) (l := xs)
    split at l
    · omega
    · omega
structure SF (ts : List Tie) (s : Int) (ks : List Nb) (wl ex : List Int) : Prop where
  nd : (ks.map (·.1)).Nodup
  rp : ∀ p ∈ ks, RP ts s p.1 p.2
  st : s ∈ ks.map (·.1)
  sub : ∀ x ∈ wl, x ∈ ks.map (·.1)
  le : wl.length ≤ ks.length
  cl : ∀ x ∈ ks.map (·.1), x ∉ wl → x ∉ ex → ∀ y k, Adj ts x y k → y ∈ ks.map (·.1)
theorem SF.keys {ts : List Tie} {s : Int} {ks : List Nb} {wl ex : List Int} (h : SF ts s ks wl ex) {x : Int} (hx : x ∈ ks.map (·.1)) : ∃ b, (x, b) ∈ ks ∧ RP ts s x b := by
  obtain ⟨p, hp, rfl⟩ := List.mem_map.mp hx
  exact ⟨p.2, hp, h.rp p hp⟩
theorem SF.few {ts : List Tie} {n : Nat} {s : Int} {ks : List Nb} {wl ex : List Int} (h : SF ts s ks wl ex) (ok : ∀ t ∈ ts, TieOk n t) (hs : 0 ≤ s ∧ s < n) : ks.length ≤ n := by
  have q := pigeon n (ks.map (·.1)) h.nd fun x hx => by
    obtain ⟨b, _, hb⟩ := h.keys hx
    exact Rch.rng ok hs ⟨b, hb⟩
  rw [List.length_map] at q
  exact q
theorem SF.all {ts : List Tie} {s : Int} {ks : List Nb} (h : SF ts s ks [] []) (z : Int) : z ∈ ks.map (·.1) ↔ Rch ts s z := by
  constructor
  · intro hz
    obtain ⟨b, _, hb⟩ := h.keys hz
    exact ⟨b, hb⟩
  · intro hz
    exact hz.ind (fun x => x ∈ ks.map (·.1)) h.st fun x y k hx ad => h.cl x hx (by simp) (by simp) y k ad
theorem SF.pop {ts : List Tie} {s p : Int} {ks : List Nb} {wl : List Int} (h : SF ts s ks (wl ++ [p]) []) : SF ts s ks wl [p] :=
  ⟨h.nd, h.rp, h.st, fun x hx => h.sub x (List.mem_append_left _ hx), by have := h.le; rw [List.length_append] at this; omega, fun x hx h1 h2 => h.cl x hx (fun z => by
    rcases List.mem_append.mp z with z | z
    · exact h1 z
    · exact h2 z) (by simp)⟩
theorem SF.push {ts : List Tie} {s p y : Int} {b f : Bool} {ks : List Nb} {wl : List Int} (h : SF ts s ks wl [p]) (hp : RP ts s p b) (ad : Adj ts p y f) (hy : y ∉ ks.map (·.1)) : SF ts s (ks ++ [(y, b ^^ f)]) (wl ++ [y]) [p] := by
  have em : (ks ++ [(y, b ^^ f)]).map (·.1) = ks.map (·.1) ++ [y] := by rw [List.map_append]; rfl
  refine ⟨?_, fun q hq => ?_, ?_, fun x hx => ?_, ?_, fun x hx h1 h2 z k hz => ?_⟩
  · rw [em, List.nodup_append]
    refine ⟨h.nd, by simp, fun x hx z hz e => ?_⟩
    rw [List.mem_singleton] at hz
    subst hz
    subst e
    exact hy hx
  · rcases List.mem_append.mp hq with q1 | q1
    · exact h.rp q q1
    · rw [List.mem_singleton] at q1
      subst q1
      exact hp.step ad
  · rw [em]
    exact List.mem_append_left _ h.st
  · rw [em]
    rcases List.mem_append.mp hx with q1 | q1
    · exact List.mem_append_left _ (h.sub x q1)
    · exact List.mem_append_right _ q1
  · rw [List.length_append, List.length_append]
    have := h.le
    simp
    omega
  · rw [em] at hx ⊢
    rcases List.mem_append.mp hx with q1 | q1
    · exact List.mem_append_left _ (h.cl x q1 (fun q2 => h1 (List.mem_append_left _ q2)) h2 z k hz)
    · exact absurd (List.mem_append_right _ q1) h1
theorem SF.done {ts : List Tie} {s p : Int} {ks : List Nb} {wl : List Int} (h : SF ts s ks wl [p]) (hp : ∀ q ∈ nbs ts p, q.1 ∈ ks.map (·.1)) : SF ts s ks wl [] :=
  ⟨h.nd, h.rp, h.st, h.sub, h.le, fun x hx h1 _ y k ad => by
    by_cases e : x = p
    · subst e
      exact hp (y, k) (mem_nbs.mpr ad)
    · exact h.cl x hx h1 (fun z => e (List.mem_singleton.mp z)) y k ad⟩
theorem side_xor (b f : Bool) : (if decide (V.str (kindS f) = V.str "friend") = true then sideI b else 1 - sideI b) = sideI (b ^^ f) := by
  cases f
  · cases b <;> rfl
  · cases b <;> rfl
theorem room1 {k : Nat} {A : PySem.Around} (r : Room k A) : A.units + 1 < cLine := by have := r.un; omega
structure SidesOf (ts : List Tie) (s : Int) (ks : List Nb) : Prop where
  nd : (ks.map (·.1)).Nodup
  rp : ∀ p ∈ ks, RP ts s p.1 p.2
  all : ∀ z, z ∈ ks.map (·.1) ↔ Rch ts s z
def spSidesFrom : Sp := fun vs H Q _ => ∃ (v : V) (n : Int) (s : Int) (ts : List Tie), vs = [.int s, v] ∧ AroundAt H v n ts ∧ WebOk n ts ∧ 0 ≤ s ∧ s < n ∧
  ∀ d ks H', H d = none → H' d = some (.dK (kvOf ks)) → Same H H' → SidesOf ts s ks → Q (.ref d) H'
section
variable {P : Program} {w : World} {K : PySem.W.Frag} {mg : Str → Option Value} {base : Heap}
theorem ok_sides_from {f : Addr} {fd : FuncData} (F : Fun K "sides_from" "sides_from" s_sides_from f fd) (M : Free mg) : FnOk P w K mg base CX0 1 f fd ["start", "around"] spSidesFrom := by
  refine F.ok sc_sides_from (fun vs H Q E h => ?_) (fun cdv A outer sh H vs Q E hr h => ?_)
  · obtain ⟨v, n, s, ts, rfl, _⟩ := h
    rfl
  · obtain ⟨v, n, s, ts, rfl, ⟨L, As, rfl, hl, hA⟩, ok, hs0, hs1, q⟩ := h
    have hu := room1 hr
    refine ⟨_, (pss_cons (ps_set (i := 2) sc_sides_from.nd rfl (.inl rfl) (pe_disp (pps_cons (pv 0) pe_int pps_nil) (by rfl) (by rfl) (fun z => by cases z) (by decide)))
      (pss_cons (ps_set (i := 3) sc_sides_from.nd rfl (.inl rfl) (pe_lst (pa_cons (pv 0) pa_nil)))
      (pss_cons (ps_while PassesOwn.never (pt_truth (pv 3) (by intro _; rfl))
        (pss_cons (ps_set (i := 4) sc_sides_from.nd rfl (.inl rfl) (pe_bm0 PySem.F.plainAttrs_list PySem.F.slot_list_pop PySem.F.type_list_pop mt_pop (pv 3)))
        (pss_one (ps_for PassesOwn.never rfl (pi_list (pe_ix ix_list (pv 1) (pv 4) (fun _ _ => rfl))) (pg_tup rfl (pgs_cons (pg_name (i := 5) sc_sides_from.nd rfl (.inl rfl)) (pgs_cons (pg_name (i := 6) sc_sides_from.nd rfl (.inl rfl)) pgs_nil)))
          (pss_one (ps_if (pt_cmp (pc_dnotin hu (pv 5) (pv 2)))
            (Evl.pss_cut (ps_dput hu (pv 2) (pv 5) (pe_ifExp (pt_cmpR op_eq (pv 6) pe_str (nomark _)) (pe_dget hu (pv 2) (pv 4) (fun _ _ => rfl)) (pe_op op_sub pe_int (pe_dget hu (pv 2) (pv 4) (fun _ _ => rfl)))) rfl)
            (pss_one (ps_expr (pe_bm PySem.F.plainAttrs_list PySem.F.slot_list_append PySem.F.type_list_append mt_append (pv 3) (pa_cons (pv 5) pa_nil)))))
            pss_nil))))))
      (pss_one (ps_ret (pv 2)))))), ?_⟩
    obtain ⟨k, rfl⟩ : ∃ k : Nat, n = k := ⟨n.toNat, by have := ok.lo; omega⟩
    have hk : k ≤ 40 := by have := ok.hi; omega
    have hts := ok.few
    -- sides
    refine fun d nd => ⟨.int s, rfl, upd_same, [(Sum.inl s, .int 0)], rfl, (by show 1 ≤ 15; decide), ?_⟩
    have eH : upd (upd H d (.dK [])) d (.dK (mergeK [] [(Sum.inl s, .int 0)])) = upd H d (.dK (kvOf [(s, false)])) := by
      funext b
      by_cases hb : b = d
      · subst hb
        rw [upd_same, upd_same]
        rfl
      · rw [upd_ne hb, upd_ne hb, upd_ne hb]
    rw [eH]
    -- waiting
    refine ⟨.int s, rfl, by show 1 ≤ sizeLine; decide, fun W nW => ?_⟩
    have hdW : W ≠ d := (ne_of_none upd_same nW).symm
    have nWH : H W = none := by rw [upd_ne hdW] at nW; exact nW
    refine ⟨fun m σ' H' => ∃ (y4 y5 y6 : Option V) (ks : List Nb) (wl : List Int), σ' = [some (.int s), some (.ref L), some (.ref d), some (.ref W), y4, y5, y6] ∧ H' d = some (.dK (kvOf ks)) ∧ H' W = some (.lst (wl.map V.int)) ∧ Same H H' ∧ SF ts s ks wl [] ∧ m = 2 * (k - ks.length) + wl.length, ⟨_, none, none, none, [(s, false)], [s], rfl, ?_, upd_same, Same.mut (same_new nd) nWH, ?_, rfl⟩, ?_⟩
    · rw [upd_ne (Ne.symm hdW)]
      exact upd_same
    · exact ⟨by simp, fun p hp => by rw [List.mem_singleton.mp hp]; exact .nil, by simp, fun x hx => hx, Nat.le_refl _, fun x hx h1 => absurd hx h1⟩
    · rintro m σ' H1 ⟨y4, y5, y6, ks, wl, rfl, hd, hW, s1, sf, hm⟩
      refine ⟨.ref W, rfl, _, .inl ⟨_, SqL.of hW, rfl⟩, ?_⟩
      refine ite2 (fun hb => ?_) (fun hb => ?_)
      · -- a place
        cases hwl : wl with
        | nil => rw [hwl] at hb; cases hb
        | cons z zs =>
        obtain ⟨ys, p, e⟩ : ∃ (ys : List Int) (p : Int), z :: zs = ys ++ [p] := ⟨(z :: zs).dropLast, (z :: zs).getLast (by simp), (List.dropLast_concat_getLast (by simp)).symm⟩
        rw [hwl, e] at hW sf hm
        have hpk := sf.sub p (by simp)
        obtain ⟨b, hb1, hb2⟩ := sf.keys hpk
        have hpr := Rch.rng ok.ok ⟨hs0, hs1⟩ ⟨b, hb2⟩
        have sp := sf.pop
        have e3 : ((ys ++ [p]).map V.int).dropLast = ys.map V.int := by simp
        refine ⟨fun σ' H' => ∃ m', m' < m ∧ ∃ (y4 y5 y6 : Option V) (ks : List Nb) (wl : List Int), σ' = [some (.int s), some (.ref L), some (.ref d), some (.ref W), y4, y5, y6] ∧ H' d = some (.dK (kvOf ks)) ∧ H' W = some (.lst (wl.map V.int)) ∧ Same H H' ∧ SF ts s ks wl [] ∧ m' = 2 * (k - ks.length) + wl.length, fun _ _ h => h, ?_⟩
        refine ⟨.ref W, rfl, .inl ⟨rfl, _, SqL.of hW⟩, W, _, .int p, rfl, rfl, hW, by simp, ?_⟩
        rw [e3]
        have hd2 : (upd H1 W (.lst (ys.map V.int))) d = some (.dK (kvOf ks)) := by rw [upd_ne (Ne.symm hdW)]; exact hd
        have hW2 : (upd H1 W (.lst (ys.map V.int))) W = some (.lst (ys.map V.int)) := upd_same
        have s2 : Same H (upd H1 W (.lst (ys.map V.int))) := Same.mut s1 nWH
        generalize upd H1 W (.lst (ys.map V.int)) = H2 at hd2 hW2 s2
        have A2 := hA.same s2
        obtain ⟨x, ex, ex'⟩ := getI (xs := As) hpr.1 (by omega)
        obtain ⟨us, g, pr⟩ := A2.each _ _ ex'
        have epk : ((p.toNat : Nat) : Int) = p := by omega
        rw [epk] at pr
        refine ⟨.ref L, rfl, .int p, rfl, L, _, p, .ref x, rfl, rfl, SqL.of A2.at', atI_of hpr.1 (by rw [List.getElem?_map, ex']; rfl), x, rfl, ⟨_, SqL.of g⟩, ?_⟩
        have gH : H x = some (.lst us) := by
          obtain ⟨us', g', _⟩ := hA.each _ _ ex'
          rw [s2 _ _ g'] at g
          cases g
          exact g'
        refine for_list (xs := us) (fun i σ' H' => ∃ (y5 y6 : Option V) (ks : List Nb) (wl : List Int), σ' = [some (.int s), some (.ref L), some (.ref d), some (.ref W), some (.int p), y5, y6] ∧ H' d = some (.dK (kvOf ks)) ∧ H' W = some (.lst (wl.map V.int)) ∧ Same H H' ∧ SF ts s ks wl [p] ∧ (p, b) ∈ ks ∧ (∀ q ∈ (nbs ts p).take i, q.1 ∈ ks.map (·.1)) ∧ 2 * (k - ks.length) + wl.length < m) ?_ ?_ ?_ ?_
        · exact ⟨y5, y6, ks, ys, rfl, hd2, hW2, s2, sp, hb1, fun q hq => by simp at hq, by rw [hm, List.length_append]; simp⟩
        · rintro i σ' H' _ ⟨y5, y6, ks, wl, rfl, _, _, s3, _⟩
          exact SqL.of (s3 _ _ gH)
        · rintro i u σ' H3 eu ⟨y5, y6, ks, wl, rfl, hd3, hW3, s3, sf3, hb3, hdn, hlt⟩
          have A3 := hA.same s3
          obtain ⟨us', g', pr'⟩ := A3.each _ _ ex'
          rw [s3 _ _ gH] at g'
          cases g'
          rw [epk] at pr'
          obtain ⟨⟨y, fo⟩, ey, c, rfl, hc⟩ := Paired.at pr' eu
          have ady := mem_nbs.mp (List.mem_of_getElem? ey)
          have few := sf3.few ok.ok ⟨hs0, hs1⟩
          have etk : (nbs ts p).take (i + 1) = (nbs ts p).take i ++ [(y, fo)] := by
            rw [List.take_add_one, ey]
            rfl
          refine ⟨c, _, rfl, SqT.of hc, rfl, _, _, rfl, _, _, rfl, rfl, ?_⟩
          refine ⟨.int y, rfl, .ref d, rfl, d, _, rfl, DGet.k (k := Sum.inl y) hd3, _, rfl, ?_⟩
          by_cases hy : y ∈ ks.map (·.1)
          · obtain ⟨yb, yb1, _⟩ := sf3.keys hy
            rw [kvOf_some sf3.nd yb1]
            refine ⟨_, _, ks, wl, rfl, hd3, hW3, s3, sf3, hb3, fun q hq => ?_, hlt⟩
            rw [etk] at hq
            rcases List.mem_append.mp hq with h | h
            · exact hdn q h
            · rw [List.mem_singleton.mp h]
              exact hy
          · rw [kvOf_none hy]
            have sfp := sf3.push (sf3.rp _ hb3) ady hy
            have few2 := sfp.few ok.ok ⟨hs0, hs1⟩
            have lks : (kvOf ks).length < sizeLine := by rw [kvOf_len]; exact small1000 (by omega)
            have vp := kvOf_some sf3.nd hb3
            have ep := kvOf_put (b := b ^^ fo) hy
            refine ⟨fun σ' H' => σ' = [some (.int s), some (.ref L), some (.ref d), some (.ref W), some (.int p), some (.int y), some (.str (kindS fo))] ∧ H' = upd H3 d (.dK (kvOf (ks ++ [(y, b ^^ fo)]))), ?_, ?_⟩
            · refine ⟨.str (kindS fo), rfl, rfl, _, rfl, ?_⟩
              rw [← ep]
              cases fo
              · refine ⟨.ref d, rfl, .int p, rfl, d, _, rfl, (by rw [← vp]; exact DGet.k (k := Sum.inl p) hd3), .ref d, rfl, .int y, rfl, d, _, rfl, DPut.k (k := Sum.inl y) hd3 lks, rfl, ?_⟩
                rw [Bool.xor_false]
              · refine ⟨.ref d, rfl, .int p, rfl, d, _, rfl, (by rw [← vp]; exact DGet.k (k := Sum.inl p) hd3), 1, sideI b, rfl, rfl, .ref d, rfl, .int y, rfl, d, _, rfl, DPut.k (k := Sum.inl y) hd3 lks, rfl, ?_⟩
                cases b <;> rfl
            · rintro σ' H4 ⟨rfl, rfl⟩
              have hW4 : (upd H3 d (.dK (kvOf (ks ++ [(y, b ^^ fo)])))) W = some (.lst (wl.map V.int)) := by rw [upd_ne hdW]; exact hW3
              have lw := sf3.le
              refine ⟨.ref W, rfl, .inl ⟨rfl, _, SqL.of hW4⟩, .int y, rfl, W, _, _, rfl, rfl, hW4, by rw [List.length_map]; exact small1000 (by omega), ?_⟩
              refine ⟨_, _, ks ++ [(y, b ^^ fo)], wl ++ [y], rfl, ?_, by rw [upd_same, List.map_append]; rfl, Same.mut (Same.mut s3 nd) nWH, sfp, List.mem_append_left _ hb3, fun q hq => ?_, ?_⟩
              · rw [upd_ne (Ne.symm hdW)]
                exact upd_same
              · rw [List.map_append]
                rw [etk] at hq
                rcases List.mem_append.mp hq with h | h
                · exact List.mem_append_left _ (hdn q h)
                · rw [List.mem_singleton.mp h]
                  exact List.mem_append_right _ (by simp)
              · rw [List.length_append] at few2 ⊢
                rw [List.length_append]
                simp only [List.length_cons, List.length_nil] at few2 ⊢
                omega
        · rintro σ' H3 ⟨y5, y6, ks, wl, rfl, hd3, hW3, s3, sf3, hb3, hdn, hlt⟩
          rw [Paired.length pr, List.take_length] at hdn
          exact ⟨_, hlt, _, _, _, ks, wl, rfl, hd3, hW3, s3, sf3.done hdn, rfl⟩
      · -- none is left
        have hwl : wl = [] := by
          cases wl with
          | nil => rfl
          | cons z zs => exact absurd rfl hb
        subst hwl
        exact ⟨.ref d, rfl, q d ks H1 nd hd s1 ⟨sf.nd, sf.rp, sf.all⟩⟩
end
theorem mem_putK {k z : Key} {v : V} {kvs : List (Key × V)} : z ∈ (putK kvs k v).map (·.1) ↔ z ∈ kvs.map (·.1) ∨ z = k := by
  unfold putK
  split
  · rename_i h
    rw [List.any_eq_true] at h
    obtain ⟨kv, h1, h2⟩ := h
    have h3 := of_decide_eq_true h2
    rw [List.map_map]
    have e : (Prod.fst ∘ fun kv : Key × V => if kv.1 = k then (kv.1, v) else kv) = Prod.fst := by
      funext p
      show (if p.1 = k then (p.1, v) else p).1 = p.1
      split <;> rfl
    rw [show ((fun x : Key × V => x.1) ∘ fun kv : Key × V => if kv.1 = k then (kv.1, v) else kv) = Prod.fst from e]
    constructor
    · exact .inl
    · rintro (h | h)
      · exact h
      · rw [h, ← h3]
        exact List.mem_map.mpr ⟨kv, h1, rfl⟩
  · rw [List.map_append, List.mem_append]
    simp
theorem mem_mergeK {z : Key} : ∀ {more kvs : List (Key × V)}, z ∈ (mergeK kvs more).map (·.1) ↔ z ∈ kvs.map (·.1) ∨ z ∈ more.map (·.1)
  | [], kvs => by
    show z ∈ kvs.map (·.1) ↔ _
    simp
  | p :: r, kvs => by
    have q := mem_mergeK (z := z) (more := r) (kvs := putK kvs p.1 p.2)
    rw [mem_putK] at q
    show z ∈ (mergeK (putK kvs p.1 p.2) r).map (·.1) ↔ _
    rw [q, List.map_cons, List.mem_cons, or_assoc]
theorem valV_isSome {k : Key} : ∀ {kvs : List (Key × V)}, (valV kvs k).isSome = true ↔ k ∈ kvs.map (·.1)
  | [] => by simp [valV_nil]
  | p :: r => by
    by_cases h : p.1 = k
    · rw [valV_pos h, List.map_cons, List.mem_cons]
      simp [h]
    · rw [valV_neg h, List.map_cons, List.mem_cons, valV_isSome]
      constructor
      · exact .inr
      · rintro (e | e)
        · exact absurd e.symm h
        · exact e
theorem kvOf_keys (ks : List Nb) : (kvOf ks).map (·.1) = (ks.map (·.1)).map Sum.inl := by
  unfold kvOf
  rw [List.map_map, List.map_map]
  rfl
theorem lead_iff {ts : List Tie} {n : Nat} (ok : ∀ t ∈ ts, TieOk n t) {i : Int} (h0 : 0 ≤ i ∧ i < n) : leader ts i ↔ ¬ ∃ x, 0 ≤ x ∧ x < i ∧ Rch ts x i := by
  constructor
  · rintro h ⟨x, h1, h2, h3⟩
    have := h x h3.symm
    omega
  · intro h q hq
    rcases Int.lt_or_le q i with l | l
    · exact absurd ⟨q, (hq.rng ok h0).1, l, hq.symm⟩ h
    · exact l
/-! ### the fixed choice, as it is told -/
def spFixed : Sp := fun vs H Q _ => ∃ (v : V) (n : Nat) (ts : List Tie), vs = [v] ∧ WebAt H v n ts ∧ WebOk n ts ∧
  (∀ ss r H', Told ts n ss → Cons ss ts → Same H H' → H' r = some (.tup (ss.map V.int)) → Q (.ref r) H') ∧ ∀ H', Odd ts n → Same H H' → Q .non H'
theorem valV_merge : ∀ {more kvs : List (Key × V)} {k : Key} {v : V}, valV (mergeK kvs more) k = some v → valV kvs k = some v ∨ (k, v) ∈ more
  | [], _, _, _, h => .inl h
  | p :: r, kvs, k, v, h => by
    have q := valV_merge (more := r) (kvs := putK kvs p.1 p.2) (k := k) (v := v) h
    rcases q with q | q
    · rw [valV_put] at q
      by_cases e : k = p.1
      · rw [if_pos e] at q
        obtain rfl := Option.some.inj q
        exact .inr (by rw [e]; simp)
      · rw [if_neg e] at q
        exact .inl q
    · exact .inr (List.mem_cons_of_mem _ q)
theorem told_of {ts : List Tie} {n : Nat} {ss : List Int} (hl : ss.length = n) (h : ∀ (i : Nat) (x : Int), ss[i]? = some x → ∃ m b, leader ts m ∧ RP ts m i b ∧ x = sideI b) : Told ts n ss := by
  refine ⟨hl, fun x hx => ?_, fun i h0 h1 => ?_⟩
  · obtain ⟨i, hi⟩ := List.getElem?_of_mem hx
    obtain ⟨m, b, _, _, rfl⟩ := h i x hi
    cases b
    · exact .inl rfl
    · exact .inr rfl
  · obtain ⟨h', e⟩ := sd_get (ss := ss) h0 (by rw [hl]; exact h1)
    obtain ⟨m, b, l, r, ex⟩ := h i.toNat _ (List.getElem?_eq_getElem h')
    refine ⟨m, l, ?_⟩
    have e2 : one? ss i = b := by
      unfold one?
      rw [e, ex]
      cases b <;> rfl
    rw [e2]
    rw [show ((i.toNat : Nat) : Int) = i from by omega] at r
    exact r
section
variable {P : Program} {w : World} {K : PySem.W.Frag} {mg : Str → Option Value} {base : Heap}
theorem ok_sides_of {f : Addr} {fd : FuncData} (F : Fun K "sides_of" "sides_of" s_sides_of f fd) (M : Free mg) (D1 : Df P w K mg base 1 "neighbours" ["web"] spNeighbours) (D2 : Df P w K mg base 1 "sides_from" ["start", "around"] spSidesFrom) (D3 : Df P w K mg base 2 "broken_by" ["web", "sides"] spBroken) : FnOk P w K mg base CX0 3 f fd ["web"] spFixed := by
  obtain ⟨f1, fd1, G1, g1, k1, b1⟩ := D1
  obtain ⟨f2, fd2, G2, g2, k2, b2⟩ := D2
  obtain ⟨f3, fd3, G3, g3, k3, b3⟩ := D3
  refine F.ok sc_sides_of (fun vs H Q E h => ?_) (fun cdv A outer sh H vs Q E hr h => ?_)
  · obtain ⟨v, n, ts, rfl, _⟩ := h
    rfl
  · obtain ⟨v, n, ts, rfl, hw, ok, q, qn⟩ := h
    have hu := room1 hr
    have hr1 : Room 1 _ := hr.mono (by decide : 1 ≤ 2)
    have hk : n ≤ 40 := by have := ok.hi; omega
    refine ⟨_, (pss_cons (ps_set (i := 1) sc_sides_of.nd rfl (.inl rfl) (pe_call G1 hr1 (by rfl) g1 k1 b1 .nil pass0 (pa_cons (pv 0) pa_nil)))
      (pss_cons (ps_set (i := 2) sc_sides_of.nd rfl (.inr rfl) pe_dnewK)
      (Evl.pss_cut (ps_for PassesOwn.never rfl (pi_range1 (by rfl) M.range (pa_cons (pe_ix ix_tup (pv 0) pe_int (fun _ _ => rfl)) pa_nil)) (pg_name (i := 3) sc_sides_of.nd rfl (.inl rfl))
        (pss_one (ps_if (pt_cmp (pc_dnotin hu (pv 3) (pv 2)))
          (pss_one (ps_expr (pe_bm PySem.F.plainAttrs_dict PySem.F.slot_dict_update PySem.F.type_dict_update mt_update (pv 2) (pa_cons (pe_call G2 hr1 (by rfl) g2 k2 b2 .nil pass0 (pa_cons (pv 3) (pa_cons (pv 1) pa_nil))) pa_nil))))
          pss_nil)))
      (pss_cons (ps_set (i := 4) sc_sides_of.nd rfl (.inl rfl) (pe_callTy call_tuple_of (by rfl) M.tuple (by decide +kernel) (pa_cons (pe_lc (own := [("place", 5)]) (g := gName 5) (tt := tYes) rfl sc_sides_of.nd (pi_range1 (by rfl) M.range (pa_cons (pe_ix ix_tup (pv 0) pe_int (fun _ _ => rfl)) pa_nil)) (blkOk_by (N := N_sides_of) (sc := defScope s_sides_of) (own := [("place", 5)]) (by decide +kernel)) (fun _ _ _ _ _ => (pg_name (i := 5) sc_sides_of.nd rfl (.inl rfl))) (fun _ _ _ _ _ => pts_nil) (fun _ _ _ _ _ => (pe_dget hu (pv 2) (pv 5) (fun _ _ => rfl)))) pa_nil)))
      (pss_cons (ps_if (pt_cmpR (op_neD hr.units) (pe_call G3 hr (by rfl) g3 k3 b3 .nil pass0 (pa_cons (pv 0) (pa_cons (pv 4) pa_nil))) (pe_tup pa_nil) (nomark _))
        (pss_one (ps_ret pe_non))
        pss_nil)
      (pss_one (ps_ret (pv 4)))))))), ?_⟩
    -- around, told
    refine ⟨v, rfl, v, n, ts, rfl, hw, ok, fun u H1 hA s1 pD nD => ?_⟩
    have nDH : H pD = none := s1.free nD
    have sA : Same H1 (upd H1 pD (.dK [])) := same_new nD
    have hw0 := hw
    obtain ⟨a, b, vs, rfl, ha, hb, hp⟩ := hw
    refine ⟨fun σ' H' => ∃ (y3 : Option V) (kvs : List (Key × V)), σ' = [some (.ref a), some u, some (.ref pD), y3, none, none] ∧ H' pD = some (.dK kvs) ∧ (∀ i : Nat, i < n → ∃ m b, leader ts m ∧ RP ts m i b ∧ valV kvs (Sum.inl (i : Int)) = some (.int (sideI b))) ∧ Same H1 H', ?_, ?_⟩
    · refine ⟨.ref a, rfl, a, _, 0, .int n, rfl, rfl, SqT.of (sA _ _ (s1 _ _ ha)), rfl, n, rfl, by omega, by omega, ?_⟩
      rw [Int.toNat_natCast]
      refine for_range (lo := 0) (n := n) (fun i σ' H' => ∃ (y3 : Option V) (kvs : List (Key × V)), σ' = [some (.ref a), some u, some (.ref pD), y3, none, none] ∧ H' pD = some (.dK kvs) ∧ kvs.length ≤ 40 * i ∧
        (∀ z, z ∈ kvs.map (·.1) ↔ ∃ y, z = Sum.inl y ∧ ∃ x, 0 ≤ x ∧ x < (i : Int) ∧ Rch ts x y) ∧ (∀ (y : Int) (v : V), valV kvs (Sum.inl y) = some v → ∃ m b, leader ts m ∧ RP ts m y b ∧ v = .int (sideI b)) ∧ Same H1 H') ?_ ?_ ?_
      · refine ⟨none, [], rfl, upd_same, by simp, fun z => ⟨fun h => by simp at h, ?_⟩, (fun y v h => by cases h), sA⟩
        rintro ⟨y, _, x, h1, h2, _⟩
        omega
      · rintro i σ' H2 hi ⟨y3, kvs, rfl, hD, hlen, hkeys, hvals, s2⟩
        rw [show (0 : Int) + (i : Nat) = i from by omega]
        have hir : 0 ≤ (i : Int) ∧ (i : Int) < n := by omega
        refine ⟨.int i, rfl, .ref pD, rfl, pD, _, rfl, DGet.k (k := Sum.inl (i : Int)) hD, _, rfl, ?_⟩
        have nx : ∀ y : Int, (∃ x, 0 ≤ x ∧ x < ((i + 1 : Nat) : Int) ∧ Rch ts x y) ↔ (∃ x, 0 ≤ x ∧ x < (i : Int) ∧ Rch ts x y) ∨ Rch ts i y := fun y => by
          constructor
          · rintro ⟨x, h1, h2, h3⟩
            by_cases e : x = i
            · subst e
              exact .inr h3
            · exact .inl ⟨x, h1, by omega, h3⟩
          · rintro (⟨x, h1, h2, h3⟩ | h)
            · exact ⟨x, h1, by omega, h3⟩
            · exact ⟨i, by omega, by omega, h⟩
        by_cases hin : (valV kvs (Sum.inl (i : Int))).isSome = true
        · rw [hin]
          obtain ⟨y, e, x, h1, h2, h3⟩ := (hkeys _).mp (valV_isSome.mp hin)
          cases e
          refine ⟨_, kvs, rfl, hD, by omega, fun z => ?_, hvals, s2⟩
          rw [hkeys]
          constructor
          · rintro ⟨y, e, h⟩
            exact ⟨y, e, (nx y).mpr (.inl h)⟩
          · rintro ⟨y, e, h⟩
            refine ⟨y, e, ?_⟩
            rcases (nx y).mp h with h | h
            · exact h
            · exact ⟨x, h1, h2, h3.trans h⟩
        · rw [Bool.not_eq_true] at hin
          rw [hin]
          have ld : leader ts (i : Int) := (lead_iff ok.ok hir).mpr fun ⟨x, h1, h2, h3⟩ => by
            have := valV_isSome.mpr ((hkeys (Sum.inl (i : Int))).mpr ⟨_, rfl, x, h1, h2, h3⟩)
            rw [hin] at this
            cases this
          refine ⟨.ref pD, rfl, .inr (.inr (.inl ⟨rfl, .inl ⟨_, hD⟩⟩)), .int i, rfl, u, rfl, u, n, i, ts, rfl, hA.same s2, ok, hir.1, hir.2, fun d ks H3 nd hd s3 so => ?_⟩
          have lks : ks.length ≤ n := by
            have q := pigeon n (ks.map (·.1)) so.nd fun x hx => Rch.rng ok.ok hir ((so.all x).mp hx)
            rw [List.length_map] at q
            exact q
          have hpd : pD ≠ d := ne_of_none hD nd
          refine ⟨pD, d, kvs, kvOf ks, rfl, rfl, s3 _ _ hD, hd, hpd, (by rw [kvOf_len, sizeLine_eq]; omega), ?_⟩
          refine ⟨_, mergeK kvs (kvOf ks), rfl, upd_same, ?_, fun z => ?_, fun y v hv => ?_, Same.mut (s2.trans s3) nD⟩
          · have := length_mergeK (kvOf ks) kvs
            rw [kvOf_len] at this
            omega
          · rw [mem_mergeK, hkeys, kvOf_keys]
            constructor
            · rintro (⟨y, e, h⟩ | h)
              · exact ⟨y, e, (nx y).mpr (.inl h)⟩
              · obtain ⟨y, hy, rfl⟩ := List.mem_map.mp h
                exact ⟨y, rfl, (nx y).mpr (.inr ((so.all y).mp hy))⟩
            · rintro ⟨y, rfl, h⟩
              rcases (nx y).mp h with h | h
              · exact .inl ⟨y, rfl, h⟩
              · exact .inr (List.mem_map.mpr ⟨y, (so.all y).mpr h, rfl⟩)
          · rcases valV_merge hv with h | h
            · exact hvals y v h
            · unfold kvOf at h
              obtain ⟨p, hp, e⟩ := List.mem_map.mp h
              cases e
              exact ⟨i, p.2, ld, so.rp p hp, rfl⟩
      · rintro σ' H2 ⟨y3, kvs, rfl, hD, hlen, hkeys, hvals, s2⟩
        refine ⟨_, kvs, rfl, hD, fun i hi => ?_, s2⟩
        obtain ⟨v, hv⟩ := Option.isSome_iff_exists.mp (valV_isSome.mpr ((hkeys (Sum.inl (i : Int))).mpr ⟨_, rfl, i, by omega, by omega, Rch.refl⟩))
        obtain ⟨m, b, l, r, rfl⟩ := hvals i v hv
        exact ⟨m, b, l, r, hv⟩
    rintro σ' H2 ⟨y3, kvs, rfl, hD, hvals, s2⟩
    have s12 := s1.trans s2
    -- sides
    refine ⟨.ref a, rfl, a, _, 0, .int n, rfl, rfl, SqT.of (s12 _ _ ha), rfl, n, rfl, by omega, by omega, fun Z nZ => ?_⟩
    rw [Int.toNat_natCast]
    refine lc_range (lo := 0) (n := n) (fun j H' => ∃ ss : List Int, H' Z = some (.lst (ss.map V.int)) ∧ ss.length = j ∧ (∀ (i : Nat) (x : Int), ss[i]? = some x → ∃ m b, leader ts m ∧ RP ts m i b ∧ x = sideI b) ∧ Same H2 H') ⟨[], upd_same, rfl, fun i x h => by simp at h, same_new nZ⟩ ?_ ?_
    · rintro j H3 hj ⟨ss, hZ, lj, hss, s3⟩
      rw [show (0 : Int) + (j : Nat) = j from by omega]
      obtain ⟨m, b, l, r, hv⟩ := hvals j hj
      refine ⟨rfl, .ref pD, rfl, .int j, rfl, pD, .int (sideI b), rfl, (by rw [← hv]; exact DGet.k (k := Sum.inl (j : Int)) (s3 _ _ hD)), _, hZ, by rw [List.length_map]; exact small1000 (by omega), ss ++ [sideI b], by rw [upd_same, List.map_append]; rfl, by rw [List.length_append, lj]; rfl, fun i x h => ?_, Same.mut s3 nZ⟩
      by_cases hi : i < ss.length
      · rw [List.getElem?_append_left hi] at h
        exact hss i x h
      · rw [List.getElem?_append_right (by omega)] at h
        have e : i = j := by
          have := (List.getElem?_eq_some_iff.mp h).1
          simp at this
          omega
        subst e
        rw [show i - ss.length = 0 from by omega] at h
        have hx : sideI b = x := Option.some.inj h
        exact ⟨m, b, l, r, hx.symm⟩
    · rintro H3 ⟨ss, hZ, lj, hss, s3⟩
      have told := told_of lj hss
      refine ⟨Z, _, rfl, .inl ⟨SqL.of hZ, fun t nt => ?_⟩⟩
      have s4 := (s12.trans s3).trans (same_new (o := .tup (ss.map V.int)) nt)
      have ht4 : (upd H3 t (.tup (ss.map V.int))) t = some (.tup (ss.map V.int)) := upd_same
      generalize upd H3 t (.tup (ss.map V.int)) = H4 at s4 ht4
      refine ⟨.ref a, rfl, .ref t, rfl, .ref a, t, n, ts, ss, rfl, hw0.tk (Same.tk s4), ok, ht4, by rw [lj], fun r H5 s5 h5 => ⟨Nat.zero_le _, fun z nz => ?_⟩⟩
      have s6 := same_new (o := .tup []) nz
      refine ⟨intsD (bad ss ts), intsD [], IntsV.dp ⟨r, rfl, s6 _ _ h5⟩, IntsV.dp ⟨z, rfl, upd_same⟩, shaped_intsD _, shaped_intsD _, _, rfl, ?_⟩
      rw [eqv_nil]
      have s46 := (s4.trans s5).trans s6
      have ht6 := s6 _ _ (s5 _ _ ht4)
      generalize upd H5 z (.tup []) = H6 at s46 ht6
      by_cases hbad : bad ss ts = []
      · rw [hbad]
        exact ⟨.ref t, rfl, q ss t H6 told (bad_nil.mp hbad) s46 ht6⟩
      · have hne : (bad ss ts).isEmpty = false := by
          cases e : bad ss ts with
          | nil => exact absurd e hbad
          | cons x y => rfl
        rw [hne]
        refine qn H6 ?_ s46
        obtain ⟨x, hx⟩ := List.exists_mem_of_ne_nil _ hbad
        unfold bad badTo at hx
        obtain ⟨h1, h2⟩ := List.mem_filter.mp hx
        exact told_odd ok.ok told (tieAt_mem h1) h2
end
/-! ### the parts -/
def PartsAt (H : Hp) (v : V) (ps : List (List Int)) : Prop := ∃ a bs, v = .ref a ∧ H a = some (.tup bs) ∧ Paired (IntsV H) bs ps
theorem parts_tk {H H' : Hp} (k : Tk H H') {bs : List V} {ps : List (List Int)} (h : Paired (IntsV H) bs ps) : Paired (IntsV H') bs ps := Paired.mono (fun _ _ x => x.tk k) h
theorem partsTo_len (ts : List Tie) (n i : Nat) : (partsTo ts n i).length ≤ i := by
  induction i with
  | zero => simp [partsTo, rng]
  | succ i ih =>
    rw [partsTo_succ, List.length_append]
    split
    · simp
      omega
    · simp
      omega
def spPartsOf : Sp := fun vs H Q _ => ∃ (v : V) (n : Nat) (ts : List Tie), vs = [v] ∧ WebAt H v n ts ∧ WebOk n ts ∧
  ∀ v' H', Same H H' → PartsAt H' v' (partsTo ts n n) → Q v' H'
section
variable {P : Program} {w : World} {K : PySem.W.Frag} {mg : Str → Option Value} {base : Heap}
theorem ok_parts_of {f : Addr} {fd : FuncData} (F : Fun K "parts_of" "parts_of" s_parts_of f fd) (M : Free mg) (ms : mg "sorted" = none) (D1 : Df P w K mg base 1 "neighbours" ["web"] spNeighbours) (D2 : Df P w K mg base 1 "sides_from" ["start", "around"] spSidesFrom) : FnOk P w K mg base CX0 2 f fd ["web"] spPartsOf := by
  obtain ⟨f1, fd1, G1, g1, k1, b1⟩ := D1
  obtain ⟨f2, fd2, G2, g2, k2, b2⟩ := D2
  refine F.ok sc_parts_of (fun vs H Q E h => ?_) (fun cdv A outer sh H vs Q E hr h => ?_)
  · obtain ⟨v, n, ts, rfl, _⟩ := h
    rfl
  · obtain ⟨v, n, ts, rfl, hw, ok, q⟩ := h
    have hu := room1 hr
    have hk : n ≤ 40 := by have := ok.hi; omega
    refine ⟨_, (pss_cons (ps_set (i := 1) sc_parts_of.nd rfl (.inl rfl) (pe_call G1 hr (by rfl) g1 k1 b1 .nil pass0 (pa_cons (pv 0) pa_nil)))
      (pss_cons (ps_set (i := 2) sc_parts_of.nd rfl (.inl rfl) (pe_lst pa_nil))
      (pss_cons (ps_set (i := 3) sc_parts_of.nd rfl (.inl rfl) pe_dnewK)
      (pss_cons (ps_for PassesOwn.never rfl (pi_range1 (by rfl) M.range (pa_cons (pe_ix ix_tup (pv 0) pe_int (fun _ _ => rfl)) pa_nil)) (pg_name (i := 4) sc_parts_of.nd rfl (.inl rfl))
        (pss_one (ps_if (pt_cmp (pc_dnotin hu (pv 4) (pv 3)))
          (pss_cons (ps_set (i := 5) sc_parts_of.nd rfl (.inl rfl) (pe_call G2 hr (by rfl) g2 k2 b2 .nil pass0 (pa_cons (pv 4) (pa_cons (pv 1) pa_nil))))
          (pss_cons (ps_expr (pe_bm PySem.F.plainAttrs_dict PySem.F.slot_dict_update PySem.F.type_dict_update mt_update (pv 3) (pa_cons (pv 5) pa_nil)))
          (pss_one (ps_expr (pe_bm PySem.F.plainAttrs_list PySem.F.slot_list_append PySem.F.type_list_append mt_append (pv 2) (pa_cons (pe_callTy call_tuple_of (by rfl) M.tuple (by decide +kernel) (pa_cons (pe_callB (call_sortedDI rfl) (by rfl) ms (by decide +kernel) (pa_cons (pv 5) pa_nil)) pa_nil)) pa_nil))))))
          pss_nil)))
      (pss_one (ps_ret (pe_callTy call_tuple_of (by rfl) M.tuple (by decide +kernel) (pa_cons (pv 2) pa_nil)))))))), ?_⟩
    -- around
    refine ⟨v, rfl, v, n, ts, rfl, hw, ok, fun u H1 hA s1 => ?_⟩
    -- parts, placed
    refine ⟨Nat.zero_le _, fun L nL pD nD => ?_⟩
    have hLD : pD ≠ L := (ne_of_none upd_same nD).symm
    have nDH1 : H1 pD = none := by rw [upd_ne hLD] at nD; exact nD
    have nLH : H L = none := s1.free nL
    have nDH : H pD = none := s1.free nDH1
    have sA : Same H1 (upd (upd H1 L (.lst [])) pD (.dK [])) := (same_new nL).trans (same_new nD)
    obtain ⟨a, b, vs, rfl, ha, hb, hp⟩ := hw
    refine ⟨.ref a, rfl, a, _, 0, .int n, rfl, rfl, SqT.of (sA _ _ (s1 _ _ ha)), rfl, n, rfl, by omega, by omega, ?_⟩
    rw [Int.toNat_natCast]
    refine for_range (lo := 0) (n := n) (fun i σ' H' => ∃ (y4 y5 : Option V) (kvs : List (Key × V)) (bs : List V), σ' = [some (.ref a), some u, some (.ref L), some (.ref pD), y4, y5] ∧ H' L = some (.lst bs) ∧ Paired (IntsV H') bs (partsTo ts n i) ∧ H' pD = some (.dK kvs) ∧ kvs.length ≤ 40 * i ∧
      (∀ z, z ∈ kvs.map (·.1) ↔ ∃ y, z = Sum.inl y ∧ ∃ x, 0 ≤ x ∧ x < (i : Int) ∧ Rch ts x y) ∧ Same H1 H') ?_ ?_ ?_
    · refine ⟨none, none, [], [], rfl, by rw [upd_ne (Ne.symm hLD)]; exact upd_same, ?_, upd_same, by simp, fun z => ?_, sA⟩
      · have e0 : partsTo ts n 0 = [] := by simp [partsTo, rng]
        rw [e0]
        exact .nil
      · constructor
        · intro h
          simp at h
        · rintro ⟨y, _, x, h1, h2, _⟩
          omega
    · rintro i σ' H2 hi ⟨y4, y5, kvs, bs, rfl, hL, hP, hD, hlen, hkeys, s2⟩
      rw [show (0 : Int) + (i : Nat) = i from by omega]
      have hir : 0 ≤ (i : Int) ∧ (i : Int) < n := by omega
      have lbs : bs.length ≤ i := by rw [Paired.length hP]; exact partsTo_len ts n i
      refine ⟨.int i, rfl, .ref pD, rfl, pD, _, rfl, DGet.k (k := Sum.inl (i : Int)) hD, _, rfl, ?_⟩
      have nx : ∀ y : Int, (∃ x, 0 ≤ x ∧ x < ((i + 1 : Nat) : Int) ∧ Rch ts x y) ↔ (∃ x, 0 ≤ x ∧ x < (i : Int) ∧ Rch ts x y) ∨ Rch ts i y := fun y => by
        constructor
        · rintro ⟨x, h1, h2, h3⟩
          by_cases e : x = i
          · subst e
            exact .inr h3
          · exact .inl ⟨x, h1, by omega, h3⟩
        · rintro (⟨x, h1, h2, h3⟩ | h)
          · exact ⟨x, h1, by omega, h3⟩
          · exact ⟨i, by omega, by omega, h⟩
      by_cases hin : (valV kvs (Sum.inl (i : Int))).isSome = true
      · rw [hin]
        obtain ⟨y, e, x, h1, h2, h3⟩ := (hkeys _).mp (valV_isSome.mp hin)
        cases e
        have nl : ¬ leader ts (i : Int) := fun z => (lead_iff ok.ok hir).mp z ⟨x, h1, h2, h3⟩
        refine ⟨_, _, kvs, bs, rfl, hL, ?_, hD, by omega, fun z => ?_, s2⟩
        · rw [partsTo_succ, if_neg nl, List.append_nil]
          exact hP
        · rw [hkeys]
          constructor
          · rintro ⟨y, e, h⟩
            exact ⟨y, e, (nx y).mpr (.inl h)⟩
          · rintro ⟨y, e, h⟩
            refine ⟨y, e, ?_⟩
            rcases (nx y).mp h with h | h
            · exact h
            · exact ⟨x, h1, h2, h3.trans h⟩
      · rw [Bool.not_eq_true] at hin
        rw [hin]
        have ld : leader ts (i : Int) := (lead_iff ok.ok hir).mpr fun ⟨x, h1, h2, h3⟩ => by
          have := valV_isSome.mpr ((hkeys (Sum.inl (i : Int))).mpr ⟨_, rfl, x, h1, h2, h3⟩)
          rw [hin] at this
          cases this
        refine ⟨.int i, rfl, u, rfl, u, n, i, ts, rfl, hA.same s2, ok, hir.1, hir.2, fun d ks H3 nd hd s3 so => ?_⟩
        have lks : ks.length ≤ n := by
          have q := pigeon n (ks.map (·.1)) so.nd fun x hx => Rch.rng ok.ok hir ((so.all x).mp hx)
          rw [List.length_map] at q
          exact q
        have hpd : pD ≠ d := ne_of_none hD nd
        have hLd : L ≠ d := ne_of_none hL nd
        -- update
        refine ⟨.ref pD, rfl, .inr (.inr (.inl ⟨rfl, .inl ⟨_, s3 _ _ hD⟩⟩)), .ref d, rfl, pD, d, kvs, kvOf ks, rfl, rfl, s3 _ _ hD, hd, hpd, (by rw [kvOf_len, sizeLine_eq]; omega), ?_⟩
        have hL4 : (upd H3 pD (.dK (mergeK kvs (kvOf ks)))) L = some (.lst bs) := by rw [upd_ne (Ne.symm hLD)]; exact s3 _ _ hL
        have hd4 : (upd H3 pD (.dK (mergeK kvs (kvOf ks)))) d = some (.dK (kvOf ks)) := by rw [upd_ne (Ne.symm hpd)]; exact hd
        have hD4 : (upd H3 pD (.dK (mergeK kvs (kvOf ks)))) pD = some (.dK (mergeK kvs (kvOf ks))) := upd_same
        have s4 : Same H1 (upd H3 pD (.dK (mergeK kvs (kvOf ks)))) := Same.mut (s2.trans s3) nDH1
        have t4 : Tk H2 (upd H3 pD (.dK (mergeK kvs (kvOf ks)))) := fun c xs e => by
          rw [upd_ne (ne_of e hD (by intro z; cases z))]
          exact s3 _ _ e
        generalize upd H3 pD (.dK (mergeK kvs (kvOf ks))) = H4 at hL4 hd4 hD4 s4 t4
        -- append
        refine ⟨.ref L, rfl, .inl ⟨rfl, _, SqL.of hL4⟩, .ref d, rfl, d, _, ks.map (·.1), rfl, Rd.of hd4, kvOf_keys ks, by rw [List.length_map]; omega, fun ys p hperm hle np => ?_⟩
        have ey : ys = partOf ts n i := by
          refine rising_ext ?_ (part_rising ts n i) fun z => ?_
          · have nd2 : ys.Nodup := hperm.nodup_iff.mpr so.nd
            exact (hle.and nd2).imp fun {x y} h => by omega
          · rw [hperm.mem_iff, so.all, mem_part]
            exact ⟨fun h => ⟨h.rng ok.ok hir, h⟩, fun h => h.2⟩
        refine ⟨p, _, rfl, .inl ⟨SqL.of upd_same, fun t nt => ?_⟩⟩
        have s6 := (same_new (o := .lst (ys.map V.int)) np).trans (same_new (o := .tup (ys.map V.int)) nt)
        have hL6 := s6 _ _ hL4
        refine ⟨L, bs, _, rfl, rfl, hL6, small1000 (by omega), ?_⟩
        have t6 : Tk H2 (upd (upd (upd H4 p (.lst (ys.map V.int))) t (.tup (ys.map V.int))) L (.lst (bs ++ [.ref t]))) := (t4.trans (Same.tk s6)).trans (tk_lst hL6)
        refine ⟨_, _, mergeK kvs (kvOf ks), bs ++ [.ref t], rfl, upd_same, ?_, ?_, ?_, fun z => ?_, Same.mut (s4.trans s6) nL⟩
        · rw [partsTo_succ, if_pos ld]
          refine Paired.snoc (parts_tk t6 hP) ⟨t, rfl, ?_⟩
          rw [← ey]
          exact tk_lst hL6 _ _ upd_same
        · rw [upd_ne hLD]
          exact s6 _ _ hD4
        · have := length_mergeK (kvOf ks) kvs
          rw [kvOf_len] at this
          omega
        · rw [mem_mergeK, hkeys, kvOf_keys]
          constructor
          · rintro (⟨y, e, h⟩ | h)
            · exact ⟨y, e, (nx y).mpr (.inl h)⟩
            · obtain ⟨y, hy, rfl⟩ := List.mem_map.mp h
              exact ⟨y, rfl, (nx y).mpr (.inr ((so.all y).mp hy))⟩
          · rintro ⟨y, rfl, h⟩
            rcases (nx y).mp h with h | h
            · exact .inl ⟨y, rfl, h⟩
            · exact .inr (List.mem_map.mpr ⟨y, (so.all y).mpr h, rfl⟩)
    · rintro σ' H2 ⟨y4, y5, kvs, bs, rfl, hL, hP, hD, hlen, hkeys, s2⟩
      refine ⟨.ref L, rfl, L, bs, rfl, .inl ⟨SqL.of hL, fun t nt => ?_⟩⟩
      exact q _ _ ((s1.trans s2).trans (same_new nt)) ⟨t, bs, rfl, upd_same, parts_tk (Same.tk (same_new nt)) hP⟩
end
/-! ### len(set(t)) of a tuple of ints -/
theorem sub_len : ∀ {ks ns : List Int}, ks.Nodup → (∀ x ∈ ks, x ∈ ns) → ks.length ≤ ns.length
  | [], _, _, _ => Nat.zero_le _
  | k :: ks, ns, nd, h => by
    rw [List.nodup_cons] at nd
    have hk := h k (by simp)
    have q := sub_len (ks := ks) (ns := ns.erase k) nd.2 fun x hx => (List.mem_erase_of_ne (fun z => nd.1 (by rw [← z]; exact hx))).mpr (h x (List.mem_cons_of_mem _ hx))
    rw [List.length_erase_of_mem hk] at q
    have : 0 < ns.length := List.length_pos_of_mem hk
    rw [List.length_cons]
    omega
theorem twice : ∀ {ns : List Int}, ¬ ns.Nodup → ∃ x, x ∈ ns ∧ x ∈ ns.erase x
  | [], h => absurd List.nodup_nil h
  | y :: l, h => by
    by_cases hy : y ∈ l
    · exact ⟨y, by simp, by rw [List.erase_cons_head]; exact hy⟩
    · have hl : ¬ l.Nodup := fun z => h (List.nodup_cons.mpr ⟨hy, z⟩)
      obtain ⟨x, h1, h2⟩ := twice hl
      refine ⟨x, List.mem_cons_of_mem _ h1, ?_⟩
      have ne : y ≠ x := fun z => hy (by rw [z]; exact h1)
      rw [List.erase_cons_tail (by simpa using ne)]
      exact List.mem_cons_of_mem _ h2
theorem many_iff {ks ns : List Int} (nd : ks.Nodup) (h : ∀ x, x ∈ ns ↔ x ∈ ks) : ks.length = ns.length ↔ ns.Nodup := by
  constructor
  · intro e
    by_cases hn : ns.Nodup
    · exact hn
    · obtain ⟨x, h1, h2⟩ := twice hn
      have q := sub_len (ns := ns.erase x) nd fun y hy => by
        by_cases e2 : y = x
        · rw [e2]
          exact h2
        · exact (List.mem_erase_of_ne e2).mpr ((h y).mpr hy)
      rw [List.length_erase_of_mem h1] at q
      have : 0 < ns.length := List.length_pos_of_mem h1
      omega
  · intro hn
    have q1 := sub_len nd fun y hy => (h y).mpr hy
    have q2 := sub_len hn fun y hy => (h y).mp hy
    omega
def tLenSet (K : PySem.W.Frag) (ta : TE) : TE := fun σ H Q => ta σ H fun x H1 => ∃ (l : Addr) (ns : List Int), x = .ref l ∧ SqT K H1 l (ns.map V.int) ∧ ns.length ≤ 4000 ∧ ∀ c : Nat, (c = ns.length ↔ ns.Nodup) → Q (.int c) H1
theorem pe_lenSetT {X : Cx} {a : Expr} {ta : TE} {p p2 q pos : Pos} (hg : Gl X "len") (hm : X.mg "len" = none) (hg2 : Gl X "set") (hm2 : X.mg "set" = none) (ha : PE X a ta) (hc : X.calm = true := by rfl)
    (na : starEach [a] X.env = (false, eval a X.env) :: starEach [] X.env := by rfl) : PE X (.Call (.Name "len" p) [.Call (.Name "set" p2) [a] [] q] [] pos) (tLenSet X.K ta) := by
  refine ⟨fun pins s σ H Q I want => Call_ (ld_blt I hg hm PySem.boot_len (PyProof.Rows.callWith_builtin1 (PyProof.Rows.args_cons (Call_ (ld_blt I hg2 hm2 PyProof.Rows.boot_set (PyProof.Rows.callWith_type1 (PyProof.Rows.args_cons (thn (ha.run pins s σ H _ I want) fun v s1 got => PyProof.Rows.args_nil ?_) na) na rfl))) rfl) rfl rfl))⟩
  obtain ⟨x, H1, J, r1, l, ns, ex, hq, hl, q1⟩ := got
  subst ex
  obtain rfl : v = Value.ref l := r1
  obtain ⟨its, rel, tup, _⟩ := J.tuple hq
  refine call_set_tupI ns (J.ok.hd hc) tup (by simpa using rel.ints) (by unfold scanBound; omega) fun h' tk c hS hcl kp => PyProof.Rows.args_nil ?_
  obtain ⟨o, es, ep, t, ho, hex, hd, _, nd, mem, _, hf, hn, _⟩ := hS
  have J2 : Inv X pins σ H1 { s1 with heap := h', toks := tk } := J.kept kp
  have len : (es.toList.map keyOf).length = c := by rw [List.length_map, Array.length_toList, hn]
  have key : c = ns.length ↔ ns.Nodup := by
    rw [← len]
    refine many_iff nd fun y => ?_
    rw [← mem y, decide_eq_true_iff]
  exact call_len_set ho hex hd hf (by omega) ⟨.int c, H1, J2.tok _, ⟨_, by rw [hn]⟩, q1 c key⟩
/-! ### zip of three tuples of one length -/
def ItZ (K : PySem.W.Frag) (a b c : Addr) : It where
  go := fun i H => ∃ (xs ys zs : List V), (SqT K H a xs ∧ SqT K H b ys ∧ SqT K H c zs) ∧ i < xs.length ∧ ys.length = xs.length ∧ zs.length = xs.length
  yld := fun i H v H' => ∃ T x y z, v = .ref T ∧ H T = none ∧ H' = upd H T (.tup [x, y, z]) ∧ (∀ xs, SqT K H a xs → xs[i]? = some x) ∧ (∀ ys, SqT K H b ys → ys[i]? = some y) ∧ ∀ zs, SqT K H c zs → zs[i]? = some z
  stop := fun i H => ∃ (xs ys zs : List V), (SqT K H a xs ∧ SqT K H b ys ∧ SqT K H c zs) ∧ xs.length = i ∧ ys.length = i ∧ zs.length = i
theorem turn_zip3 {P : Program} {w : World} {K : PySem.W.Frag} {elts : List Expr} {kk : Nat} {tpos : Pos} {a b c z TI TO i1 i2 i3 : Addr} (S : ZipSep3 z TI TO i1 i2 i3 [i1, a] [i2, b] [i3, c]) (n1 : a ≠ i1) (n2 : b ≠ i2) (n3 : c ≠ i3) :
    Turn P w K (.Tuple elts kk tpos) (ItZ K a b c) [z, TI, TO, i1, i2, i3] z (fun i h => IsZip h z TI TO .none ∧ IsTupOf3 h TI (.ref i1) (.ref i2) (.ref i3) ∧ (∃ a1 a2 a3, IsTupOf3 h TO a1 a2 a3) ∧ h.IsTupleIter i1 a i ∧ h.IsTupleIter i2 b i ∧ h.IsTupleIter i3 c i) where
  mem := List.mem_cons_self
  obj := by
    rintro i h ⟨hz, hTI, ⟨a1, a2, a3, hTO⟩, ⟨o1, e1, _, d1⟩, ⟨o2, e2, _, d2⟩, ⟨o3, e3, _, d3⟩⟩ q hq
    simp only [List.mem_cons, List.not_mem_nil, or_false] at hq
    rcases hq with rfl | rfl | rfl | rfl | rfl | rfl
    · exact ⟨_, hz, fun v y => nomatch y⟩
    · exact ⟨_, hTI, fun v y => nomatch y⟩
    · exact ⟨_, hTO, fun v y => nomatch y⟩
    · exact ⟨o1, e1, fun v y => by rw [d1] at y; cases y⟩
    · exact ⟨o2, e2, fun v y => by rw [d2] at y; cases y⟩
    · exact ⟨o3, e3, fun v y => by rw [d3] at y; cases y⟩
  keep := by
    rintro i h h' ⟨hz, hTI, ⟨a1, a2, a3, hTO⟩, t1, t2, t3⟩ kp
    exact ⟨kp z (by simp) _ hz, kp TI (by simp) _ hTI, ⟨a1, a2, a3, kp TO (by simp) _ hTO⟩, t1.at fun o q => kp i1 (by simp) o q, t2.at fun o q => kp i2 (by simp) o q, t3.at fun o q => kp i3 (by simp) o q⟩
  item := by
    intro X hP hw hK hc i pins s σ H E I hf st hg
    subst hP hw hK
    obtain ⟨hz, hTI, hTO, t1, t2, t3⟩ := st
    obtain ⟨xs, ys, zs, ⟨qx, qy, qz⟩, hi, ly, lz⟩ := hg
    obtain ⟨us, ru, tu, _⟩ := I.tuple qx
    obtain ⟨vs, rv, tv, _⟩ := I.tuple qy
    obtain ⟨ws, rw', tw, _⟩ := I.tuple qz
    have lu := ru.length
    have lv := rv.length
    have lw := rw'.length
    obtain ⟨u, hu, eu⟩ := ru.get (List.getElem?_eq_getElem hi)
    obtain ⟨v, hv, ev⟩ := rv.get (List.getElem?_eq_getElem (show i < ys.length by omega))
    obtain ⟨w', hw, ew⟩ := rw'.get (List.getElem?_eq_getElem (show i < zs.length by omega))
    have W := WalksT.zipD3 (A := X.A) S (Draws.tuple (prog := X.prog) (w := X.w) (A := X.A.in1) (I.ok.hd hc) i1 a n1 us.toArray) (Draws.tuple (prog := X.prog) (w := X.w) (A := X.A.in1) (I.ok.hd hc) i2 b n2 vs.toArray) (Draws.tuple (prog := X.prog) (w := X.w) (A := X.A.in1) (I.ok.hd hc) i3 c n3 ws.toArray)
    refine W.item i s _ _ (by simp only [List.size_toArray]; omega) ⟨hz, hTI, hTO, ⟨t1, tu⟩, ⟨t2, tv⟩, ⟨t3, tw⟩⟩ fun T vals h' tk hp newT isT mid kp => ?_
    obtain ⟨y1, y2, y3, p1, p2, p3, rfl⟩ := hp
    have apart := W.apart i T h' mid
    obtain rfl : u = y1 := Option.some.inj (((by simpa using hu) : us.toArray[i]? = some u).symm.trans p1)
    obtain rfl : v = y2 := Option.some.inj (((by simpa using hv) : vs.toArray[i]? = some v).symm.trans p2)
    obtain rfl : w' = y3 := Option.some.inj (((by simpa using hw) : ws.toArray[i]? = some w').symm.trans p3)
    refine ⟨_, rfl, W.go elts kk tpos i T { s with heap := h', toks := tk } _ _ mid fun h2 st2 kp2 => ?_⟩
    obtain ⟨g1, g2, g3, ⟨g4, _⟩, ⟨g5, _⟩, ⟨g6, _⟩⟩ := st2
    have objT : ObjOk X.prog X.w (upd H T (.tup [xs[i], ys[i], zs[i]])) h2 T (.tup [xs[i], ys[i], zs[i]]) := by
      obtain ⟨ot, et, ct, nt, dt⟩ := isT
      exact ⟨by show 3 ≤ sizeLine; decide, [u, v, w'], .cons eu (.cons ev (.cons ew .nil)), ⟨ot, kp2 _ _ apart et, ct, nt, dt⟩⟩
    have J : Inv X pins σ (upd H T (.tup [xs[i], ys[i], zs[i]])) { s with heap := h2, toks := tk } := I.turnedNew (ch := [z, TI, TO, i1, i2, i3]) (fun q ob hq e => by
      simp only [List.mem_cons, List.not_mem_nil, or_false, not_or] at hq
      have nw : q ∉ [z, TO, i1, i2, i3] := by simp [hq]
      exact kp2 q ob nw (kp q ob nw e)) hf newT objT
    refine ⟨.ref T, _, J, rfl, ⟨T, _, _, _, rfl, I.hok.fresh newT, rfl, fun l hl => by rw [I.tuple_inj hl qx]; exact List.getElem?_eq_getElem hi, fun l hl => by rw [I.tuple_inj hl qy]; exact List.getElem?_eq_getElem _, fun l hl => by rw [I.tuple_inj hl qz]; exact List.getElem?_eq_getElem _⟩, ⟨g1, g2, g3, g4, g5, g6⟩, fun q hq => ?_⟩
    have lq : q < s.heap.objs.size := by
      obtain ⟨_, _, ⟨a1, a2, a3, hTO⟩⟩ := (⟨hz, hTI, hTO⟩ : _ ∧ _ ∧ _)
      obtain ⟨o1, e1, _⟩ := t1
      obtain ⟨o2, e2, _⟩ := t2
      obtain ⟨o3, e3, _⟩ := t3
      simp only [List.mem_cons, List.not_mem_nil, or_false] at hq
      rcases hq with rfl | rfl | rfl | rfl | rfl | rfl
      · exact Heap.lt_size hz
      · exact Heap.lt_size hTI
      · exact Heap.lt_size hTO
      · exact Heap.lt_size e1
      · exact Heap.lt_size e2
      · exact Heap.lt_size e3
    rw [upd_ne (Nat.ne_of_lt (Nat.lt_of_lt_of_le lq newT))]
    exact (hf q hq).1
  done := by
    intro X hP hw hK hc i pins s σ H E I hf st hg
    subst hP hw hK
    obtain ⟨hz, hTI, hTO, t1, t2, t3⟩ := st
    obtain ⟨xs, ys, zs, ⟨qx, qy, qz⟩, lx, ly, lz⟩ := hg
    obtain ⟨us, ru, tu, _⟩ := I.tuple qx
    obtain ⟨vs, rv, tv, _⟩ := I.tuple qy
    obtain ⟨ws, rw', tw, _⟩ := I.tuple qz
    have lu := ru.length
    have lv := rv.length
    have lw := rw'.length
    have W := WalksT.zipD3 (A := X.A) S (Draws.tuple (prog := X.prog) (w := X.w) (A := X.A.in1) (I.ok.hd hc) i1 a n1 us.toArray) (Draws.tuple (prog := X.prog) (w := X.w) (A := X.A.in1) (I.ok.hd hc) i2 b n2 vs.toArray) (Draws.tuple (prog := X.prog) (w := X.w) (A := X.A.in1) (I.ok.hd hc) i3 c n3 ws.toArray)
    have en : min (min us.toArray.size vs.toArray.size) ws.toArray.size = i := by simp only [List.size_toArray]; omega
    refine W.done s _ _ ?_ fun h' tk kp => ⟨rfl, ?_⟩
    · rw [en]
      exact ⟨hz, hTI, hTO, ⟨t1, tu⟩, ⟨t2, tv⟩, ⟨t3, tw⟩⟩
    · refine I.turnedL (ch := [z, TI, TO, i1, i2, i3]) (fun q ob hq e => ?_) hf
      simp only [List.mem_cons, List.not_mem_nil, or_false, not_or] at hq
      exact kp q ob (by simp [hq]) e
  self := by
    rintro A i s Q E ⟨hz, _⟩ h
    exact wpAny_pyIter_zip hz h
def iZip3 (K : PySem.W.Frag) (ta : TA) : TI := fun σ H R => ta σ H fun vs H1 => ∃ a b c xs ys zs, vs = [.ref a, .ref b, .ref c] ∧ SqT K H1 a xs ∧ SqT K H1 b ys ∧ SqT K H1 c zs ∧ R (ItZ K a b c) H1
theorem pi_zip3 {X : Cx} {e e2 e3 : Expr} {ta : TA} {p pos tpos : Pos} {elts : List Expr} {kk : Nat} (hg : Gl X "zip") (hm : X.mg "zip" = none) (ha : PA X [e, e2, e3] ta) (hs : starEach [e, e2, e3] X.env = (false, eval e X.env) :: starEach [e2, e3] X.env := by rfl)
    (hpl : (backTo pos (starEach [e2, e3] X.env)).any (·.1) = false := by rfl) : PI X (.Tuple elts kk tpos) (.Call (.Name "zip" p) [e, e2, e3] [] pos) (iZip3 X.K ta) := by
  refine ⟨fun pins s σ H R I want => Call_ (ld_blt I hg hm PyProof.Rows.boot_zip (PyProof.Rows.callWith_type1 (thn (ha.run pos pins s σ H _ I want) fun us s1 got => ?_) hs hpl))⟩
  obtain ⟨vs, H1, J, rel, a, b, c, xs, ys, zs, ex, qa, qb, qc, q⟩ := got
  subst ex
  cases rel with
  | cons r1 rel =>
    cases rel with
    | cons r2 rel =>
      cases rel with
      | cons r3 rel =>
        cases rel
        cases r1
        cases r2
        cases r3
        obtain ⟨u1, _, t1, _⟩ := J.tuple qa
        obtain ⟨u2, _, t2, _⟩ := J.tuple qb
        obtain ⟨u3, _, t3, _⟩ := J.tuple qc
        have la : a < s1.heap.objs.size := let ⟨_, y, _⟩ := t1; Heap.lt_size y
        have lb : b < s1.heap.objs.size := let ⟨_, y, _⟩ := t2; Heap.lt_size y
        have lc : c < s1.heap.objs.size := let ⟨_, y, _⟩ := t3; Heap.lt_size y
        refine zip_begins3 (begins_tuple a u1.toArray) (begins_tuple b u2.toArray) (begins_tuple c u3.toArray) t1 t2 t3 fun h' hz hTI hTO g1 g2 g3 _ kp => wpAny_pyIter_zip hz ?_
        have J2 : Inv X pins σ H1 { s1 with heap := h' } := J.kept (t' := s1.toks) kp
        have S := zip_sep3 (N := s1.heap.objs.size) (fp1 := [a]) (fp2 := [b]) (fp3 := [c]) (fun y hy => by rw [List.mem_singleton.mp hy]; exact la) (fun y hy => by rw [List.mem_singleton.mp hy]; exact lb) (fun y hy => by rw [List.mem_singleton.mp hy]; exact lc)
        refine ⟨s1.heap.objs.size + 5, [s1.heap.objs.size + 5, s1.heap.objs.size + 3, s1.heap.objs.size + 4, s1.heap.objs.size, s1.heap.objs.size + 1, s1.heap.objs.size + 2], _, _, H1, rfl, J2, turn_zip3 S (Nat.ne_of_lt la) (Nat.ne_of_lt (Nat.lt_succ_of_lt lb)) (Nat.ne_of_lt (Nat.lt_succ_of_lt (Nat.lt_succ_of_lt lc))), ⟨hz, hTI, ⟨_, _, _, hTO⟩, ⟨_, g1, rfl, rfl⟩, ⟨_, g2, rfl, rfl⟩, ⟨_, g3, rfl, rfl⟩⟩, fun y hy => ?_, q⟩
        have ly : s1.heap.objs.size ≤ y := by
          simp only [List.mem_cons, List.not_mem_nil, or_false] at hy
          rcases hy with rfl | rfl | rfl | rfl | rfl | rfl
          · exact Nat.le_add_right _ _
          · exact Nat.le_add_right _ _
          · exact Nat.le_add_right _ _
          · exact Nat.le_refl _
          · exact Nat.le_add_right _ _
          · exact Nat.le_add_right _ _
        exact J.fpOk ly (J.hok.fresh ly)
/-! ### t[::-1] of a tuple -/
theorem fm_congr {α β : Type} {f g : α → Option β} : ∀ {l : List α}, (∀ x ∈ l, f x = g x) → l.filterMap f = l.filterMap g
  | [], _ => rfl
  | x :: l, h => by
    rw [List.filterMap_cons, List.filterMap_cons, h x (by simp), fm_congr (l := l) fun y hy => h y (List.mem_cons_of_mem _ hy)]
theorem back_pick (items : Array Value) : ((List.range items.size).filterMap fun (k : Nat) => items[((items.size : Int) - 1 + (k : Int) * (-1)).toNat]?).toArray = items.toList.reverse.toArray := by
  have e : (List.range items.size).filterMap (fun (k : Nat) => items[((items.size : Int) - 1 + (k : Int) * (-1)).toNat]?) = ((List.range items.size).map fun k => items.size - 1 - k).filterMap (items[·]?) := by
    rw [List.filterMap_map]
    refine fm_congr fun k hk => ?_
    have := List.mem_range.mp hk
    show _ = items[items.size - 1 - k]?
    congr 1
    omega
  rw [e, PySem.W.krv_range, List.filterMap_reverse, PySem.W.krv_all]
section
variable {P : Program} {w : World} {A : PySem.Around} {E : Value → Shared → Prop} {s : Shared}
theorem applied_back {sl : Addr} {vk : Value} {n : Nat} {Q : Int × Int × Nat → Shared → Prop} (hs : s.heap.IsSliceOf sl .none .none vk) (pk : IsPart vk (some (-1))) (h : Q ((n : Int) - 1, -1, n) s) : wpAny (model P w) A (Builtin.Slice.sliceApplied (.ref sl) (pure (n : Int))) Q E s := by
  obtain ⟨os, look, _, flds⟩ := id hs
  unfold Builtin.Slice.sliceApplied Builtin.Slice.sliceFields
  refine wpAny_bind (wpAny_bind (wpAny_field look flds (x := .none) rfl (wpAny_bind (wpAny_field look flds (x := .none) rfl (wpAny_bind (wpAny_field look flds (x := vk) rfl (wpAny_pure ?_)))))))
  refine wpAny_bind (HT.slicePart_ pk ?_)
  show wpAny _ _ (if ((-1 : Int) == 0) = true then _ else _) _ _ s
  rw [if_neg (by decide)]
  refine wpAny_bind (HT.slicePart_ .none (wpAny_bind (HT.slicePart_ .none (wpAny_bind (wpAny_pure ?_)))))
  have pl : Builtin.Slice.slicePlaces ((n : Int) - 1) (-1) (-1) = n := by
    unfold Builtin.Slice.slicePlaces
    rw [if_neg (by decide)]
    by_cases z : (n : Int) - 1 > -1
    · rw [if_pos z, show (-(-1) : Int) = 1 from by decide, Int.ediv_one]
      omega
    · rw [if_neg z]
      omega
  show wpAny _ _ (pure ((n : Int) - 1, (-1 : Int), Builtin.Slice.slicePlaces ((n : Int) - 1) (-1) (-1))) _ _ s
  rw [pl]
  exact wpAny_pure h
theorem getItem_back {t sl : Addr} {items : Array Value} {vk : Value} {Q : Value → Shared → Prop} (ht : IsTup s.heap t items) (hs : s.heap.IsSliceOf sl .none .none vk) (pk : IsPart vk (some (-1))) (hsz : items.size ≤ sizeLine)
    (h : Q (.ref s.heap.objs.size) { s with heap := s.heap.push { cls := .type "tuple", data := .seq items.toList.reverse.toArray } }) : wpAny (model P w) A (getItem (.ref t) (.ref sl)) Q E s := by
  have small : sizeOk (.seq items.toList.reverse.toArray) := by
    show items.toList.reverse.toArray.size ≤ sizeLine
    rw [List.size_toArray, List.length_reverse, Array.length_toList]
    exact hsz
  obtain ⟨os, look, kind, _⟩ := id hs
  have isSl : s.TypeIs (.ref sl) "slice" := ⟨os, look, kind⟩
  unfold getItem
  try with_reducible refine wpAny_holding ?_
  first | refine wpAny_bind (wpAny_pure ?_) | skip
  refine wpAny_bind (wpAny_sequenceKey ht.typeIs (by decide) ?_)
  refine wpAny_bind (wpAny_callSpecial?_slot (name := Str.ofString "__getitem__") ht.typeIs PyProof.Rows.slot_tuple_getitem (wpAny_call_entry PyProof.Rows.slot_tuple_getitem ht.typeIs PySem.F.entry_tuple_getitem ?_ (PySem.F.args_tuple_getitem_2 _ _)))
  show wpAny _ _ (Builtin.Tuple.tupleItemsOf (.ref t) >>= _) _ _ s
  refine wpAny_bind (tupleItemsOf_ ht ?_)
  refine wpAny_bind (wpAny_typeOf isSl ?_)
  rw [if_pos (by decide)]
  refine wpAny_bind (applied_back hs pk ?_)
  have no : ¬ (((items.size : Int) - 1 == 0 && (-1 : Int) == 1 && items.size == items.size) = true) := by
    intro z
    rw [Bool.and_eq_true, Bool.and_eq_true] at z
    exact absurd z.1.2 (by decide)
  show wpAny _ _ (if ((items.size : Int) - 1 == 0 && (-1 : Int) == 1 && items.size == items.size) = true then _ else _) _ _ s
  rw [if_neg no, back_pick]
  first
    | exact wpAny_bind (m := Builtin.Tuple.tupleExact _) (wpAny_newObj_type (wpAny_pure ⟨_, rfl, wpAny_pure h⟩) small)
    | exact wpAny_bind (wpAny_bind (m := Builtin.Tuple.tupleExact _) (wpAny_newObj_type (wpAny_pure (wpAny_pure ⟨_, rfl, wpAny_pure h⟩)) small))
    | exact wpAny_bind (m := Builtin.Tuple.tupleExact _) (wpAny_newObj_type (wpAny_bind (wpAny_pure (wpAny_pure ⟨_, rfl, wpAny_pure h⟩))) small)
end
def tRevT (K : PySem.W.Frag) (te : TE) : TE := fun σ H Q => te σ H fun x H1 => ∃ a xs, x = .ref a ∧ SqT K H1 a xs ∧ ∀ p, H1 p = none → Q (.ref p) (upd H1 p (.tup xs.reverse))
theorem pe_revT {X : Cx} {e : Expr} {te : TE} {k : Nat} {p1 p2 p3 pos : Pos} (he : PE X e te) : PE X (.Subscript e (.Slice none none (some (.UnaryOp .USub (.Constant (.int 1) k p1) p2)) p3) pos) (tRevT X.K te) := by
  refine ⟨fun pins s σ H Q I want => Subscript_ (thn (he.run pins s σ H _ I want) fun v s1 got => ?_)⟩
  obtain ⟨x, H1, I1, r1, a, xs, ex, hx, q⟩ := got
  subst ex
  obtain rfl : v = Value.ref a := r1
  have step : PO X (some (.UnaryOp .USub (.Constant (.int 1) k p1) p2)) (tPart (tUn (rU fun i => .int (-i)) (tC (.int 1)))) := po_some (pe_un un_neg pe_int)
  refine wpAny_Slice (thn (po_none.run pins s1 σ H1 (fun o H2 => o = none ∧ H2 = H1) I1 ⟨rfl, rfl⟩) fun vl s2 got2 => ?_)
  obtain ⟨_, _, I2, pl, rfl, rfl⟩ := got2
  refine thn (po_none.run pins s2 σ _ (fun o H3 => o = none ∧ H3 = _) I2 ⟨rfl, rfl⟩) fun vu s3 got3 => ?_
  obtain ⟨_, _, I3, pu, rfl, rfl⟩ := got3
  refine thn (step.run pins s3 σ _ (fun o H4 => o = some (-1) ∧ H4 = _) I3 ⟨1, rfl, -1, rfl, rfl, rfl⟩) fun vk s4 got4 => ?_
  obtain ⟨_, H4, I4, pk, rfl, rfl⟩ := got4
  cases pl
  cases pu
  have I5 : Inv X pins σ H4 { s4 with heap := s4.heap.push { cls := .type "slice", data := .fields #[.none, .none, vk] } } := I4.kept (t' := s4.toks) fun b ob z => Heap.get?_push_of_some _ z
  obtain ⟨its, rel, tup, small⟩ := I5.tuple hx
  have hlen := rel.length
  show wpAny (model X.prog X.w) X.A (subscriptTail e (.Slice none none (some (.UnaryOp .USub (.Constant (.int 1) k p1) p2)) p3) (.ref a) (.ref s4.heap.objs.size)) (EP X pins σ Q) X.xe _
  refine tail_any (ops := [.ref a, .ref s4.heap.objs.size]) tup.typeIs PyProof.Rows.slot_tuple_getitem.lookup ?_ (by with_unfolding_all rfl)
  refine getItem_back tup (Heap.IsSliceOf.new _ .none .none vk) pk (by rw [List.size_toArray]; omega) ?_
  refine ⟨.ref _, _, I5.laid (t' := s4.toks) (o := .tup xs.reverse) (fun b ob z => Heap.get?_push_of_some _ z) (Nat.le_refl _) ?_, rfl, q _ (I5.hok.fresh (Nat.le_refl _))⟩
  exact ⟨by rw [List.length_reverse]; exact small, _, rel.reverse, IsTup.new _ _⟩
/-! ### what is asked of rings -/
def wbelow (lim : Int) : V → Bool
  | .int i => decide (0 ≤ i) && decide (i < lim)
  | _ => false
def unl (lim : Int) : Option (List V) → Bool
  | some xs => xs.all (wbelow lim) && decide xs.Nodup
  | none => false
theorem ints_of {lim : Int} : ∀ {xs : List V}, xs.all (wbelow lim) = true → ∃ ns : List Int, xs = ns.map V.int ∧ ∀ n ∈ ns, 0 ≤ n ∧ n < lim
  | [], _ => ⟨[], rfl, fun n hn => by simp at hn⟩
  | x :: xs, h => by
    rw [List.all_cons, Bool.and_eq_true] at h
    obtain ⟨ns, e, h2⟩ := ints_of h.2
    cases x with
    | int i =>
      have h1 : (decide (0 ≤ i) && decide (i < lim)) = true := h.1
      rw [Bool.and_eq_true, decide_eq_true_iff, decide_eq_true_iff] at h1
      refine ⟨i :: ns, by rw [e]; rfl, fun n hn => ?_⟩
      rcases List.mem_cons.mp hn with z | z
      · rw [z]
        exact h1
      · exact h2 n z
    | _ => exact absurd (show false = true from h.1) Bool.false_ne_true
theorem nodup_ints {ns : List Int} : (ns.map V.int).Nodup ↔ ns.Nodup := by
  unfold List.Nodup
  rw [List.pairwise_map]
  exact ⟨fun h => h.imp fun {a b} g z => g (by rw [z]), fun h => h.imp fun {a b} g z => g (V.int.inj z)⟩
theorem room65 {k : Nat} {A : PySem.Around} (r : Room k A) : A.units + 65 < cLine := by have := r.un; omega
theorem eqv_two (x y u v : Int) : PyData.eqv (intsD [x, y]) (intsD [u, v]) = (decide (u = x) && decide (v = y)) := by
  show PyData.eqv (.tuple [.int x, .int y]) (.tuple [.int u, .int v]) = _
  rw [PyData.eqv, PyData.eqvAll, PyData.eqv, PyData.eqvAll, PyData.eqv, PyData.eqvAll, Bool.and_true]
  rw [Bool.eq_iff_iff, Bool.and_eq_true, Bool.and_eq_true, beq_iff_eq, beq_iff_eq, decide_eq_true_iff, decide_eq_true_iff]
  exact ⟨fun h => ⟨h.1.symm, h.2.symm⟩, fun h => ⟨h.1.symm, h.2.symm⟩⟩
def spBelow : Sp := fun vs H Q _ => ∃ lim v, vs = [.int lim, v] ∧ Kn H v ∧ Q (.bl (wbelow lim v)) H
def spUnlike (Ps : List Addr) : Sp := fun vs H Q _ => ∃ lim v, vs = [.int lim, v] ∧ Kn H v ∧ (∀ xs, parts H v = some xs → (∀ x ∈ xs, Kn H x) ∧ xs.length ≤ 1000) ∧ Tabs Ps H ∧ ∀ H', Kt Ps H H' → Q (.bl (unl lim (parts H v))) H'
def joinB (t : Tie) (a b : Int) : Bool := (decide (t.one = a) && decide (t.other = b)) || (decide (t.one = b) && decide (t.other = a))
def spJoins : Sp := fun vs H Q _ => ∃ (c : Addr) (a b : Int) (t : Tie), vs = [.ref c, .int a, .int b] ∧ H c = some (.tup [.int t.one, .int t.other, .str (kindS t.foe)]) ∧ ∀ H', Same H H' → Q (.bl (joinB t a b)) H'
section
variable {P : Program} {w : World} {K : PySem.W.Frag} {mg : Str → Option Value} {base : Heap}
theorem ok_is_whole_below {f : Addr} {fd : FuncData} (F : Fun K "is_whole_below" "is_whole_below" s_is_whole_below f fd) (D1 : Df P w K mg base 1 "is_whole" ["thing"] spWhole) : FnOk P w K mg base CX0 2 f fd ["limit", "thing"] spBelow := by
  obtain ⟨f1, fd1, G1, g1, k1, b1⟩ := D1
  refine F.ok sc_is_whole_below (fun vs H Q E h => ?_) (fun cdv A outer s H vs Q E hr h => ?_)
  · obtain ⟨lim, v, rfl, _⟩ := h
    rfl
  · obtain ⟨lim, v, rfl, hk, q⟩ := h
    refine ⟨_, (pss_one (ps_ret (pe_and (pe_call G1 hr (by rfl) g1 k1 b1 .nil pass0 (pa_cons (pv 1) pa_nil)) (pe_one (pe_chain op_le op_lt pe_int (pv 1) (pv 0)))))), ?_⟩
    refine ⟨v, rfl, v, rfl, hk, _, rfl, ?_⟩
    cases v with
    | int i =>
      refine ⟨.int i, rfl, 0, i, rfl, rfl, _, rfl, ?_⟩
      have e : wbelow lim (.int i) = (decide (0 ≤ i) && decide (i < lim)) := rfl
      rw [e] at q
      by_cases h0 : (0 : Int) ≤ i
      · rw [decide_eq_true h0] at q ⊢
        rw [Bool.true_and] at q
        exact ⟨.int lim, rfl, i, lim, rfl, rfl, q⟩
      · rw [decide_eq_false h0] at q ⊢
        exact q
    | _ => exact q
theorem ok_are_unlike {f c Pt : Addr} {fd : FuncData} {Ps : List Addr} (F : FunC K "are_unlike_below" "are_unlike_below" s_are_unlike_below f fd c) (TB : GxR.TabB base mg c Pt) (hPt : Pt ∈ Ps) (M : Free mg) (hall : mg "all" = none) (hset : mg "set" = none) (D1 : Df P w K mg base 2 "is_whole_below" ["limit", "thing"] spBelow) : FnOk P w K mg base CX0 4 f fd ["limit", "thing"] (spUnlike Ps) := by
  obtain ⟨f1, fd1, G1, g1, k1, b1⟩ := D1
  refine F.ok sc_are_unlike_below (fun vs H Q E h => ?_) (fun A outer s H vs Q E hr h => ?_)
  · obtain ⟨lim, v, rfl, _⟩ := h
    rfl
  · obtain ⟨lim, v, rfl, hk, hsub, hT, q⟩ := h
    refine ⟨_, (pss_cons (ps_if (pt_not (pt_val (pe_callB call_isi (by rfl) M.isinstance (by decide +kernel) (pa_cons (pv 1) (pa_cons (pe_bltn (v := .ty "tuple") (by rfl) M.tuple (by decide +kernel) rfl) pa_nil)))))
        (pss_one (ps_ret pe_bl))
        pss_nil)
      (pss_one (ps_ret (pe_and (pe_all (k := 2) (own := [("number", 2)]) (g := gName 2) hr TB rfl rfl sc_are_unlike_below.nd (by rfl) hall (pi_tup (pv 1)) (blkOk_by (N := N_are_unlike_below) (sc := defScope s_are_unlike_below) (own := [("number", 2)]) (by decide +kernel)) ⟨rfl, by decide +kernel, by decide +kernel⟩ (show (".0" : Str) ∉ N_are_unlike_below by decide +kernel)
        (fun _ _ _ _ _ _ _ => pg_name (i := 2) sc_are_unlike_below.nd rfl (.inl rfl)) (fun _ _ _ _ _ _ _ hr' => pe_call G1 hr' (by rfl) g1 k1 b1 .nil pass0 (pa_cons (pv 0) (pa_cons (pv 2) pa_nil)))) (pe_one (pe_cmpR op_eq (pe_lenSetT (by rfl) M.len (by rfl) hset (pv 1)) (pe_callB call_len_seq (by rfl) M.len PySem.boot_len (pa_cons (pv 1) pa_nil)) (nomark _))))))), ?_⟩
    obtain ⟨t1, h1, e1⟩ := kn_tup (K := K) hk
    refine ⟨v, rfl, v, _, t1, _, _, rfl, .ty "tuple", h1, e1, _, rfl, ?_⟩
    cases hi : isT H v with
    | false =>
      rw [parts_none hi] at q
      exact q _ (Kt.refl hT)
    | true =>
      obtain ⟨a, xs, rfl, ea⟩ := isT_at hi
      rw [parts_of' ea] at q
      obtain ⟨kn, few⟩ := hsub xs (parts_of' ea)
      refine ⟨.ref a, rfl, a, rfl, ⟨_, SqT.of ea⟩, hT Pt hPt, fun i m H' => i + m = xs.length ∧ Kt Ps H H' ∧ (xs.take i).all (wbelow lim) = true, fun H2 hH2 => ⟨xs.length, by omega, Kt.tabbed hT hPt hH2, rfl⟩, fun i m H' hw => ?_⟩
      obtain ⟨em, kt, hal⟩ := hw
      have ea' := kt.tup hT ea
      by_cases hi : i < xs.length
      · refine .inr ⟨⟨_, _, SqT.of ea', List.getElem?_eq_getElem hi⟩, fun H3 => Kt Ps H H3 ∧ (xs.take (i + 1)).all (wbelow lim) = true, fun H3 n3 => ⟨m - 1, by omega, by omega, n3.1, n3.2⟩, fun x H3 hy => ?_⟩
        obtain ⟨rfl, fy⟩ := hy
        have ex : xs[i]? = some x := fy _ (SqT.of ea')
        refine ⟨rfl, .int lim, rfl, x, rfl, lim, x, rfl, kt.kn hT (kn x (List.mem_of_getElem? ex)), _, rfl, ?_⟩
        have step : (xs.take (i + 1)).all (wbelow lim) = wbelow lim x := by
          rw [List.take_add_one, ex, List.all_append, hal]
          simp
        cases hb : wbelow lim x with
        | true => exact ⟨kt, step.trans hb⟩
        | false =>
          have no : xs.all (wbelow lim) = false := by
            rw [Bool.eq_false_iff]
            intro z
            rw [List.all_eq_true] at z
            rw [z x (List.mem_of_getElem? ex)] at hb
            cases hb
          refine ⟨_, rfl, ?_⟩
          have e : unl lim (some xs) = false := by
            show (xs.all (wbelow lim) && decide xs.Nodup) = false
            rw [no, Bool.false_and]
          rw [e] at q
          exact q _ kt
      · refine .inl ⟨⟨_, SqT.of ea', by omega⟩, _, rfl, ?_⟩
        rw [List.take_of_length_le (by omega)] at hal
        obtain ⟨ns, rfl, _⟩ := ints_of hal
        refine ⟨.ref a, rfl, a, ns, rfl, SqT.of ea', by rw [List.length_map] at few; omega, fun cnt hc => ⟨.ref a, rfl, a, _, rfl, .inr (SqT.of ea'), rfl, ?_⟩⟩
        have e : unl lim (some (ns.map V.int)) = decide (V.int (cnt : Int) = V.int ((ns.map V.int).length : Int)) := by
          show ((ns.map V.int).all (wbelow lim) && decide (ns.map V.int).Nodup) = _
          rw [hal, Bool.true_and, decide_eq_decide, nodup_ints, ← hc, List.length_map]
          constructor
          · intro z
            rw [z]
          · intro z
            have := V.int.inj z
            omega
        rw [← e]
        exact q _ kt
theorem ok_joins {f : Addr} {fd : FuncData} (F : Fun K "joins" "joins" s_joins f fd) : FnOk P w K mg base CX0 1 f fd ["tie", "one", "other"] spJoins := by
  refine F.ok sc_joins (fun vs H Q E h => ?_) (fun cdv A outer s H vs Q E hr h => ?_)
  · obtain ⟨c, a, b, t, rfl, _⟩ := h
    rfl
  · obtain ⟨c, a, b, t, rfl, hc, q⟩ := h
    have hu := room65 hr
    refine ⟨_, (pss_one (ps_ret (pe_cmpR (op_inTup hu) (pe_tup (pa_cons (pe_ix ix_tup (pv 0) pe_int (fun _ _ => rfl)) (pa_cons (pe_ix ix_tup (pv 0) pe_int (fun _ _ => rfl)) pa_nil))) (pe_tup (pa_cons (pe_tup (pa_cons (pv 1) (pa_cons (pv 2) pa_nil))) (pa_cons (pe_tup (pa_cons (pv 2) (pa_cons (pv 1) pa_nil))) pa_nil))) rfl))), ?_⟩
    refine ⟨.ref c, rfl, c, _, 0, _, rfl, rfl, SqT.of hc, rfl, .ref c, rfl, c, _, 1, _, rfl, rfl, SqT.of hc, rfl, by show 2 ≤ sizeLine; decide, fun p1 n1 => ?_⟩
    refine ⟨.int a, rfl, .int b, rfl, by show 2 ≤ sizeLine; decide, fun p2 n2 => ⟨.int b, rfl, .int a, rfl, by show 2 ≤ sizeLine; decide, fun p3 n3 => ⟨by show 2 ≤ sizeLine; decide, fun p4 n4 => ?_⟩⟩⟩
    have s4 := same_new (o := .tup [.ref p2, .ref p3]) n4
    have s3 := (same_new (o := .tup [.int b, .int a]) n3).trans s4
    have s2 := (same_new (o := .tup [.int a, .int b]) n2).trans s3
    have s1 := (same_new (o := .tup [.int t.one, .int t.other]) n1).trans s2
    refine ⟨intsD [t.one, t.other], [intsD [a, b], intsD [b, a]], IntsV.dp ⟨p1, rfl, s2 _ _ upd_same⟩, .tup (SqT.of upd_same) (.cons (IntsV.dp ⟨p2, rfl, s3 _ _ upd_same⟩) (.cons (IntsV.dp ⟨p3, rfl, s4 _ _ upd_same⟩) .nil)), shaped_intsD _, rfl, ?_⟩
    have e : ([intsD [a, b], intsD [b, a]].any fun z => PyData.eqv z (intsD [t.one, t.other])) = joinB t a b := by
      show (PyData.eqv (intsD [a, b]) (intsD [t.one, t.other]) || (PyData.eqv (intsD [b, a]) (intsD [t.one, t.other]) || false)) = joinB t a b
      rw [eqv_two, eqv_two, Bool.or_false]
      rfl
    rw [e]
    exact q _ s1
end
theorem tieAt_get {ts : List Tie} {i : Int} (h0 : 0 ≤ i) (h1 : i < ts.length) : ts[i.toNat]? = some (tieAt ts i) := by
  have h : i.toNat < ts.length := by omega
  unfold tieAt
  rw [List.getD_eq_getElem?_getD, List.getElem?_eq_getElem h]
  rfl
def toI : V → Int
  | .int i => i
  | _ => 0
theorem toI_map (ns : List Int) : (ns.map V.int).map toI = ns := by
  rw [List.map_map]
  exact List.map_id ns
/-- the ties join the places, each with the one behind it -/
def ringI (ts : List Tie) (ps es : List Int) : Bool := (List.range es.length).all fun k => joinB (tieAt ts (es.getD k 0)) (ps.getD k 0) (ps.getD ((k + 1) % ps.length) 0)
def ringP (n : Int) (ts : List Tie) : Option (List V) → Option (List V) → Bool
  | some ps, some es => unl n (some ps) && (unl ts.length (some es) && (decide (2 ≤ ps.length) && (decide (ps.length = es.length) && ringI ts (ps.map toI) (es.map toI))))
  | _, _ => false
def ringB (H : Hp) (n : Int) (ts : List Tie) (v : V) : Bool := match parts H v with
  | some [p, t] => ringP n ts (parts H p) (parts H t)
  | _ => false
def Part2 (H : Hp) (x : V) : Prop := Kn H x ∧ ∀ ys, parts H x = some ys → (∀ y ∈ ys, Kn H y) ∧ ys.length ≤ 1000
def Thing2 (H : Hp) (v : V) : Prop := Kn H v ∧ ∀ xs, parts H v = some xs → ∀ x ∈ xs, Part2 H x
theorem kt_parts {Ps : List Addr} {H H' : Hp} (k : Kt Ps H H') (t : Tabs Ps H) {v : V} (h : Kn H v) : parts H' v = parts H v := by
  cases v with
  | ref a =>
    unfold parts
    rcases h with ⟨xs, h⟩ | ⟨xs, h⟩ | ⟨xs, h⟩
    · simp only [h, k.lst t h]
    · simp only [h, k.tup t h]
    · simp only [h, k.dct t h]
  | _ => rfl
theorem Part2.kt {Ps : List Addr} {H H' : Hp} (k : Kt Ps H H') (t : Tabs Ps H) {v : V} (h : Part2 H v) : Part2 H' v :=
  ⟨k.kn t h.1, fun ys e => by
    rw [kt_parts k t h.1] at e
    obtain ⟨h1, h2⟩ := h.2 ys e
    exact ⟨fun y hy => k.kn t (h1 y hy), h2⟩⟩
def spRing (Ps : List Addr) : Sp := fun vs H Q _ => ∃ (wv : V) (n : Int) (ts : List Tie) (v : V), vs = [wv, v] ∧ WebAt H wv n ts ∧ WebOk n ts ∧ Thing2 H v ∧ Tabs Ps H ∧ ∀ H', Kt Ps H H' → Q (.bl (ringB H n ts v)) H'
theorem behind {ns : List Int} {k : Nat} (h2 : 2 ≤ ns.length) (hk : k < ns.length) : (ns.drop 1 ++ ns.take 1)[k]? = some (ns.getD ((k + 1) % ns.length) 0) := by
  by_cases e : k + 1 < ns.length
  · rw [List.getElem?_append_left (by rw [List.length_drop]; omega), List.getElem?_drop, Nat.mod_eq_of_lt e, show 1 + k = k + 1 from by omega, List.getD_eq_getElem?_getD, List.getElem?_eq_getElem e]
    rfl
  · have e2 : k + 1 = ns.length := by omega
    rw [List.getElem?_append_right (by rw [List.length_drop]; omega), List.length_drop, show k - (ns.length - 1) = 0 from by omega, e2, Nat.mod_self, List.getElem?_take_of_lt (by decide), List.getD_eq_getElem?_getD, List.getElem?_eq_getElem (by omega)]
    rfl
theorem cut1a {xs : List V} (h : 1 ≤ xs.length) : cutV xs (some 1) none = xs.drop 1 := by
  unfold cutV
  rw [HT.sIx_none, show (some (1 : Int)) = some ((1 : Nat) : Int) from rfl, HT.sIx_nat, Nat.min_eq_left h]
  exact List.take_of_length_le (by rw [List.length_drop]; omega)
theorem cut1b {xs : List V} (h : 1 ≤ xs.length) : cutV xs none (some 1) = xs.take 1 := by
  unfold cutV
  rw [HT.sIx_none, show (some (1 : Int)) = some ((1 : Nat) : Int) from rfl, HT.sIx_nat, Nat.min_eq_left h, List.drop_zero]
section
variable {P : Program} {w : World} {K : PySem.W.Frag} {mg : Str → Option Value} {base : Heap}
set_option maxHeartbeats 4000000 in
theorem ok_ring_holds {f c Pt : Addr} {fd : FuncData} {Ps : List Addr} (F : FunC K "ring_holds" "ring_holds" s_ring_holds f fd c) (TB : GxR.TabB base mg c Pt) (hPt : Pt ∈ Ps) (M : Free mg) (hall : mg "all" = none) (mz : mg "zip" = none) (D1 : Df P w K mg base 1 "is_tuple_of" ["length", "thing"] spTupleOf)
    (D2 : Df P w K mg base 4 "are_unlike_below" ["limit", "thing"] (spUnlike Ps)) (D3 : Df P w K mg base 1 "joins" ["tie", "one", "other"] spJoins) : FnOk P w K mg base CX0 5 f fd ["web", "thing"] (spRing Ps) := by
  obtain ⟨f1, fd1, G1, g1, k1, b1⟩ := D1
  obtain ⟨f2, fd2, G2, g2, k2, b2⟩ := D2
  obtain ⟨f3, fd3, G3, g3, k3, b3⟩ := D3
  refine F.ok sc_ring_holds (fun vs H Q E h => ?_) (fun A outer s H vs Q E hr h => ?_)
  · obtain ⟨wv, n, ts, v, rfl, _⟩ := h
    rfl
  · obtain ⟨wv, n, ts, v, rfl, ⟨wa, wb, us, rfl, hwa, hwb, hp⟩, ok, ⟨hk, hsub⟩, hT, q⟩ := h
    have hr1 : Room 1 _ := hr.mono (by decide : 1 ≤ 4)
    refine ⟨_, (pss_cons (ps_if (pt_not (pt_val (pe_call G1 hr1 (by rfl) g1 k1 b1 .nil pass0 (pa_cons pe_int (pa_cons (pv 1) pa_nil)))))
        (pss_one (ps_ret pe_bl))
        pss_nil)
      (pss_cons (ps_asg (pv 1) (pg_tup rfl (pgs_cons (pg_name (i := 2) sc_ring_holds.nd rfl (.inl rfl)) (pgs_cons (pg_name (i := 3) sc_ring_holds.nd rfl (.inl rfl)) pgs_nil))))
      (pss_cons (ps_if (PW.pt (pw_or (pt_not (pt_val (pe_call G2 hr (by rfl) g2 k2 b2 .nil pass0 (pa_cons (pe_ix ix_tup (pv 0) pe_int (fun _ _ => rfl)) (pa_cons (pv 2) pa_nil))))) (pw_or1 (pt_not (pt_val (pe_call G2 hr (by rfl) g2 k2 b2 .nil pass0 (pa_cons (pe_callB call_len_seq (by rfl) M.len PySem.boot_len (pa_cons (pe_ix ix_tup (pv 0) pe_int (fun _ _ => rfl)) pa_nil)) (pa_cons (pv 3) pa_nil))))))))
        (pss_one (ps_ret pe_bl))
        pss_nil)
      (pss_cons (ps_if (PW.pt (pw_or (pt_cmpR op_lt (pe_callB call_len_seq (by rfl) M.len PySem.boot_len (pa_cons (pv 2) pa_nil)) pe_int (nomark _)) (pw_or1 (pt_cmpR op_ne (pe_callB call_len_seq (by rfl) M.len PySem.boot_len (pa_cons (pv 2) pa_nil)) (pe_callB call_len_seq (by rfl) M.len PySem.boot_len (pa_cons (pv 3) pa_nil)) (nomark _)))))
        (pss_one (ps_ret pe_bl))
        pss_nil)
      (pss_cons (ps_set (i := 4) sc_ring_holds.nd rfl (.inl rfl) (pe_op op_catU (pe_slice sl_tupU (pv 2) (po_some pe_int) po_none) (pe_slice sl_tupU (pv 2) po_none (po_some pe_int))))
      (pss_one (ps_ret (pe_all (k := 3) (own := [("tie", 5), ("one", 6), ("other", 7)]) (g := gTup K 3 (gCons (gName 5) (gCons (gName 6) (gCons (gName 7) gNil)))) hr TB rfl rfl sc_ring_holds.nd (by rfl) hall (pi_zip3 (by rfl) mz (pa_cons (pv 3) (pa_cons (pv 2) (pa_cons (pv 4) pa_nil)))) (blkOk_by (N := N_ring_holds) (sc := defScope s_ring_holds) (own := [("tie", 5), ("one", 6), ("other", 7)]) (by decide +kernel)) ⟨rfl, by decide +kernel, by decide +kernel⟩ (show (".0" : Str) ∉ N_ring_holds by decide +kernel)
        (fun _ _ _ _ _ _ _ => pg_tup rfl (pgs_cons (pg_name (i := 5) sc_ring_holds.nd rfl (.inl rfl)) (pgs_cons (pg_name (i := 6) sc_ring_holds.nd rfl (.inl rfl)) (pgs_cons (pg_name (i := 7) sc_ring_holds.nd rfl (.inl rfl)) pgs_nil)))) (fun _ _ _ _ _ _ _ hr' => pe_call G3 (hr'.mono (by decide : 1 ≤ 3)) (by rfl) g3 k3 b3 .nil pass0 (pa_cons (pe_ix (r := rIxT K) ix_tup (pe_ix (r := rIxT K) ix_tup (pv 0) pe_int (fun _ _ => rfl)) (pv 5) (fun _ _ => rfl)) (pa_cons (pv 6) (pa_cons (pv 7) pa_nil)))))))))))), ?_⟩
    have hlen : us.length = ts.length := Paired.length hp
    have few := ok.few
    -- a pair
    refine ⟨v, rfl, 2, v, rfl, hk, _, rfl, ?_⟩
    cases hpv : parts H v with
    | none =>
      have e1 : lenIs H v 2 = false := by unfold lenIs; rw [hpv]
      have e2 : ringB H n ts v = false := by unfold ringB; rw [hpv]
      rw [e1]
      rw [e2] at q
      exact q _ (Kt.refl hT)
    | some xs =>
    obtain ⟨a, rfl, ea⟩ := parts_at hpv
    have e1 : lenIs H (.ref a) 2 = decide ((xs.length : Int) = 2) := by unfold lenIs; rw [hpv]
    rw [e1]
    match xs, hpv, ea, hsub xs hpv with
    | [], hpv, ea, _ =>
      have e2 : ringB H n ts (.ref a) = false := by unfold ringB; rw [hpv]
      rw [e2] at q
      exact q _ (Kt.refl hT)
    | [x], hpv, ea, _ =>
      have e2 : ringB H n ts (.ref a) = false := by unfold ringB; rw [hpv]
      rw [e2] at q
      exact q _ (Kt.refl hT)
    | x :: y :: z :: r, hpv, ea, _ =>
      have e2 : ringB H n ts (.ref a) = false := by unfold ringB; rw [hpv]
      rw [e2] at q
      rw [decide_eq_false (by simp only [List.length_cons]; omega)]
      exact q _ (Kt.refl hT)
    | [pv', tv], hpv, ea, hxs =>
    have e2 : ringB H n ts (.ref a) = ringP n ts (parts H pv') (parts H tv) := by unfold ringB; rw [hpv]
    rw [e2] at q
    have hP := hxs pv' (by simp)
    have hQ := hxs tv (by simp)
    clear e1 e2 hxs hsub
    refine ⟨.ref a, rfl, a, _, rfl, SqT.of ea, rfl, _, _, rfl, _, _, rfl, rfl, ?_⟩
    -- unlike places
    refine ⟨.ref wa, rfl, wa, _, 0, .int n, rfl, rfl, SqT.of hwa, rfl, pv', rfl, n, pv', rfl, hP.1, hP.2, hT, fun H1 k1' => ⟨_, rfl, ?_⟩⟩
    cases hu1 : unl n (parts H pv') with
    | false =>
      have e : ringP n ts (parts H pv') (parts H tv) = false := by
        cases h1 : parts H pv' with
        | none => rfl
        | some ps =>
          cases h2 : parts H tv with
          | none => rfl
          | some es =>
            rw [h1] at hu1
            show (unl n (some ps) && _) = false
            rw [hu1, Bool.false_and]
      rw [e] at q
      exact q _ k1'
    | true =>
    -- unlike ties
    have hwa1 := k1'.tup hT hwa
    have hwb1 := k1'.tup hT hwb
    have hQ1 := hQ.kt k1' hT
    refine ⟨.ref wa, rfl, wa, _, 1, .ref wb, rfl, rfl, SqT.of hwa1, rfl, wb, us, rfl, .inr (SqT.of hwb1), tv, rfl, _, tv, rfl, hQ1.1, hQ1.2, k1'.tab, fun H2 k2' => ⟨_, rfl, ?_⟩⟩
    rw [kt_parts k1' hT hQ.1, hlen]
    have k12 := k1'.trans k2'
    cases hu2 : unl ts.length (parts H tv) with
    | false =>
      have e : ringP n ts (parts H pv') (parts H tv) = false := by
        cases h1 : parts H pv' with
        | none => rfl
        | some ps =>
          cases h2 : parts H tv with
          | none => rfl
          | some es =>
            rw [h1] at hu1
            rw [h2] at hu2
            show (unl n (some ps) && (unl ts.length (some es) && _)) = false
            rw [hu2, Bool.false_and, Bool.and_false]
      rw [e] at q
      exact q _ k12
    | true =>
    cases h1 : parts H pv' with
    | none => rw [h1] at hu1; cases hu1
    | some ps =>
    cases h2 : parts H tv with
    | none => rw [h2] at hu2; cases hu2
    | some es =>
    rw [h1] at hu1
    rw [h2] at hu2
    rw [h1, h2] at q
    obtain ⟨pa, rfl, epa⟩ := parts_at h1
    obtain ⟨ta, rfl, eta⟩ := parts_at h2
    have epa2 := k12.tup hT epa
    have eta2 := k12.tup hT eta
    have er : ringP n ts (some ps) (some es) = (decide (2 ≤ ps.length) && (decide (ps.length = es.length) && ringI ts (ps.map toI) (es.map toI))) := by
      show (unl n (some ps) && (unl ts.length (some es) && _)) = _
      rw [hu1, hu2, Bool.true_and, Bool.true_and]
    rw [er] at q
    -- lengths
    refine ⟨.ref pa, rfl, pa, ps, rfl, .inr (SqT.of epa2), _, 2, rfl, rfl, _, rfl, ?_⟩
    by_cases l2 : 2 ≤ ps.length
    · rw [decide_eq_false (show ¬ ((ps.length : Int) < 2) by omega)]
      rw [decide_eq_true l2, Bool.true_and] at q
      refine ⟨.ref pa, rfl, pa, ps, rfl, .inr (SqT.of epa2), .ref ta, rfl, ta, es, rfl, .inr (SqT.of eta2), rfl, _, rfl, ?_⟩
      by_cases le : ps.length = es.length
      · rw [show decide (V.int (ps.length : Int) = V.int (es.length : Int)) = true from decide_eq_true (by rw [le])]
        rw [decide_eq_true le, Bool.true_and] at q
        have ha1 : ps.all (wbelow n) = true := (Bool.and_eq_true_iff.mp hu1).1
        have ha2 : es.all (wbelow ts.length) = true := (Bool.and_eq_true_iff.mp hu2).1
        obtain ⟨pn, rfl, hpn⟩ := ints_of ha1
        obtain ⟨en, rfl, hen⟩ := ints_of ha2
        rw [toI_map, toI_map] at q
        rw [List.length_map] at l2 le
        rw [List.length_map] at le
        have lps : pn.length ≤ 1000 := by have := (hP.2 _ h1).2; rw [List.length_map] at this; exact this
        -- followers
        refine ⟨.ref pa, rfl, 1, rfl, pa, _, rfl, epa2, fun r1 H3 s3 h3 => ⟨.ref pa, rfl, 1, rfl, pa, _, rfl, s3 _ _ epa2, fun r2 H4 s4 h4 => ⟨r1, r2, _, _, rfl, rfl, s4 _ _ h3, h4, ?_, fun r3 H5 s5 h5 => ?_⟩⟩⟩
        · have z1 := cutV_length (pn.map V.int) (some 1) none
          have z2 := cutV_length (pn.map V.int) none (some 1)
          rw [List.length_map] at z1 z2
          omega
        rw [cut1a (by rw [List.length_map]; omega), cut1b (by rw [List.length_map]; omega), ← List.map_drop, ← List.map_take, ← List.map_append] at h5
        have k5 := k12.trans (Kt.same k12.tab ((s3.trans s4).trans s5))
        have hwa5 := k5.tup hT hwa
        have hwb5 := k5.tup hT hwb
        have epa5 := k5.tup hT epa
        have eta5 := k5.tup hT eta
        have hp5 := ties_tk (k5.tk hT) hp
        clear s3 s4 s5 h3 h4 epa2 eta2 hwa1 hwb1
        have lfo : (pn.drop 1 ++ pn.take 1).length = pn.length := by rw [List.length_append, List.length_drop, List.length_take]; omega
        have nth : ∀ k : Nat, k < en.length → ∃ (cc : Addr), H5 cc = some (.tup [.int (tieAt ts (en.getD k 0)).one, .int (tieAt ts (en.getD k 0)).other, .str (kindS (tieAt ts (en.getD k 0)).foe)]) ∧ atI us (en.getD k 0) = some (.ref cc) := fun k hk => by
          have hm : en.getD k 0 ∈ en := by
            rw [List.getD_eq_getElem?_getD, List.getElem?_eq_getElem hk]
            exact List.getElem_mem hk
          obtain ⟨z0, z1⟩ := hen _ hm
          obtain ⟨u, eu, cc, rfl, hcc⟩ := Paired.at' hp5 (tieAt_get z0 z1)
          exact ⟨cc, hcc, atI_of z0 eu⟩
        refine ⟨.ref ta, rfl, .ref pa, rfl, .ref r3, rfl, ta, pa, r3, _, _, _, rfl, SqT.of eta5, SqT.of epa5, SqT.of h5, k5.tab Pt hPt, fun i m H' => i + m = en.length ∧ Kt Ps H5 H' ∧ (List.range i).all (fun k => joinB (tieAt ts (en.getD k 0)) (pn.getD k 0) (pn.getD ((k + 1) % pn.length) 0)) = true, fun H6 t6 => ⟨en.length, by omega, Kt.tabbed k5.tab hPt t6, rfl⟩, fun i m H6 hw => ?_⟩
        obtain ⟨em, k6, hal⟩ := hw
        have eta6 := k6.tup k5.tab eta5
        have epa6 := k6.tup k5.tab epa5
        have h6 := k6.tup k5.tab h5
        by_cases hi : i < en.length
        · refine .inr ⟨⟨_, _, _, ⟨SqT.of eta6, SqT.of epa6, SqT.of h6⟩, by rw [List.length_map]; exact hi, by rw [List.length_map, List.length_map]; exact le, by rw [List.length_map, List.length_map, lfo]; exact le⟩, fun H7 => Kt Ps H5 H7 ∧ (List.range (i + 1)).all (fun k => joinB (tieAt ts (en.getD k 0)) (pn.getD k 0) (pn.getD ((k + 1) % pn.length) 0)) = true, fun H7 n7 => ⟨m - 1, by omega, by omega, n7.1, n7.2⟩, fun x H7 hy => ?_⟩
          obtain ⟨T, x1, x2, x3, rfl, nT, rfl, y1, y2, y3⟩ := hy
          have ex1 : x1 = .int (en.getD i 0) := by
            have z := y1 _ (SqT.of eta6)
            rw [List.getElem?_map, List.getElem?_eq_getElem hi] at z
            rw [List.getD_eq_getElem?_getD, List.getElem?_eq_getElem hi]
            exact (Option.some.inj z).symm
          have ex2 : x2 = .int (pn.getD i 0) := by
            have z := y2 _ (SqT.of epa6)
            rw [List.getElem?_map, List.getElem?_eq_getElem (show i < pn.length by omega)] at z
            rw [List.getD_eq_getElem?_getD, List.getElem?_eq_getElem (show i < pn.length by omega)]
            exact (Option.some.inj z).symm
          have ex3 : x3 = .int (pn.getD ((i + 1) % pn.length) 0) := by
            have z := y3 _ (SqT.of h6)
            rw [List.getElem?_map, behind l2 (by omega)] at z
            exact (Option.some.inj z).symm
          subst ex1
          subst ex2
          subst ex3
          obtain ⟨cc, hcc, acc⟩ := nth i hi
          have k7 := k6.trans (Kt.same k6.tab (same_new (o := .tup [.int (en.getD i 0), .int (pn.getD i 0), .int (pn.getD ((i + 1) % pn.length) 0)]) nT))
          refine ⟨T, _, rfl, SqT.of upd_same, rfl, _, _, rfl, _, _, rfl, _, _, rfl, rfl, rfl, .ref wa, rfl, wa, _, 1, .ref wb, rfl, rfl, SqT.of (k7.tup k5.tab hwa5), rfl, .int (en.getD i 0), rfl, wb, us, _, .ref cc, rfl, rfl, SqT.of (k7.tup k5.tab hwb5), acc, .int (pn.getD i 0), rfl, .int (pn.getD ((i + 1) % pn.length) 0), rfl, cc, _, _, tieAt ts (en.getD i 0), rfl, k7.tup k5.tab hcc, fun H8 s8 => ⟨_, rfl, ?_⟩⟩
          have k8 := k7.trans (Kt.same k7.tab s8)
          cases hj : joinB (tieAt ts (en.getD i 0)) (pn.getD i 0) (pn.getD ((i + 1) % pn.length) 0) with
          | true =>
            refine ⟨k8, ?_⟩
            rw [List.range_succ, List.all_append, hal]
            simp only [List.all_cons, List.all_nil, hj, Bool.and_true]
          | false =>
            have no : ringI ts pn en = false := by
              unfold ringI
              rw [Bool.eq_false_iff]
              intro z
              rw [List.all_eq_true] at z
              rw [z i (List.mem_range.mpr hi)] at hj
              cases hj
            rw [no] at q
            exact q _ (k5.trans k8)
        · have ei : i = en.length := by omega
          refine .inl ⟨⟨_, _, _, ⟨SqT.of eta6, SqT.of epa6, SqT.of h6⟩, by rw [List.length_map, ei], by rw [List.length_map, ei]; exact le, by rw [List.length_map, lfo, ei]; exact le⟩, ?_⟩
          rw [ei] at hal
          have yes : ringI ts pn en = true := hal
          rw [yes] at q
          exact q _ (k5.trans k6)
      · rw [show decide (V.int (ps.length : Int) = V.int (es.length : Int)) = false from decide_eq_false (fun z => le (by have := V.int.inj z; omega))]
        rw [decide_eq_false le, Bool.false_and] at q
        exact q _ k12
    · rw [decide_eq_true (show ((ps.length : Int) < 2) by omega)]
      rw [decide_eq_false l2, Bool.false_and] at q
      exact q _ k12
end
def foesI (ts : List Tie) (es : List Int) : Nat := (es.filter fun e => (tieAt ts e).foe).length
theorem foesI_take (ts : List Tie) (es : List Int) {i : Nat} {e : Int} (h : es[i]? = some e) : (es.take (i + 1)).filter (fun e => (tieAt ts e).foe) = (es.take i).filter (fun e => (tieAt ts e).foe) ++ (if (tieAt ts e).foe = true then [e] else []) := by
  rw [List.take_add_one, h, List.filter_append]
  congr 1
  show List.filter _ [e] = _
  rw [List.filter_cons]
  rfl
def spFoes : Sp := fun vs H Q _ => ∃ (wv : V) (n : Int) (ts : List Tie) (a ta : Addr) (p : V) (es : List Int), vs = [wv, .ref a] ∧ WebAt H wv n ts ∧ H a = some (.tup [p, .ref ta]) ∧ H ta = some (.tup (es.map V.int)) ∧ (∀ e ∈ es, 0 ≤ e ∧ e < (ts.length : Int)) ∧ es.length ≤ 1000 ∧
  ∀ H', Same H H' → Q (.int (foesI ts es)) H'
/-- a ring with an odd number of foes -/
def oddB (H : Hp) (n : Int) (ts : List Tie) (v : V) : Bool := ringB H n ts v && (match parts H v with
  | some [_, t] => (match parts H t with
    | some es => decide (foesI ts (es.map toI) % 2 = 1)
    | none => false)
  | _ => false)
def spOdd (Ps : List Addr) : Sp := fun vs H Q _ => ∃ (wv : V) (n : Int) (ts : List Tie) (v : V), vs = [wv, v] ∧ WebAt H wv n ts ∧ WebOk n ts ∧ Thing2 H v ∧ Tabs Ps H ∧ ∀ H', Kt Ps H H' → Q (.bl (oddB H n ts v)) H'
/-- what a ring is: a pair of rows of numbers -/
theorem ring_is {H : Hp} {n : Int} {ts : List Tie} {v : V} (h : ringB H n ts v = true) : ∃ (a pa ta : Addr) (pn en : List Int), v = .ref a ∧ H a = some (.tup [.ref pa, .ref ta]) ∧ H pa = some (.tup (pn.map V.int)) ∧ H ta = some (.tup (en.map V.int)) ∧ (∀ p ∈ pn, 0 ≤ p ∧ p < n) ∧ (∀ e ∈ en, 0 ≤ e ∧ e < (ts.length : Int)) ∧ pn.Nodup ∧ en.Nodup ∧ 2 ≤ pn.length ∧ pn.length = en.length ∧ ringI ts pn en = true := by
  unfold ringB at h
  cases hpv : parts H v with
  | none => rw [hpv] at h; cases h
  | some xs =>
    rw [hpv] at h
    obtain ⟨a, rfl, ea⟩ := parts_at hpv
    match xs, h, ea with
    | [p, t], h, ea =>
      change ringP n ts (parts H p) (parts H t) = true at h
      cases h1 : parts H p with
      | none => rw [h1] at h; cases h
      | some ps =>
        cases h2 : parts H t with
        | none => rw [h1, h2] at h; cases h
        | some es =>
          rw [h1, h2] at h
          obtain ⟨pa, rfl, epa⟩ := parts_at h1
          obtain ⟨ta, rfl, eta⟩ := parts_at h2
          change (unl n (some ps) && (unl ts.length (some es) && (decide (2 ≤ ps.length) && (decide (ps.length = es.length) && ringI ts (ps.map toI) (es.map toI))))) = true at h
          simp only [Bool.and_eq_true, decide_eq_true_iff] at h
          obtain ⟨u1, u2, l2, le, hr⟩ := h
          have v1 : ps.all (wbelow n) = true ∧ decide ps.Nodup = true := Bool.and_eq_true_iff.mp u1
          have v2 : es.all (wbelow ts.length) = true ∧ decide es.Nodup = true := Bool.and_eq_true_iff.mp u2
          obtain ⟨pn, rfl, hpn⟩ := ints_of v1.1
          obtain ⟨en, rfl, hen⟩ := ints_of v2.1
          rw [toI_map, toI_map] at hr
          rw [List.length_map] at l2 le
          rw [List.length_map] at le
          exact ⟨a, pa, ta, pn, en, rfl, ea, epa, eta, hpn, hen, nodup_ints.mp (of_decide_eq_true v1.2), nodup_ints.mp (of_decide_eq_true v2.2), l2, le, hr⟩
section
variable {P : Program} {w : World} {K : PySem.W.Frag} {mg : Str → Option Value} {base : Heap}
theorem ok_foes_in {f : Addr} {fd : FuncData} (F : Fun K "foes_in" "foes_in" s_foes_in f fd) (M : Free mg) : FnOk P w K mg base CX0 1 f fd ["web", "ring"] spFoes := by
  refine F.ok sc_foes_in (fun vs H Q E h => ?_) (fun cdv A outer s H vs Q E hr h => ?_)
  · obtain ⟨wv, n, ts, a, ta, p, es, rfl, _⟩ := h
    rfl
  · obtain ⟨wv, n, ts, a, ta, p, es, rfl, ⟨wa, wb, us, rfl, hwa, hwb, hp⟩, ha, hta, hes, lm, q⟩ := h
    refine ⟨_, (pss_one (ps_ret (pe_callB call_len_seq (by rfl) M.len PySem.boot_len (pa_cons (pe_lc (own := [("tie", 2)]) (g := gName 2) (te := tVar 2) rfl sc_foes_in.nd (pi_tup (pe_ix ix_tup (pv 1) pe_int (fun _ _ => rfl))) (blkOk_by (N := N_foes_in) (sc := defScope s_foes_in) (own := [("tie", 2)]) (by decide +kernel)) (fun _ _ _ _ _ => (pg_name (i := 2) sc_foes_in.nd rfl (.inl rfl))) (fun _ _ _ _ _ => (pts_one (pt_cmpR op_eq (pe_ix (r := rIxT K) ix_tup (pe_ix (r := rIxT K) ix_tup (pe_ix (r := rIxT K) ix_tup (pv 0) pe_int (fun _ _ => rfl)) (pv 2) (fun _ _ => rfl)) pe_int (fun _ _ => rfl)) pe_str (nomark _)))) (fun _ _ _ _ _ => (pv 2))) pa_nil)))), ?_⟩
    refine ⟨.ref a, rfl, a, _, 1, .ref ta, rfl, rfl, SqT.of ha, rfl, ta, rfl, ⟨_, SqT.of hta⟩, fun Z nZ => ?_⟩
    refine lc_tup (xs := es.map V.int) (fun j H' => H' = upd H Z (.lst (((es.take j).filter fun e => (tieAt ts e).foe).map V.int))) rfl (fun j H' _ h => by rw [h]; exact SqT.of (same_new nZ _ _ hta)) ?_ ?_
    · rintro j x H' ex rfl
      rw [List.getElem?_map] at ex
      obtain ⟨e, he, rfl⟩ := Option.map_eq_some_iff.mp ex
      obtain ⟨z0, z1⟩ := hes e (List.mem_of_getElem? he)
      have hj := (List.getElem?_eq_some_iff.mp he).1
      have s1 := same_new (o := .lst (((es.take j).filter fun e => (tieAt ts e).foe).map V.int)) nZ
      obtain ⟨u, eu, cc, rfl, hcc⟩ := Paired.at' hp (tieAt_get z0 z1)
      refine ⟨rfl, .ref wa, rfl, wa, _, 1, .ref wb, rfl, rfl, SqT.of (s1 _ _ hwa), rfl, .int e, rfl, wb, us, e, .ref cc, rfl, rfl, SqT.of (s1 _ _ hwb), atI_of z0 eu, cc, _, 2, _, rfl, rfl, SqT.of (s1 _ _ hcc), rfl, rfl, _, rfl, ?_⟩
      rw [foesI_take ts es he, List.map_append]
      have lf : ((es.take j).filter fun e => (tieAt ts e).foe).length ≤ j := by
        have := List.length_filter_le (fun e => (tieAt ts e).foe) (es.take j)
        rw [List.length_take] at this
        omega
      cases hf : (tieAt ts e).foe with
      | true =>
        refine ⟨.int e, rfl, _, upd_same, by rw [List.length_map]; exact small1000 (by omega), ?_⟩
        funext b
        by_cases eb : b = Z
        · subst eb
          rw [upd_same, upd_same]
          rfl
        · rw [upd_ne eb, upd_ne eb, upd_ne eb]
      | false =>
        show upd H Z _ = upd H Z (.lst (((es.take j).filter fun e => (tieAt ts e).foe).map V.int ++ []))
        rw [List.append_nil]
    · rintro H' rfl
      rw [List.length_map, List.take_length]
      refine ⟨Z, _, rfl, .inl (SqL.of upd_same), ?_⟩
      rw [List.length_map]
      exact q _ (same_new nZ)
theorem ok_odd_ring {f : Addr} {fd : FuncData} {Ps : List Addr} (F : Fun K "odd_ring_holds" "odd_ring_holds" s_odd_ring_holds f fd) (D1 : Df P w K mg base 5 "ring_holds" ["web", "thing"] (spRing Ps)) (D2 : Df P w K mg base 1 "foes_in" ["web", "ring"] spFoes) : FnOk P w K mg base CX0 6 f fd ["web", "thing"] (spOdd Ps) := by
  obtain ⟨f1, fd1, G1, g1, k1, b1⟩ := D1
  obtain ⟨f2, fd2, G2, g2, k2, b2⟩ := D2
  refine F.ok sc_odd_ring_holds (fun vs H Q E h => ?_) (fun cdv A outer s H vs Q E hr h => ?_)
  · obtain ⟨wv, n, ts, v, rfl, _⟩ := h
    rfl
  · obtain ⟨wv, n, ts, v, rfl, hW, ok, hv, hT, q⟩ := h
    have hr1 : Room 1 _ := hr.mono (by decide : 1 ≤ 5)
    refine ⟨_, (pss_one (ps_ret (pe_and (pe_call G1 hr (by rfl) g1 k1 b1 .nil pass0 (pa_cons (pv 0) (pa_cons (pv 1) pa_nil))) (pe_one (pe_cmpR op_eq (pe_op op_mod (pe_call G2 hr1 (by rfl) g2 k2 b2 .nil pass0 (pa_cons (pv 0) (pa_cons (pv 1) pa_nil))) pe_int) pe_int (nomark _)))))), ?_⟩
    refine ⟨wv, rfl, v, rfl, wv, n, ts, v, rfl, hW, ok, hv, hT, fun H1 k => ⟨_, rfl, ?_⟩⟩
    cases hb : ringB H n ts v with
    | false =>
      have e : oddB H n ts v = false := by unfold oddB; rw [hb, Bool.false_and]
      rw [e] at q
      exact q _ k
    | true =>
      obtain ⟨a, pa, ta, pn, en, rfl, ea, epa, eta, _, hen, _, ndE, _, le, _⟩ := ring_is hb
      have lm : en.length ≤ 1000 := by
        have z := (hv.2 _ (parts_of' ea) (.ref ta) (by simp)).2 _ (parts_of' eta)
        have := z.2
        rw [List.length_map] at this
        exact this
      refine ⟨wv, rfl, .ref a, rfl, wv, n, ts, a, ta, .ref pa, en, rfl, hW.tk (k.tk hT), k.tup hT ea, k.tup hT eta, hen, lm, fun H2 s2 => ⟨_, 2, rfl, rfl, show (0 : Int) < 2 by decide, rfl, ?_⟩⟩
      have e : oddB H n ts (.ref a) = decide (V.int ((foesI ts en : Nat) % 2 : Int) = V.int 1) := by
        unfold oddB
        rw [hb, parts_of' ea]
        simp only [parts_of' eta, toI_map, Bool.true_and]
        rw [decide_eq_decide]
        constructor
        · intro z
          congr 1
          omega
        · intro z
          have := V.int.inj z
          omega
      rw [← e]
      exact q _ (k.trans (Kt.same k.tab s2))
end
/-! ### ties around places, by their numbers (mathematics) -/
def Jn (t : Tie) (a b : Int) : Prop := (t.one = a ∧ t.other = b) ∨ (t.one = b ∧ t.other = a)
theorem Jn.symm {t : Tie} {a b : Int} (h : Jn t a b) : Jn t b a := h.elim .inr .inl
abbrev Nu := Int × Int
def n1 (ts : List Tie) (m : Int) (p : Int) : List Nu := (if p = (tieN ts m.toNat).one then [((tieN ts m.toNat).other, m)] else []) ++ (if p = (tieN ts m.toNat).other then [((tieN ts m.toNat).one, m)] else [])
def nN (ts : List Tie) (ns : List Int) (p : Int) : List Nu := ns.flatMap fun m => n1 ts m p
theorem nN_snoc (ts : List Tie) (ns : List Int) (m p : Int) : nN ts (ns ++ [m]) p = nN ts ns p ++ n1 ts m p := by
  unfold nN
  rw [List.flatMap_append]
  simp
theorem n1_len (ts : List Tie) (m p : Int) : (n1 ts m p).length ≤ 2 := by
  unfold n1
  rw [List.length_append]
  split <;> split <;> simp
theorem nN_len (ts : List Tie) (ns : List Int) (p : Int) : (nN ts ns p).length ≤ 2 * ns.length := by
  induction ns with
  | nil => simp [nN]
  | cons m ns ih =>
    have h := n1_len ts m p
    unfold nN at ih ⊢
    rw [List.flatMap_cons, List.length_append, List.length_cons]
    omega
theorem mem_nN {ts : List Tie} {ns : List Int} {p : Int} {q : Nu} : q ∈ nN ts ns p ↔ q.2 ∈ ns ∧ Jn (tieN ts q.2.toNat) p q.1 := by
  unfold nN n1 Jn
  rw [List.mem_flatMap]
  constructor
  · rintro ⟨m, hm, h⟩
    rcases List.mem_append.mp h with h | h
    · split at h
      · rename_i e
        rw [List.mem_singleton] at h
        subst h
        exact ⟨hm, .inl ⟨e.symm, rfl⟩⟩
      · simp at h
    · split at h
      · rename_i e
        rw [List.mem_singleton] at h
        subst h
        exact ⟨hm, .inr ⟨rfl, e.symm⟩⟩
      · simp at h
  · rintro ⟨hm, h⟩
    refine ⟨q.2, hm, List.mem_append.mpr ?_⟩
    obtain ⟨q1, q2⟩ := q
    simp only at h
    rcases h with ⟨h1, h2⟩ | ⟨h1, h2⟩
    · left
      rw [if_pos h1.symm, List.mem_singleton, ← h2]
    · right
      rw [if_pos h2.symm, List.mem_singleton, ← h1]
def NuV (H : Hp) (v : V) (q : Nu) : Prop := ∃ a, v = .ref a ∧ H a = some (.tup [.int q.1, .int q.2])
theorem NuV.tk {H H' : Hp} (k : Tk H H') {v : V} {p : Nu} (h : NuV H v p) : NuV H' v p := by
  obtain ⟨a, rfl, e⟩ := h
  exact ⟨a, rfl, k _ _ e⟩
theorem nus_tk {H H' : Hp} (k : Tk H H') {vs : List V} {qs : List Nu} (h : Paired (NuV H) vs qs) : Paired (NuV H') vs qs := Paired.mono (fun _ _ x => x.tk k) h
def aKv (As : List (Int × Addr)) : List (Key × V) := As.map fun p => (Sum.inl p.1, V.ref p.2)
theorem aKv_none {z : Int} : ∀ {As : List (Int × Addr)}, z ∉ As.map (·.1) → valV (aKv As) (Sum.inl z) = none
  | [], _ => rfl
  | p :: As, h => by
    rw [List.map_cons, List.mem_cons, not_or] at h
    have e := aKv_none (As := As) h.2
    have h1 := h.1
    unfold aKv at e ⊢
    rw [List.map_cons, valV_neg (fun z => h1 (Sum.inl.inj z).symm)]
    exact e
theorem aKv_some {z : Int} {a : Addr} : ∀ {As : List (Int × Addr)}, (As.map (·.1)).Nodup → (z, a) ∈ As → valV (aKv As) (Sum.inl z) = some (.ref a)
  | p :: As, nd, h => by
    rw [List.map_cons, List.nodup_cons] at nd
    rcases List.mem_cons.mp h with e | e
    · subst e
      unfold aKv
      rw [List.map_cons, valV_pos rfl]
    · have q := aKv_some (As := As) nd.2 e
      have ne : p.1 ≠ z := fun y => nd.1 (by rw [y]; exact List.mem_map.mpr ⟨_, e, rfl⟩)
      unfold aKv at q ⊢
      rw [List.map_cons, valV_neg (fun y => ne (Sum.inl.inj y))]
      exact q
theorem aKv_put {As : List (Int × Addr)} {z : Int} {a : Addr} (h : z ∉ As.map (·.1)) : putK (aKv As) (Sum.inl z) (.ref a) = aKv (As ++ [(z, a)]) := by
  unfold putK
  rw [if_neg]
  · unfold aKv
    rw [List.map_append]
    rfl
  · intro g
    rw [List.any_eq_true] at g
    obtain ⟨kv, h1, h2⟩ := g
    unfold aKv at h1
    rw [List.mem_map] at h1
    obtain ⟨p, hp, rfl⟩ := h1
    exact h (List.mem_map.mpr ⟨p, hp, Sum.inl.inj (of_decide_eq_true h2)⟩)
theorem aKv_len (As : List (Int × Addr)) : (aKv As).length = As.length := by unfold aKv; rw [List.length_map]
theorem aKv_cases (As : List (Int × Addr)) (z : Int) (nd : (As.map (·.1)).Nodup) : (z ∉ As.map (·.1) ∧ valV (aKv As) (Sum.inl z) = none) ∨ ∃ a, (z, a) ∈ As ∧ valV (aKv As) (Sum.inl z) = some (.ref a) := by
  by_cases h : z ∈ As.map (·.1)
  · obtain ⟨p, hp, rfl⟩ := List.mem_map.mp h
    exact .inr ⟨p.2, hp, aKv_some nd hp⟩
  · exact .inl ⟨h, aKv_none h⟩
/-- a dict of lists of (place, number) -/
structure Aro (H : Hp) (D : Addr) (As : List (Int × Addr)) (N : Int → List Nu) : Prop where
  at' : H D = some (.dK (aKv As))
  nd : (As.map (·.1)).Nodup
  nd2 : (As.map (·.2)).Nodup
  each : ∀ p ∈ As, ∃ vs, H p.2 = some (.lst vs) ∧ Paired (NuV H) vs (N p.1)
  no : ∀ q, q ∉ As.map (·.1) → N q = []
theorem Aro.same {H H' : Hp} {D : Addr} {As : List (Int × Addr)} {N : Int → List Nu} (h : Aro H D As N) (s : Same H H') : Aro H' D As N :=
  ⟨s _ _ h.at', h.nd, h.nd2, fun p hp => by
    obtain ⟨vs, h1, h2⟩ := h.each p hp
    exact ⟨vs, s _ _ h1, nus_tk (Same.tk s) h2⟩, h.no⟩
theorem Aro.out {H : Hp} {D : Addr} {As : List (Int × Addr)} {N : Int → List Nu} (h : Aro H D As N) {p : Int × Addr} (hp : p ∈ As) : p.2 ≠ D := by
  obtain ⟨vs, h1, _⟩ := h.each p hp
  exact ne_of h1 h.at' (by intro z; cases z)
/-- a place more, with nothing yet -/
theorem Aro.more {H : Hp} {D a : Addr} {As : List (Int × Addr)} {N : Int → List Nu} {z : Int} (h : Aro H D As N) (hz : z ∉ As.map (·.1)) (ha : H a = some (.lst [])) (hn : a ∉ As.map (·.2)) : Aro (upd H D (.dK (aKv (As ++ [(z, a)])))) D (As ++ [(z, a)]) N := by
  have haD : a ≠ D := ne_of ha h.at' (by intro z; cases z)
  have k : Tk H (upd H D (.dK (aKv (As ++ [(z, a)])))) := fun b xs e => by
    rw [upd_ne (ne_of e h.at' (by intro z; cases z))]
    exact e
  refine ⟨upd_same, ?_, ?_, fun p hp => ?_, fun q hq => ?_⟩
  · rw [List.map_append, List.nodup_append]
    refine ⟨h.nd, by simp, fun x hx y hy e => ?_⟩
    simp only [List.map_cons, List.map_nil, List.mem_singleton] at hy
    subst hy
    subst e
    exact hz hx
  · rw [List.map_append, List.nodup_append]
    refine ⟨h.nd2, by simp, fun x hx y hy e => ?_⟩
    simp only [List.map_cons, List.map_nil, List.mem_singleton] at hy
    subst hy
    subst e
    exact hn hx
  · rcases List.mem_append.mp hp with hp | hp
    · obtain ⟨vs, h1, h2⟩ := h.each p hp
      exact ⟨vs, by rw [upd_ne (h.out hp)]; exact h1, nus_tk k h2⟩
    · rw [List.mem_singleton] at hp
      subst hp
      refine ⟨[], by rw [upd_ne haD]; exact ha, ?_⟩
      rw [show N (z, a).1 = [] from h.no z hz]
      exact .nil
  · rw [List.map_append, List.mem_append, not_or] at hq
    exact h.no q hq.1
theorem Aro.put {H : Hp} {D a c : Addr} {As : List (Int × Addr)} {N : Int → List Nu} {z : Int} {vs : List V} {q : Nu} (h : Aro H D As N) (hz : (z, a) ∈ As) (hv : H a = some (.lst vs)) (hc : NuV H (.ref c) q) : Aro (upd H a (.lst (vs ++ [.ref c]))) D As (fun p => N p ++ if p = z then [q] else []) := by
  have k : Tk H (upd H a (.lst (vs ++ [.ref c]))) := tk_lst hv
  refine ⟨by rw [upd_ne (Ne.symm (h.out hz))]; exact h.at', h.nd, h.nd2, fun p hp => ?_, fun y hy => ?_⟩
  · obtain ⟨us, h1, h2⟩ := h.each p hp
    by_cases e : p.1 = z
    · have e2 : p.2 = a := by
        obtain ⟨i, hi, rfl⟩ := List.getElem_of_mem hp
        obtain ⟨j, hj, ej⟩ := List.getElem_of_mem hz
        have w : i = j := by
          have e3 : (As.map (·.1))[i]? = (As.map (·.1))[j]? := by
            rw [List.getElem?_map, List.getElem?_map, List.getElem?_eq_getElem hi, List.getElem?_eq_getElem hj, ej]
            exact congrArg some e
          exact (List.getElem?_inj (by rw [List.length_map]; exact hi) h.nd).mp e3
        subst w
        rw [ej]
      rw [e2] at h1 ⊢
      rw [hv] at h1
      cases h1
      refine ⟨_, upd_same, ?_⟩
      rw [if_pos e]
      exact Paired.snoc (nus_tk k h2) (hc.tk k)
    · have e2 : p.2 ≠ a := fun y => e (by
        obtain ⟨i, hi, rfl⟩ := List.getElem_of_mem hp
        obtain ⟨j, hj, ej⟩ := List.getElem_of_mem hz
        have w : i = j := by
          have e3 : (As.map (·.2))[i]? = (As.map (·.2))[j]? := by
            rw [List.getElem?_map, List.getElem?_map, List.getElem?_eq_getElem hi, List.getElem?_eq_getElem hj, ej]
            exact congrArg some y
          exact (List.getElem?_inj (by rw [List.length_map]; exact hi) h.nd2).mp e3
        subst w
        rw [ej])
      refine ⟨us, by rw [upd_ne e2]; exact h1, ?_⟩
      rw [if_neg e, List.append_nil]
      exact nus_tk k h2
  · have ne : y ≠ z := fun e => hy (by rw [e]; exact List.mem_map.mpr ⟨_, hz, rfl⟩)
    rw [h.no y hy, if_neg ne]
    rfl
def AroAt (H : Hp) (v : V) (N : Int → List Nu) : Prop := ∃ D As, v = .ref D ∧ Aro H D As N
def spAround : Sp := fun vs H Q _ => ∃ (v : V) (b : Addr) (n : Int) (ts : List Tie) (ns : List Int), vs = [v, .ref b] ∧ WebAt H v n ts ∧ ts.length ≤ 130 ∧ H b = some (.lst (ns.map V.int)) ∧ ns.length ≤ 130 ∧ (∀ m ∈ ns, 0 ≤ m ∧ m < (ts.length : Int)) ∧
  ∀ u H', Same H H' → AroAt H' u (nN ts ns) → Q u H'
section
variable {P : Program} {w : World} {K : PySem.W.Frag} {mg : Str → Option Value} {base : Heap}
theorem ok_ties_around {f : Addr} {fd : FuncData} (F : Fun K "ties_around" "ties_around" s_ties_around f fd) : FnOk P w K mg base CX0 1 f fd ["web", "numbers"] spAround := by
  refine F.ok sc_ties_around (fun vs H Q E h => ?_) (fun cdv A outer s H vs Q E hr h => ?_)
  · obtain ⟨v, b, n, ts, ns, rfl, _⟩ := h
    rfl
  · obtain ⟨v, b, n, ts, ns, rfl, ⟨wa, wb, us, rfl, hwa, hwb, hp⟩, few, hb, fewn, okn, q⟩ := h
    refine ⟨_, (pss_cons (ps_set (i := 2) sc_ties_around.nd rfl (.inl rfl) pe_dnewK)
      (pss_cons (ps_for PassesOwn.never rfl (pi_list (pv 1)) (pg_name (i := 3) sc_ties_around.nd rfl (.inl rfl))
        (pss_cons (ps_asg (pe_ix ix_tup (pe_ix ix_tup (pv 0) pe_int (fun _ _ => rfl)) (pv 3) (fun _ _ => rfl)) (pg_tup rfl (pgs_cons (pg_name (i := 4) sc_ties_around.nd rfl (.inl rfl)) (pgs_cons (pg_name (i := 5) sc_ties_around.nd rfl (.inl rfl)) (pgs_cons (pg_name (i := 6) sc_ties_around.nd rfl (.inl rfl)) pgs_nil)))))
        (Evl.pss_cut (ps_expr (pe_bm PySem.F.plainAttrs_list PySem.F.slot_list_append PySem.F.type_list_append mt_append (pe_dsetd (pv 2) (pv 4) (pe_lst pa_nil) ⟨rfl, rfl, rfl, rfl⟩) (pa_cons (pe_tup (pa_cons (pv 5) (pa_cons (pv 3) pa_nil))) pa_nil)))
        (pss_one (ps_expr (pe_bm PySem.F.plainAttrs_list PySem.F.slot_list_append PySem.F.type_list_append mt_append (pe_dsetd (pv 2) (pv 5) (pe_lst pa_nil) ⟨rfl, rfl, rfl, rfl⟩) (pa_cons (pe_tup (pa_cons (pv 4) (pa_cons (pv 3) pa_nil))) pa_nil)))))))
      (pss_one (ps_ret (pv 2))))), ?_⟩
    have hlen : us.length = ts.length := Paired.length hp
    refine fun D nD => ⟨.ref b, rfl, b, rfl, ⟨_, SqL.of (same_new nD _ _ hb)⟩, ?_⟩
    -- a tie's one end
    have put : ∀ {H1 : Hp} {As : List (Int × Addr)} {N : Int → List Nu} {x y m : Int} (k : Hp → Prop), Same H H1 → Aro H1 D As N → (∀ p ∈ As, H p.2 = none) → As.length ≤ 500 → (∀ z, (N z).length ≤ 500) →
        (∀ H2 As2, Same H H2 → Aro H2 D As2 (fun p => N p ++ if p = x then [(y, m)] else []) → (∀ p ∈ As2, H p.2 = none) → As2.length ≤ As.length + 1 → k H2) →
        ∀ e, H1 e = none → ∃ (kvs : List (Key × V)) (kk : Key), (upd H1 e (.lst [])) D = some (.dK kvs) ∧ V.int x = kV kk ∧ kvs.length < sizeLine ∧ (∀ v, valV kvs kk = some v → (tyV K "list" v (upd H1 e (.lst [])) ∧ (2 ≤ sizeLine ∧ ∀ p, (upd H1 e (.lst [])) p = none → ∃ l xs z, v = .ref l ∧ [V.ref p] = [z] ∧ (upd (upd H1 e (.lst [])) p (.tup [.int y, .int m])) l = some (.lst xs) ∧ xs.length < sizeLine ∧ k (upd (upd (upd H1 e (.lst [])) p (.tup [.int y, .int m])) l (.lst (xs ++ [z])))))) ∧
          (valV kvs kk = none → (tyV K "list" (.ref e) (upd (upd H1 e (.lst [])) D (.dK (putK kvs kk (.ref e)))) ∧ (2 ≤ sizeLine ∧ ∀ p, (upd (upd H1 e (.lst [])) D (.dK (putK kvs kk (.ref e)))) p = none → ∃ l xs z, V.ref e = .ref l ∧ [V.ref p] = [z] ∧ (upd (upd (upd H1 e (.lst [])) D (.dK (putK kvs kk (.ref e)))) p (.tup [.int y, .int m])) l = some (.lst xs) ∧ xs.length < sizeLine ∧ k (upd (upd (upd (upd H1 e (.lst [])) D (.dK (putK kvs kk (.ref e)))) p (.tup [.int y, .int m])) l (.lst (xs ++ [z])))))) := by
      intro H1 As N x y m k s1 hA hf la ln fin e ne
      have sE := same_new (o := .lst []) ne
      have A1 := hA.same sE
      have ne0 : H e = none := s1.free ne
      have heA : e ∉ As.map (·.2) := fun z => by
        obtain ⟨p, hp, ep⟩ := List.mem_map.mp z
        obtain ⟨vs, h1, _⟩ := hA.each p hp
        rw [ep, ne] at h1
        cases h1
      have nD1 : H1 D = some (.dK (aKv As)) := hA.at'
      have heD : e ≠ D := (ne_of_none nD1 ne).symm
      refine ⟨aKv As, Sum.inl x, A1.at', rfl, by rw [aKv_len]; exact small1000 (by omega), fun v hv => ?_, fun hv => ?_⟩
      · rcases aKv_cases As x hA.nd with ⟨_, h⟩ | ⟨a, ha, h⟩
        · rw [h] at hv; cases hv
        · rw [h] at hv
          cases hv
          obtain ⟨vs, g1, g2⟩ := A1.each _ ha
          refine ⟨.inl ⟨rfl, _, SqL.of g1⟩, by decide, fun p np => ⟨a, vs, .ref p, rfl, rfl, same_new np _ _ g1, ?_, ?_⟩⟩
          · have : (N (x, a).1).length ≤ 500 := ln x
            rw [Paired.length g2]
            exact small1000 (by omega)
          · have sP := same_new (o := .tup [.int y, .int m]) np
            have A2 := A1.same sP
            refine fin _ As (Same.mut (s1.trans (sE.trans sP)) (hf _ ha)) (A2.put ha (sP _ _ g1) ⟨p, rfl, upd_same⟩) hf (Nat.le_succ _)
      · rcases aKv_cases As x hA.nd with ⟨hx, _⟩ | ⟨a, ha, h⟩
        · rw [aKv_put hx]
          have A2 := A1.more hx upd_same heA
          have hE : (upd (upd H1 e (.lst [])) D (.dK (aKv (As ++ [(x, e)])))) e = some (.lst []) := by rw [upd_ne heD]; exact upd_same
          refine ⟨.inl ⟨rfl, _, SqL.of hE⟩, by decide, fun p np => ⟨e, [], .ref p, rfl, rfl, same_new np _ _ hE, by decide, ?_⟩⟩
          have sP := same_new (o := .tup [.int y, .int m]) np
          have A3 := A2.same sP
          have nD0 : H D = none := nD
          refine fin _ (As ++ [(x, e)]) (Same.mut ((Same.mut (s1.trans sE) nD0).trans sP) ne0) (A3.put (List.mem_append_right _ (by simp)) (sP _ _ hE) ⟨p, rfl, upd_same⟩) (fun p hp => ?_) (by rw [List.length_append]; exact Nat.le_refl _)
          rcases List.mem_append.mp hp with h | h
          · exact hf p h
          · rw [List.mem_singleton.mp h]
            exact ne0
        · rw [h] at hv; cases hv
    refine for_list (xs := ns.map V.int) (fun i σ' H' => ∃ (y3 y4 y5 y6 : Option V) (As : List (Int × Addr)), σ' = [some (.ref wa), some (.ref b), some (.ref D), y3, y4, y5, y6] ∧ Aro H' D As (nN ts (ns.take i)) ∧ (∀ p ∈ As, H p.2 = none) ∧ As.length ≤ 2 * i ∧ Same H H') ⟨none, none, none, none, [], rfl, ⟨upd_same, List.nodup_nil, List.nodup_nil, fun p hp => by simp at hp, fun q _ => rfl⟩, fun p hp => by simp at hp, Nat.le_refl _, same_new nD⟩ (fun i σ' H' _ h => by
      obtain ⟨_, _, _, _, _, _, _, _, _, s⟩ := h
      exact SqL.of (s _ _ hb)) ?_ ?_
    · rintro i x σ' H1 ex ⟨y3, y4, y5, y6, As, rfl, hA, hf, la, s1⟩
      rw [List.getElem?_map] at ex
      obtain ⟨m, em, rfl⟩ := Option.map_eq_some_iff.mp ex
      have hi : i < ns.length := (List.getElem?_eq_some_iff.mp em).1
      have om := okn m (List.mem_of_getElem? em)
      obtain ⟨vv, e1, e2⟩ := getI (xs := us) om.1 (by omega)
      obtain ⟨t, et, c, rfl, hc⟩ := Paired.at hp e2
      have etn := tieN_of et
      refine ⟨.ref wa, rfl, wa, _, 1, .ref wb, rfl, rfl, SqT.of (s1 _ _ hwa), rfl, .int m, rfl, wb, us, m, .ref c, rfl, rfl, SqT.of (s1 _ _ hwb), e1, c, _, rfl, SqT.of (s1 _ _ hc), rfl, _, _, rfl, _, _, rfl, _, _, rfl, rfl, ?_⟩
      have lN : ∀ z, (nN ts (ns.take i) z).length ≤ 260 := fun z => by
        have := nN_len ts (ns.take i) z
        rw [List.length_take] at this
        omega
      refine ⟨fun σ' H' => ∃ As, σ' = [some (.ref wa), some (.ref b), some (.ref D), some (.int m), some (.int t.one), some (.int t.other), some (.str (kindS t.foe))] ∧ Aro H' D As (fun p => nN ts (ns.take i) p ++ if p = t.one then [(t.other, m)] else []) ∧ (∀ p ∈ As, H p.2 = none) ∧ As.length ≤ 2 * i + 1 ∧ Same H H', ?_, ?_⟩
      · refine ⟨.ref D, rfl, D, rfl, .inl ⟨_, .inl hA.at'⟩, .int t.one, rfl, Nat.zero_le _, fun e ne => ?_⟩
        obtain ⟨kvs, kk, w1, w2, w3, w4, w5⟩ := put (x := t.one) (y := t.other) (m := m) (fun H' => ∃ As, [some (V.ref wa), some (.ref b), some (.ref D), some (.int m), some (.int t.one), some (.int t.other), some (.str (kindS t.foe))] = [some (V.ref wa), some (.ref b), some (.ref D), some (.int m), some (.int t.one), some (.int t.other), some (.str (kindS t.foe))] ∧ Aro H' D As (fun p => nN ts (ns.take i) p ++ if p = t.one then [(t.other, m)] else []) ∧ (∀ p ∈ As, H p.2 = none) ∧ As.length ≤ 2 * i + 1 ∧ Same H H') s1 hA hf (by omega) (fun z => by have := lN z; omega) (fun H2 As2 s2 h2 f2 l2 => ⟨As2, rfl, h2, f2, by omega, s2⟩) e ne
        exact ⟨kvs, kk, w1, w2, w3, fun v hv => ⟨(w4 v hv).1, .int t.other, rfl, .int m, rfl, (w4 v hv).2⟩, fun hv => ⟨(w5 hv).1, .int t.other, rfl, .int m, rfl, (w5 hv).2⟩⟩
      · rintro σ' H2 ⟨As2, rfl, hA2, hf2, la2, s2⟩
        refine ⟨.ref D, rfl, D, rfl, .inl ⟨_, .inl hA2.at'⟩, .int t.other, rfl, Nat.zero_le _, fun e ne => ?_⟩
        have q1 : ∀ z, ((fun p => nN ts (ns.take i) p ++ if p = t.one then [(t.other, m)] else []) z).length ≤ 500 := fun z => by
          have := lN z
          rw [List.length_append]
          split <;> simp only [List.length_cons, List.length_nil] <;> omega
        have q2 : ∀ H3 As3, Same H H3 → Aro H3 D As3 (fun p => (nN ts (ns.take i) p ++ if p = t.one then [(t.other, m)] else []) ++ if p = t.other then [(t.one, m)] else []) → (∀ p ∈ As3, H p.2 = none) → As3.length ≤ As2.length + 1 → (fun H' => ∃ (y3 y4 y5 y6 : Option V) (As : List (Int × Addr)), [some (V.ref wa), some (.ref b), some (.ref D), some (.int m), some (.int t.one), some (.int t.other), some (.str (kindS t.foe))] = [some (.ref wa), some (.ref b), some (.ref D), y3, y4, y5, y6] ∧ Aro H' D As (nN ts (ns.take (i + 1))) ∧ (∀ p ∈ As, H p.2 = none) ∧ As.length ≤ 2 * (i + 1) ∧ Same H H') H3 := fun H3 As3 s3 h3 f3 l3 => by
          refine ⟨_, _, _, _, As3, rfl, ?_, f3, by omega, s3⟩
          have eN : nN ts (ns.take (i + 1)) = fun p => (nN ts (ns.take i) p ++ if p = t.one then [(t.other, m)] else []) ++ if p = t.other then [(t.one, m)] else [] := by
            funext p
            rw [take_snoc em, nN_snoc]
            unfold n1
            rw [etn, List.append_assoc]
          rw [eN]
          exact h3
        obtain ⟨kvs, kk, w1, w2, w3, w4, w5⟩ := put (x := t.other) (y := t.one) (m := m) (fun H' => ∃ (y3 y4 y5 y6 : Option V) (As : List (Int × Addr)), [some (V.ref wa), some (.ref b), some (.ref D), some (.int m), some (.int t.one), some (.int t.other), some (.str (kindS t.foe))] = [some (.ref wa), some (.ref b), some (.ref D), y3, y4, y5, y6] ∧ Aro H' D As (nN ts (ns.take (i + 1))) ∧ (∀ p ∈ As, H p.2 = none) ∧ As.length ≤ 2 * (i + 1) ∧ Same H H') s2 hA2 hf2 (by omega) q1 q2 e ne
        exact ⟨kvs, kk, w1, w2, w3, fun v hv => ⟨(w4 v hv).1, .int t.one, rfl, .int m, rfl, (w4 v hv).2⟩, fun hv => ⟨(w5 hv).1, .int t.one, rfl, .int m, rfl, (w5 hv).2⟩⟩
    · rintro σ' H1 ⟨y3, y4, y5, y6, As, rfl, hA, hf, la, s1⟩
      rw [List.length_map, List.take_length] at hA
      exact ⟨.ref D, rfl, q _ _ s1 ⟨D, As, rfl, hA⟩⟩
end
/-! ### ways: what is walked, level by level (mathematics) -/
abbrev We := Int × Nat × Option (Int × Int)
def weL (e : We) : List V := match e.2.2 with
  | none => [.int (e.2.1 : Nat), .non, .non]
  | some f => [.int (e.2.1 : Nat), .int f.1, .int f.2]
structure WF (N : Int → List Nu) (s : Int) (ws : List We) : Prop where
  nd : (ws.map (·.1)).Nodup
  root : (s, 0, none) ∈ ws
  non : ∀ y k, (y, k, none) ∈ ws → y = s ∧ k = 0
  par : ∀ y k p m, (y, k, some (p, m)) ∈ ws → ∃ j f, (p, j, f) ∈ ws ∧ k = j + 1 ∧ (y, m) ∈ N p
  cl : ∀ e ∈ ws, ∀ q ∈ N e.1, ∃ k f, (q.1, k, f) ∈ ws ∧ k ≤ e.2.1 + 1
structure BF (N : Int → List Nu) (s : Int) (ws : List We) (L : Nat) (todo fol : List Int) : Prop where
  nd : (ws.map (·.1)).Nodup
  root : (s, 0, none) ∈ ws
  non : ∀ y k, (y, k, none) ∈ ws → y = s ∧ k = 0
  par : ∀ y k p m, (y, k, some (p, m)) ∈ ws → ∃ j f, (p, j, f) ∈ ws ∧ k = j + 1 ∧ (y, m) ∈ N p
  lv : ∀ e ∈ ws, e.2.1 ≤ L + 1
  td : ∀ x ∈ todo, ∃ f, (x, L, f) ∈ ws
  dn : ∀ e ∈ ws, e.2.1 ≤ L → e.1 ∈ todo ∨ ∀ q ∈ N e.1, ∃ k f, (q.1, k, f) ∈ ws ∧ k ≤ e.2.1 + 1
  f1 : ∀ x ∈ fol, ∃ f, (x, L + 1, f) ∈ ws
  f2 : ∀ e ∈ ws, e.2.1 = L + 1 → e.1 ∈ fol
  fl : fol.length ≤ ws.length
theorem we_one {ws : List We} (nd : (ws.map (·.1)).Nodup) {x : Int} {k j : Nat} {f g : Option (Int × Int)} (h : (x, k, f) ∈ ws) (h' : (x, j, g) ∈ ws) : k = j ∧ f = g := by
  induction ws with
  | nil => cases h
  | cons e ws ih =>
    rw [List.map_cons, List.nodup_cons] at nd
    rcases List.mem_cons.mp h with a | a <;> rcases List.mem_cons.mp h' with b | b
    · rw [← a] at b
      cases b
      exact ⟨rfl, rfl⟩
    · exact absurd (List.mem_map.mpr ⟨_, b, rfl⟩) (by rw [← a] at nd; exact nd.1)
    · exact absurd (List.mem_map.mpr ⟨_, a, rfl⟩) (by rw [← b] at nd; exact nd.1)
    · exact ih nd.2 a b
theorem we_key {ws : List We} {x : Int} (h : x ∈ ws.map (·.1)) : ∃ k f, (x, k, f) ∈ ws := by
  obtain ⟨⟨y, k, f⟩, he, e⟩ := List.mem_map.mp h
  have e : y = x := e
  subst e
  exact ⟨k, f, he⟩
theorem WF.rg {N : Int → List Nu} {s : Int} {ws : List We} {n : Int} (h : WF N s ws) (hs : 0 ≤ s ∧ s < n) (hN : ∀ x q, q ∈ N x → 0 ≤ q.1 ∧ q.1 < n) {x : Int} (hx : x ∈ ws.map (·.1)) : 0 ≤ x ∧ x < n := by
  obtain ⟨k, f, he⟩ := we_key hx
  cases f with
  | none =>
    rw [(h.non _ _ he).1]
    exact hs
  | some pm =>
    obtain ⟨p, m⟩ := pm
    obtain ⟨j, g, _, _, hm⟩ := h.par _ _ _ _ he
    exact hN p _ hm
theorem BF.rg {N : Int → List Nu} {s : Int} {ws : List We} {L : Nat} {todo fol : List Int} {n : Int} (h : BF N s ws L todo fol) (hs : 0 ≤ s ∧ s < n) (hN : ∀ x q, q ∈ N x → 0 ≤ q.1 ∧ q.1 < n) (x : Int) (hx : x ∈ ws.map (·.1)) : 0 ≤ x ∧ x < n := by
  obtain ⟨k, f, he⟩ := we_key hx
  cases f with
  | none =>
    rw [(h.non _ _ he).1]
    exact hs
  | some pm =>
    obtain ⟨p, m⟩ := pm
    obtain ⟨j, g, _, _, hm⟩ := h.par _ _ _ _ he
    exact hN p _ hm
theorem BF.few {N : Int → List Nu} {s : Int} {ws : List We} {L : Nat} {todo fol : List Int} {n : Nat} (h : BF N s ws L todo fol) (hs : 0 ≤ s ∧ s < n) (hN : ∀ x q, q ∈ N x → 0 ≤ q.1 ∧ q.1 < n) : ws.length ≤ n := by
  have := pigeon n _ h.nd (h.rg hs hN)
  rw [List.length_map] at this
  exact this
theorem BF.start (N : Int → List Nu) (s : Int) : BF N s [(s, 0, none)] 0 [s] [] :=
  ⟨by simp, by simp, fun y k h => by simp at h; exact ⟨h.1, h.2⟩, fun y k p m h => by simp at h, fun e h => by rw [List.mem_singleton.mp h]; simp, fun x h => ⟨none, by rw [List.mem_singleton.mp h]; simp⟩, fun e h _ => .inl (by rw [List.mem_singleton.mp h]; simp), fun x h => by simp at h, fun e h z => by rw [List.mem_singleton.mp h] at z; simp at z, by simp⟩
theorem BF.stop {N : Int → List Nu} {s : Int} {ws : List We} {L : Nat} (h : BF N s ws L [] []) : WF N s ws :=
  ⟨h.nd, h.root, h.non, h.par, fun e he => by
    have h1 := h.lv e he
    have h2 : e.2.1 ≤ L := by
      by_cases z : e.2.1 = L + 1
      · exact absurd (h.f2 e he z) (by simp)
      · omega
    exact (h.dn e he h2).resolve_left (by simp)⟩
theorem BF.next {N : Int → List Nu} {s : Int} {ws : List We} {L : Nat} {fol : List Int} (h : BF N s ws L [] fol) : BF N s ws (L + 1) fol [] :=
  ⟨h.nd, h.root, h.non, h.par, fun e he => by have := h.lv e he; omega, h.f1, fun e he hl => by
    by_cases z : e.2.1 = L + 1
    · exact .inl (h.f2 e he z)
    · exact .inr ((h.dn e he (by omega)).resolve_left (by simp)), fun x hx => by simp at hx, fun e he z => by have := h.lv e he; omega, by simp⟩
theorem BF.push {N : Int → List Nu} {s p y m : Int} {ws : List We} {L : Nat} {todo fol : List Int} {f : Option (Int × Int)} (h : BF N s ws L todo fol) (hp : (p, L, f) ∈ ws) (hm : (y, m) ∈ N p) (hy : y ∉ ws.map (·.1)) : BF N s (ws ++ [(y, L + 1, some (p, m))]) L todo (fol ++ [y]) := by
  have sub : ∀ {e : We}, e ∈ ws → e ∈ ws ++ [(y, L + 1, some (p, m))] := fun he => List.mem_append_left _ he
  have cs : ∀ {e : We}, e ∈ ws ++ [(y, L + 1, some (p, m))] → e ∈ ws ∨ e = (y, L + 1, some (p, m)) := fun he => by
    rcases List.mem_append.mp he with z | z
    · exact .inl z
    · exact .inr (List.mem_singleton.mp z)
  refine ⟨?_, sub h.root, fun z k hz => ?_, fun z k p' m' hz => ?_, fun e he => ?_, fun x hx => ?_, fun e he hl => ?_, fun x hx => ?_, fun e he z => ?_, ?_⟩
  · rw [List.map_append, List.nodup_append]
    refine ⟨h.nd, by simp, fun x hx z hz e => ?_⟩
    have : z = y := by simpa using hz
    subst this
    subst e
    exact hy hx
  · rcases cs hz with z1 | z1
    · exact h.non _ _ z1
    · cases z1
  · rcases cs hz with z1 | z1
    · obtain ⟨j, g, h1, h2, h3⟩ := h.par _ _ _ _ z1
      exact ⟨j, g, sub h1, h2, h3⟩
    · cases z1
      exact ⟨L, f, sub hp, rfl, hm⟩
  · rcases cs he with z1 | z1
    · exact h.lv e z1
    · rw [z1]
      exact Nat.le_refl _
  · obtain ⟨g, hg⟩ := h.td x hx
    exact ⟨g, sub hg⟩
  · rcases cs he with z1 | z1
    · rcases h.dn e z1 hl with a | a
      · exact .inl a
      · refine .inr fun q hq => ?_
        obtain ⟨k, g, h1, h2⟩ := a q hq
        exact ⟨k, g, sub h1, h2⟩
    · rw [z1] at hl
      simp at hl
      omega
  · rcases List.mem_append.mp hx with z | z
    · obtain ⟨g, hg⟩ := h.f1 x z
      exact ⟨g, sub hg⟩
    · rw [List.mem_singleton.mp z]
      exact ⟨some (p, m), List.mem_append_right _ (by simp)⟩
  · rcases cs he with z1 | z1
    · exact List.mem_append_left _ (h.f2 e z1 z)
    · rw [z1]
      exact List.mem_append_right _ (by simp)
  · rw [List.length_append, List.length_append]
    have := h.fl
    simp
    omega
theorem BF.done {N : Int → List Nu} {s p : Int} {ws : List We} {L : Nat} {todo fol : List Int} {f : Option (Int × Int)} (h : BF N s ws L (p :: todo) fol) (hp : (p, L, f) ∈ ws) (hd : ∀ q ∈ N p, ∃ k f, (q.1, k, f) ∈ ws ∧ k ≤ L + 1) : BF N s ws L todo fol :=
  ⟨h.nd, h.root, h.non, h.par, h.lv, fun x hx => h.td x (List.mem_cons_of_mem _ hx), fun e he hl => by
    rcases h.dn e he hl with a | a
    · rcases List.mem_cons.mp a with b | b
      · obtain ⟨x, k, g⟩ := e
        have b : x = p := b
        subst b
        have := (we_one h.nd he hp).1
        subst this
        exact .inr hd
      · exact .inl b
    · exact .inr a, h.f1, h.f2, h.fl⟩
/-! ### as it lies in the heap -/
def WeV (H : Hp) (kv : Key × V) (e : We) : Prop := kv.1 = Sum.inl e.1 ∧ ∃ a, kv.2 = .ref a ∧ H a = some (.tup (weL e))
theorem WeV.tk {H H' : Hp} (k : Tk H H') {kv : Key × V} {e : We} (h : WeV H kv e) : WeV H' kv e := by
  obtain ⟨h1, a, h2, h3⟩ := h
  exact ⟨h1, a, h2, k _ _ h3⟩
theorem wes_tk {H H' : Hp} (k : Tk H H') {kvs : List (Key × V)} {ws : List We} (h : Paired (WeV H) kvs ws) : Paired (WeV H') kvs ws := Paired.mono (fun _ _ x => x.tk k) h
theorem wes_none {H : Hp} {x : Int} : ∀ {kvs : List (Key × V)} {ws : List We}, Paired (WeV H) kvs ws → x ∉ ws.map (·.1) → valV kvs (Sum.inl x) = none
  | _, _, .nil, _ => rfl
  | kv :: kvs, e :: ws, .cons h t, hx => by
    rw [List.map_cons, List.mem_cons, not_or] at hx
    obtain ⟨k, v⟩ := kv
    have h1 : k = Sum.inl e.1 := h.1
    rw [valV_neg (fun z => hx.1 (by rw [h1] at z; exact (Sum.inl.inj z).symm))]
    exact wes_none t hx.2
theorem wes_some {H : Hp} {x : Int} {k : Nat} {f : Option (Int × Int)} : ∀ {kvs : List (Key × V)} {ws : List We}, Paired (WeV H) kvs ws → (ws.map (·.1)).Nodup → (x, k, f) ∈ ws → ∃ a, valV kvs (Sum.inl x) = some (.ref a) ∧ H a = some (.tup (weL (x, k, f)))
  | _, _, .nil, _, hx => by cases hx
  | kv :: kvs, e :: ws, .cons h t, nd, hx => by
    rw [List.map_cons, List.nodup_cons] at nd
    obtain ⟨k', v⟩ := kv
    have h1 : k' = Sum.inl e.1 := h.1
    obtain ⟨a, h2, h3⟩ := h.2
    have h2 : v = .ref a := h2
    rcases List.mem_cons.mp hx with z | z
    · subst z
      exact ⟨a, by rw [valV_pos h1, h2], h3⟩
    · have ne : e.1 ≠ x := fun y => nd.1 (by rw [y]; exact List.mem_map.mpr ⟨_, z, rfl⟩)
      rw [valV_neg (fun y => ne (by rw [h1] at y; exact Sum.inl.inj y))]
      exact wes_some t nd.2 z
theorem putK_new {k : Key} {v : V} : ∀ {kvs : List (Key × V)}, valV kvs k = none → putK kvs k v = kvs ++ [(k, v)] := fun {kvs} h => by
  unfold putK
  rw [if_neg]
  intro g
  rw [List.any_eq_true] at g
  obtain ⟨kv, h1, h2⟩ := g
  have h2 := of_decide_eq_true h2
  induction kvs with
  | nil => cases h1
  | cons x kvs ih =>
    obtain ⟨k', v'⟩ := x
    by_cases e : k' = k
    · rw [valV_pos e] at h
      cases h
    · rw [valV_neg e] at h
      rcases List.mem_cons.mp h1 with z | z
      · rw [z] at h2
        exact e h2
      · exact ih h z
def WalkAt (H : Hp) (D : Addr) (ws : List We) : Prop := ∃ kvs, H D = some (.dK kvs) ∧ Paired (WeV H) kvs ws
theorem WalkAt.same {H H' : Hp} {D : Addr} {ws : List We} (h : WalkAt H D ws) (s : Same H H') : WalkAt H' D ws := by
  obtain ⟨kvs, h1, h2⟩ := h
  exact ⟨kvs, s _ _ h1, wes_tk (Same.tk s) h2⟩
/-- a list or a tuple, walked -/
def iSeq (K : PySem.W.Frag) (tl : TE) : TI := fun σ H R => tl σ H fun x H1 => ∃ a, x = .ref a ∧ (((∃ xs, SqL K H1 a xs) ∧ R (Itl K a) H1) ∨ ((∃ xs, SqT K H1 a xs) ∧ R (Itt K a) H1))
theorem pi_seq {X : Cx} {tg l : Expr} {tl : TE} (hl : PE X l tl) : PI X tg l (iSeq X.K tl) := by
  refine ⟨fun pins s σ H R I h => ?_⟩
  refine thn (hl.run pins s σ H _ I h) fun v s1 ⟨x, H1, I1, r1, q1⟩ => ?_
  obtain ⟨a, e, q1⟩ := q1
  subst e
  cases r1
  rcases q1 with ⟨⟨xs, hq⟩, q⟩ | ⟨⟨xs, hq⟩, q⟩
  · obtain ⟨its, rv, p, hz⟩ := I1.list hq
    refine wpAny_pyIter_list p.isList ?_
    refine ⟨s1.heap.objs.size, [s1.heap.objs.size], _, _, H1, rfl, I1.kept (t' := s1.toks) fun b o e => Heap.get?_push_of_some _ e, turn_list a _, ⟨_, Heap.get?_push_size _ rfl, rfl, rfl⟩, fun b hb => ?_, q⟩
    have e : b = s1.heap.objs.size := by simpa using hb
    subst e
    exact I1.fpOk (Nat.le_refl _) (I1.hok.fresh (Nat.le_refl _))
  · obtain ⟨its, rv, p, hz⟩ := I1.tuple hq
    refine wpAny_pyIter_tuple (show s1.heap.IsTuple a its.toArray from p) ?_
    refine ⟨s1.heap.objs.size, [s1.heap.objs.size], _, _, H1, rfl, I1.kept (t' := s1.toks) fun b o e => Heap.get?_push_of_some _ e, turn_tuple a _, ⟨_, Heap.get?_push_size _ rfl, rfl, rfl⟩, fun b hb => ?_, q⟩
    have e : b = s1.heap.objs.size := by simpa using hb
    subst e
    exact I1.fpOk (Nat.le_refl _) (I1.hok.fresh (Nat.le_refl _))
def spWalkFrom : Sp := fun vs H Q _ => ∃ (u : V) (n : Nat) (s : Int) (N : Int → List Nu), vs = [.int s, u] ∧ AroAt H u N ∧ 0 ≤ s ∧ s < n ∧ n ≤ 100 ∧ (∀ x q, q ∈ N x → 0 ≤ q.1 ∧ q.1 < n) ∧ ∀ D ws H', Same H H' → WalkAt H' D ws → WF N s ws → ws.length ≤ n → Q (.ref D) H'
section
variable {P : Program} {w : World} {K : PySem.W.Frag} {mg : Str → Option Value} {base : Heap}
theorem ok_walk_from {f : Addr} {fd : FuncData} (F : Fun K "walk_from" "walk_from" s_walk_from f fd) : FnOk P w K mg base CX0 1 f fd ["start", "around"] spWalkFrom := by
  refine F.ok sc_walk_from (fun vs H Q E h => ?_) (fun cdv A outer sh H vs Q E hr h => ?_)
  · obtain ⟨u, n, s, N, rfl, _⟩ := h
    rfl
  · obtain ⟨u, n, s, N, rfl, ⟨U, As, rfl, hU⟩, s0, s1, n100, hN, q⟩ := h
    have hu := room1 hr
    refine ⟨_, (pss_cons (ps_set (i := 2) sc_walk_from.nd rfl (.inl rfl) (pe_disp (pps_cons (pv 0) (pe_tup (pa_cons pe_int (pa_cons pe_non (pa_cons pe_non pa_nil)))) pps_nil) (by rfl) (by rfl) (fun z => by cases z) (by decide)))
      (pss_cons (ps_set (i := 3) sc_walk_from.nd rfl (.inl rfl) (pe_lst (pa_cons (pv 0) pa_nil)))
      (pss_cons (ps_set (i := 4) sc_walk_from.nd rfl (.inl rfl) pe_int)
      (pss_cons (ps_while PassesOwn.never (pt_truth (pv 3) (by intro _; rfl))
        (pss_cons (ps_aug (i := 4) sc_walk_from.nd rfl (.inl rfl) pe_int ip_add)
        (pss_cons (ps_set (i := 5) sc_walk_from.nd rfl (.inl rfl) (pe_lst pa_nil))
        (pss_cons (ps_for PassesOwn.never rfl (pi_list (pv 3)) (pg_name (i := 6) sc_walk_from.nd rfl (.inl rfl))
          (pss_one (ps_for PassesOwn.never rfl (pi_seq (pe_dget2 hu (pv 1) (pv 6) (pe_tup pa_nil) ⟨rfl, rfl, rfl, rfl⟩)) (pg_tup rfl (pgs_cons (pg_name (i := 7) sc_walk_from.nd rfl (.inl rfl)) (pgs_cons (pg_name (i := 8) sc_walk_from.nd rfl (.inl rfl)) pgs_nil)))
            (pss_one (ps_if (pt_cmp (pc_dnotin hu (pv 7) (pv 2)))
              (pss_cons (ps_dput hu (pv 2) (pv 7) (pe_tup (pa_cons (pv 4) (pa_cons (pv 6) (pa_cons (pv 8) pa_nil)))) rfl)
              (pss_one (ps_expr (pe_bm PySem.F.plainAttrs_list PySem.F.slot_list_append PySem.F.type_list_append mt_append (pv 5) (pa_cons (pv 7) pa_nil)))))
              pss_nil)))))
        (pss_one (ps_set (i := 3) sc_walk_from.nd rfl (.inl rfl) (pv 5)))))))
      (pss_one (ps_ret (pv 2))))))), ?_⟩
    -- walk
    refine fun D nD => ⟨.int s, rfl, by show 3 ≤ sizeLine; decide, fun T nT => ?_⟩
    have hTD : T ≠ D := (ne_of_none upd_same nT).symm
    have nTH : H T = none := by rw [upd_ne hTD] at nT; exact nT
    refine ⟨by rw [upd_ne (Ne.symm hTD)]; exact upd_same, [(Sum.inl s, .ref T)], rfl, (by show 1 ≤ 15; decide), ?_⟩
    have hw0 : WalkAt (upd (upd (upd H D (.dK [])) T (.tup [.int 0, .non, .non])) D (.dK (mergeK [] [(Sum.inl s, .ref T)]))) D [(s, 0, none)] := ⟨_, upd_same, .cons ⟨rfl, T, rfl, by rw [upd_ne hTD]; exact upd_same⟩ .nil⟩
    have s2 : Same H (upd (upd (upd H D (.dK [])) T (.tup [.int 0, .non, .non])) D (.dK (mergeK [] [(Sum.inl s, .ref T)]))) := Same.mut (Same.mut (same_new nD) nTH) nD
    generalize upd (upd (upd H D (.dK [])) T (.tup [.int 0, .non, .non])) D (.dK (mergeK [] [(Sum.inl s, .ref T)])) = H2 at hw0 s2
    -- reached
    refine ⟨.int s, rfl, by show 1 ≤ sizeLine; decide, fun R0 nR0 => ?_⟩
    refine ⟨fun k σ' H' => ∃ (y5 y6 y7 y8 : Option V) (R : Addr) (ws : List We) (L : Nat) (todo : List Int), σ' = [some (.int s), some (.ref U), some (.ref D), some (.ref R), some (.int (L : Nat)), y5, y6, y7, y8] ∧ WalkAt H' D ws ∧ H' R = some (.lst (todo.map V.int)) ∧ Same H H' ∧ BF N s ws L todo [] ∧ k = 2 * (n - ws.length) + (if todo.isEmpty = true then 0 else 1), ⟨_, none, none, none, none, R0, [(s, 0, none)], 0, [s], rfl, hw0.same (same_new nR0), upd_same, s2.trans (same_new nR0), BF.start N s, rfl⟩, ?_⟩
    clear hw0 s2 nR0 nT hTD nTH
    rintro k σ' H1 ⟨y5, y6, y7, y8, R, ws, L, todo, rfl, hw, hR, s3, bf, hk⟩
    refine ⟨.ref R, rfl, _, .inl ⟨_, SqL.of hR, rfl⟩, ?_⟩
    refine ite2 (fun hb => ?_) (fun hb => ?_)
    · have hne : todo.isEmpty = false := by
        cases todo with
        | nil => cases hb
        | cons a b => rfl
      rw [hne] at hk
      refine ⟨fun σ' H' => ∃ k', k' < k ∧ ∃ (y5 y6 y7 y8 : Option V) (R : Addr) (ws : List We) (L : Nat) (todo : List Int), σ' = [some (.int s), some (.ref U), some (.ref D), some (.ref R), some (.int (L : Nat)), y5, y6, y7, y8] ∧ WalkAt H' D ws ∧ H' R = some (.lst (todo.map V.int)) ∧ Same H H' ∧ BF N s ws L todo [] ∧ k' = 2 * (n - ws.length) + (if todo.isEmpty = true then 0 else 1), fun _ _ h => h, ?_⟩
      refine ⟨.int (L : Nat), rfl, L, 1, rfl, rfl, ?_⟩
      refine ⟨Nat.zero_le _, fun Fo nF => ?_⟩
      have hFD : Fo ≠ D := by
        obtain ⟨kvs, h1, _⟩ := hw
        exact (ne_of_none h1 nF).symm
      have hFR : Fo ≠ R := (ne_of_none hR nF).symm
      have nFH : H Fo = none := s3.free nF
      have few0 := bf.few ⟨s0, s1⟩ hN
      have hRs : (upd H1 Fo (.lst [])) R = some (.lst (todo.map V.int)) := same_new nF _ _ hR
      refine ⟨.ref R, rfl, R, rfl, ⟨_, SqL.of hRs⟩, ?_⟩
      refine for_list (xs := todo.map V.int) (fun i σ' H' => ∃ (y6 y7 y8 : Option V) (ws' : List We) (fol : List Int), σ' = [some (.int s), some (.ref U), some (.ref D), some (.ref R), some (.int ((L + 1 : Nat) : Int)), some (.ref Fo), y6, y7, y8] ∧ WalkAt H' D ws' ∧ H' R = some (.lst (todo.map V.int)) ∧ H' Fo = some (.lst (fol.map V.int)) ∧ Same H H' ∧ BF N s ws' L (todo.drop i) fol ∧ ws'.length = ws.length + fol.length) ⟨y6, y7, y8, ws, [], rfl, hw.same (same_new nF), hRs, upd_same, s3.trans (same_new nF), bf, rfl⟩ (fun i σ' H' _ h => by
        obtain ⟨_, _, _, _, _, _, _, h, _⟩ := h
        exact SqL.of h) ?_ ?_
      · clear hw hR s3 hRs nF
        rintro i x σ' H2 ex ⟨y6, y7, y8, ws', fol, rfl, hw, hR, hF, s3, bf', hl⟩
        rw [List.getElem?_map] at ex
        obtain ⟨p, hp, rfl⟩ := Option.map_eq_some_iff.mp ex
        have hi := (List.getElem?_eq_some_iff.mp hp).1
        have ed : todo.drop i = p :: todo.drop (i + 1) := by
          rw [List.drop_eq_getElem_cons hi]
          congr 1
          exact (List.getElem?_eq_some_iff.mp hp).2
        rw [ed] at bf'
        obtain ⟨f0, hf0⟩ := bf'.td p (by simp)
        have hU3 := hU.same s3
        refine ⟨.ref U, rfl, U, rfl, .inl ⟨_, .inl hU3.at'⟩, .int p, rfl, Nat.zero_le _, fun t nt => ⟨_, DGet.k (k := Sum.inl p) (same_new nt _ _ hU3.at'), ?_⟩⟩
        have sT := same_new (o := .tup []) nt
        -- what holds along the neighbours
        let Jv : Nat → L2.St → Hp → Prop := fun j σ' H' => ∃ (y7 y8 : Option V) (ws' : List We) (fol : List Int), σ' = [some (.int s), some (.ref U), some (.ref D), some (.ref R), some (.int ((L + 1 : Nat) : Int)), some (.ref Fo), some (.int p), y7, y8] ∧ WalkAt H' D ws' ∧ H' R = some (.lst (todo.map V.int)) ∧ H' Fo = some (.lst (fol.map V.int)) ∧ Same H H' ∧ Tk H2 H' ∧ BF N s ws' L (p :: todo.drop (i + 1)) fol ∧ (p, L, f0) ∈ ws' ∧ (∀ q ∈ (N p).take j, q.1 ∈ ws'.map (·.1)) ∧ ws'.length = ws.length + fol.length
        have J0 : Jv 0 [some (.int s), some (.ref U), some (.ref D), some (.ref R), some (.int ((L + 1 : Nat) : Int)), some (.ref Fo), some (.int p), y7, y8] (upd H2 t (.tup [])) := ⟨y7, y8, ws', fol, rfl, hw.same sT, sT _ _ hR, sT _ _ hF, s3.trans sT, Same.tk sT, bf', hf0, fun q hq => by simp at hq, hl⟩
        have Jend : ∀ σ' H', Jv (N p).length σ' H' → ∃ (y6 y7 y8 : Option V) (ws' : List We) (fol : List Int), σ' = [some (.int s), some (.ref U), some (.ref D), some (.ref R), some (.int ((L + 1 : Nat) : Int)), some (.ref Fo), y6, y7, y8] ∧ WalkAt H' D ws' ∧ H' R = some (.lst (todo.map V.int)) ∧ H' Fo = some (.lst (fol.map V.int)) ∧ Same H H' ∧ BF N s ws' L (todo.drop (i + 1)) fol ∧ ws'.length = ws.length + fol.length := by
          rintro σ' H' ⟨y7, y8, ws', fol, rfl, h1, h2, h3, h4, _, h5, h6, h7, h8⟩
          rw [List.take_length] at h7
          refine ⟨_, _, _, ws', fol, rfl, h1, h2, h3, h4, h5.done h6 fun q hq => ?_, h8⟩
          obtain ⟨kk, ff, he⟩ := we_key (h7 q hq)
          exact ⟨kk, ff, he, h5.lv _ he⟩
        rcases aKv_cases As p hU.nd with ⟨hno, e⟩ | ⟨a, ha, e⟩
        · rw [e]
          have eN : N p = [] := hU.no p hno
          refine ⟨t, rfl, .inr ⟨⟨_, SqT.of upd_same⟩, ?_⟩⟩
          refine for_tup (xs := []) (fun j σ' H' => Jv j σ' H' ∧ H' t = some (.tup [])) ⟨J0, upd_same⟩ (fun j σ' H' _ h => SqT.of h.2) (fun j x σ' H' ex => by simp at ex) (fun σ' H' h => Jend σ' H' (by rw [eN]; exact h.1))
        · rw [e]
          obtain ⟨us, hus, hpu⟩ := hU.each _ ha
          refine ⟨a, rfl, .inl ⟨⟨_, SqL.of (sT _ _ (s3 _ _ hus))⟩, ?_⟩⟩
          have lu : us.length = (N p).length := Paired.length hpu
          refine for_list (xs := us) Jv J0 (fun j σ' H' _ h => by
            obtain ⟨_, _, _, _, _, _, _, _, h, _⟩ := h
            exact SqL.of (h _ _ hus)) ?_ (by rw [lu]; exact Jend)
          clear J0 Jend hw hR hF s3 bf' hl hf0 sT nt hU3
          rintro j x σ' H3 ex ⟨y7, y8, ws', fol, rfl, hw, hR, hF, s3, tk, bf', hf, hdn, hl⟩
          obtain ⟨⟨y, m⟩, eq, c, rfl, hc⟩ := Paired.at hpu ex
          have hm : (y, m) ∈ N p := List.mem_of_getElem? eq
          have few := bf'.few ⟨s0, s1⟩ hN
          have etk : (N p).take (j + 1) = (N p).take j ++ [(y, m)] := by
            rw [List.take_add_one, eq]
            rfl
          obtain ⟨kvs, hD, hkv⟩ := id hw
          have lkv : kvs.length = ws'.length := Paired.length hkv
          refine ⟨c, _, rfl, SqT.of (s3 _ _ hc), rfl, _, _, rfl, _, _, rfl, rfl, ?_⟩
          refine ⟨.int y, rfl, .ref D, rfl, D, _, rfl, DGet.k (k := Sum.inl y) hD, _, rfl, ?_⟩
          by_cases hy : y ∈ ws'.map (·.1)
          · obtain ⟨ky, fy, hey⟩ := we_key hy
            obtain ⟨ay, ev, _⟩ := wes_some hkv bf'.nd hey
            rw [ev]
            refine ⟨_, _, ws', fol, rfl, hw, hR, hF, s3, tk, bf', hf, fun q hq => ?_, hl⟩
            rw [etk] at hq
            rcases List.mem_append.mp hq with z | z
            · exact hdn q z
            · rw [List.mem_singleton.mp z]
              exact hy
          · have ev := wes_none hkv hy
            rw [ev]
            refine ⟨.int ((L + 1 : Nat) : Int), rfl, .int p, rfl, .int m, rfl, by show 3 ≤ sizeLine; decide, fun Z nZ => ?_⟩
            have sZ := same_new (o := .tup [.int ((L + 1 : Nat) : Int), .int p, .int m]) nZ
            have hZD : Z ≠ D := (ne_of_none hD nZ).symm
            refine ⟨.ref D, rfl, .int y, rfl, D, _, rfl, DPut.k (k := Sum.inl y) (sZ _ _ hD) (small1000 (by omega)), ?_⟩
            rw [putK_new ev]
            have tkD : Tk H3 (upd (upd H3 Z (.tup [.int ((L + 1 : Nat) : Int), .int p, .int m])) D (.dK (kvs ++ [(Sum.inl y, .ref Z)]))) := fun b xs e => by
              rw [upd_ne (ne_of e hD (by intro z; cases z))]
              exact sZ _ _ e
            have hF4 : (upd (upd H3 Z (.tup [.int ((L + 1 : Nat) : Int), .int p, .int m])) D (.dK (kvs ++ [(Sum.inl y, .ref Z)]))) Fo = some (.lst (fol.map V.int)) := by rw [upd_ne hFD]; exact sZ _ _ hF
            have lf := bf'.fl
            have bfp := bf'.push hf hm hy
            have few2 := bfp.few ⟨s0, s1⟩ hN
            refine ⟨.ref Fo, rfl, .inl ⟨rfl, _, SqL.of hF4⟩, .int y, rfl, Fo, _, _, rfl, rfl, hF4, by rw [List.length_map]; exact small1000 (by omega), ?_⟩
            have tkF := tk_lst (ys := fol.map V.int ++ [.int y]) hF4
            refine ⟨_, _, ws' ++ [(y, L + 1, some (p, m))], fol ++ [y], rfl, ⟨kvs ++ [(Sum.inl y, .ref Z)], ?_, Paired.snoc (wes_tk (tkD.trans tkF) hkv) ⟨rfl, Z, rfl, tkF _ _ (by rw [upd_ne hZD]; exact upd_same)⟩⟩, ?_, by rw [upd_same, List.map_append]; rfl, Same.mut (Same.mut (s3.trans sZ) nD) nFH, tk.trans (tkD.trans tkF), bfp, List.mem_append_left _ hf, fun q hq => ?_, ?_⟩
            · rw [upd_ne (Ne.symm hFD)]
              exact upd_same
            · have hRD : R ≠ D := ne_of hR hD (by intro z; cases z)
              rw [upd_ne (Ne.symm hFR), upd_ne hRD]
              exact sZ _ _ hR
            · rw [List.map_append]
              rw [etk] at hq
              rcases List.mem_append.mp hq with z | z
              · exact List.mem_append_left _ (hdn q z)
              · rw [List.mem_singleton.mp z]
                exact List.mem_append_right _ (by simp)
            · rw [List.length_append, List.length_append, hl]
              rfl
      · clear hw hR s3 hRs nF
        rintro σ' H2 ⟨y6, y7, y8, ws', fol, rfl, hw, hR, hF, s3, bf', hl⟩
        rw [List.length_map, List.drop_length] at bf'
        have few := bf'.few ⟨s0, s1⟩ hN
        refine ⟨.ref Fo, rfl, _, ?_, _, _, _, _, Fo, ws', L + 1, fol, rfl, hw, hF, s3, bf'.next, rfl⟩
        cases fol with
        | nil =>
          rw [hk, hl]
          simp
        | cons a b =>
          rw [List.length_cons] at hl
          rw [hk]
          simp
          omega
    · have he : todo = [] := by
        cases todo with
        | nil => rfl
        | cons a b => exact absurd rfl hb
      subst he
      exact ⟨.ref D, rfl, q D ws H1 s3 hw bf.stop (bf.few ⟨s0, s1⟩ hN)⟩
end
/-! ### the way back -/
inductive Way (N : Int → List Nu) (e : Int) : Int → List Int → List Int → Prop
  | one : Way N e e [e] []
  | cons {c p m : Int} {qs ns : List Int} : Way N e c qs ns → (c, m) ∈ N p → p ∉ qs → Way N e p (p :: qs) (m :: ns)
theorem Way.len {N : Int → List Nu} {e c : Int} {qs ns : List Int} (h : Way N e c qs ns) : qs.length = ns.length + 1 := by
  induction h with
  | one => rfl
  | cons _ _ _ ih => rw [List.length_cons, List.length_cons, ih]
theorem Way.nodup {N : Int → List Nu} {e c : Int} {qs ns : List Int} (h : Way N e c qs ns) : qs.Nodup := by
  induction h with
  | one => simp
  | cons _ _ hp ih => exact List.nodup_cons.mpr ⟨hp, ih⟩
def spWayTo : Sp := fun vs H Q _ => ∃ (e s : Int) (D : Addr) (ws : List We) (N : Int → List Nu) (k : Nat) (f : Option (Int × Int)), vs = [.int e, .ref D] ∧ WalkAt H D ws ∧ WF N s ws ∧ (e, k, f) ∈ ws ∧ k ≤ 200 ∧ ∀ r a b qs ns H', Same H H' → H' r = some (.tup [.ref a, .ref b]) → H' a = some (.tup (qs.map V.int)) → H' b = some (.tup (ns.map V.int)) → Way N e s qs ns → ns.length = k → Q (.ref r) H'
section
variable {P : Program} {w : World} {K : PySem.W.Frag} {mg : Str → Option Value} {base : Heap}
theorem ok_way_to {f : Addr} {fd : FuncData} (F : Fun K "way_to" "way_to" s_way_to f fd) (M : Free mg) : FnOk P w K mg base CX0 1 f fd ["end", "walk"] spWayTo := by
  refine F.ok sc_way_to (fun vs H Q E h => ?_) (fun cdv A outer sh H vs Q E hr h => ?_)
  · obtain ⟨e, s, D, ws, N, k, f, rfl, _⟩ := h
    rfl
  · obtain ⟨e, s, D, ws, N, k, f, rfl, hw, wf, he, k2, q⟩ := h
    have hu := room1 hr
    refine ⟨_, (pss_cons (ps_set (i := 2) sc_way_to.nd rfl (.inl rfl) (pe_lst (pa_cons (pv 0) pa_nil)))
      (pss_cons (ps_set (i := 3) sc_way_to.nd rfl (.inl rfl) (pe_lst pa_nil))
      (pss_cons (ps_asg (pe_dget hu (pv 1) (pv 0) (fun _ _ => rfl)) (pg_tup rfl (pgs_cons (pg_name (i := 4) sc_way_to.nd rfl (.inl rfl)) (pgs_cons (pg_name (i := 5) sc_way_to.nd rfl (.inl rfl)) (pgs_cons (pg_name (i := 6) sc_way_to.nd rfl (.inl rfl)) pgs_nil)))))
      (pss_cons (ps_while PassesOwn.never (pt_cmpR op_notN (pv 5) pe_non (nomark _))
        (pss_cons (ps_expr (pe_bm PySem.F.plainAttrs_list PySem.F.slot_list_append PySem.F.type_list_append mt_append (pv 2) (pa_cons (pv 5) pa_nil)))
        (pss_cons (ps_expr (pe_bm PySem.F.plainAttrs_list PySem.F.slot_list_append PySem.F.type_list_append mt_append (pv 3) (pa_cons (pv 6) pa_nil)))
        (pss_one (ps_asg (pe_dget hu (pv 1) (pv 5) (fun _ _ => rfl)) (pg_tup rfl (pgs_cons (pg_name (i := 4) sc_way_to.nd rfl (.inl rfl)) (pgs_cons (pg_name (i := 5) sc_way_to.nd rfl (.inl rfl)) (pgs_cons (pg_name (i := 6) sc_way_to.nd rfl (.inl rfl)) pgs_nil)))))))))
      (pss_one (ps_ret (pe_tup (pa_cons (pe_callTy call_tuple_of (by rfl) M.tuple (by decide +kernel) (pa_cons (pe_revL (pv 2)) pa_nil)) (pa_cons (pe_callTy call_tuple_of (by rfl) M.tuple (by decide +kernel) (pa_cons (pe_revL (pv 3)) pa_nil)) pa_nil))))))))), ?_⟩
    refine ⟨.int e, rfl, by show 1 ≤ sizeLine; decide, fun A1 n1 => ⟨Nat.zero_le _, fun B n2 => ?_⟩⟩
    have s2 := (same_new (o := .lst [.int e]) n1).trans (same_new (o := .lst []) n2)
    have hAB : A1 ≠ B := ne_of_none upd_same n2
    have hA2 : (upd (upd H A1 (.lst [.int e])) B (.lst [])) A1 = some (.lst [.int e]) := by rw [upd_ne hAB]; exact upd_same
    have hB2 : (upd (upd H A1 (.lst [.int e])) B (.lst [])) B = some (.lst []) := upd_same
    have nBH : H B = none := (same_new n1).free n2
    generalize upd (upd H A1 (.lst [.int e])) B (.lst []) = H2 at s2 hA2 hB2
    -- an entry, read
    have get : ∀ (H' : Hp) (x : Int) (j : Nat) (g : Option (Int × Int)), Same H H' → (x, j, g) ∈ ws → ∃ a, DGet H' D (.int x) (some (.ref a)) ∧ H' a = some (.tup (weL (x, j, g))) := fun H' x j g s3 hx => by
      obtain ⟨kvs, h1, h2⟩ := hw.same s3
      obtain ⟨a, e1, e2⟩ := wes_some h2 wf.nd hx
      exact ⟨a, by rw [← e1]; exact DGet.k (k := Sum.inl x) h1, e2⟩
    let aV : Option (Int × Int) → V := fun g => match g with | none => .non | some z => .int z.1
    let nV : Option (Int × Int) → V := fun g => match g with | none => .non | some z => .int z.2
    have wl : ∀ (x : Int) (j : Nat) (g : Option (Int × Int)), weL (x, j, g) = [.int (j : Nat), aV g, nV g] := fun x j g => by cases g <;> rfl
    obtain ⟨a0, g0, h0⟩ := get H2 e k f s2 he
    rw [wl] at h0
    refine ⟨.ref D, rfl, .int e, rfl, D, _, rfl, g0, a0, _, rfl, SqT.of h0, rfl, _, _, rfl, _, _, rfl, _, _, rfl, rfl, ?_⟩
    refine ⟨fun j σ' H' => ∃ (c : Int) (g : Option (Int × Int)) (qs ns : List Int), σ' = [some (.int e), some (.ref D), some (.ref A1), some (.ref B), some (.int (j : Nat)), some (aV g), some (nV g)] ∧ (c, j, g) ∈ ws ∧ H' A1 = some (.lst (qs.reverse.map V.int)) ∧ H' B = some (.lst (ns.reverse.map V.int)) ∧ Same H H' ∧ Way N e c qs ns ∧ ns.length + j = k ∧ ∀ x ∈ qs, ∃ i g, (x, i, g) ∈ ws ∧ j ≤ i, ⟨k, e, f, [e], [], rfl, he, hA2, hB2, s2, .one, by simp, fun x hx => ⟨k, f, by rw [List.mem_singleton.mp hx]; exact he, Nat.le_refl _⟩⟩, ?_⟩
    clear hA2 hB2 s2 n2 h0 g0
    rintro j σ' H1 ⟨c, g, qs, ns, rfl, hc, hA, hB, s3, way, hl, lev⟩
    have lq := way.len
    refine ⟨aV g, rfl, rfl, _, rfl, ?_⟩
    cases g with
    | some z =>
      obtain ⟨p, m⟩ := z
      obtain ⟨i, g', hp, hj, hm⟩ := wf.par _ _ _ _ hc
      refine ⟨fun σ' H' => ∃ j', j' < j ∧ ∃ (c : Int) (g : Option (Int × Int)) (qs ns : List Int), σ' = [some (.int e), some (.ref D), some (.ref A1), some (.ref B), some (.int (j' : Nat)), some (aV g), some (nV g)] ∧ (c, j', g) ∈ ws ∧ H' A1 = some (.lst (qs.reverse.map V.int)) ∧ H' B = some (.lst (ns.reverse.map V.int)) ∧ Same H H' ∧ Way N e c qs ns ∧ ns.length + j' = k ∧ ∀ x ∈ qs, ∃ i g, (x, i, g) ∈ ws ∧ j' ≤ i, fun _ _ h => h, ?_⟩
      refine ⟨.ref A1, rfl, .inl ⟨rfl, _, SqL.of hA⟩, .int p, rfl, A1, _, _, rfl, rfl, hA, by rw [List.length_map, List.length_reverse]; exact small1000 (by omega), ?_⟩
      have hB2 : (upd H1 A1 (.lst (qs.reverse.map V.int ++ [.int p]))) B = some (.lst (ns.reverse.map V.int)) := by rw [upd_ne (Ne.symm hAB)]; exact hB
      refine ⟨.ref B, rfl, .inl ⟨rfl, _, SqL.of hB2⟩, .int m, rfl, B, _, _, rfl, rfl, hB2, by rw [List.length_map, List.length_reverse]; exact small1000 (by omega), ?_⟩
      have s4 : Same H (upd (upd H1 A1 (.lst (qs.reverse.map V.int ++ [.int p]))) B (.lst (ns.reverse.map V.int ++ [.int m]))) := Same.mut (Same.mut s3 n1) nBH
      obtain ⟨a1, g1, h1⟩ := get _ p i g' s4 hp
      rw [wl] at h1
      refine ⟨.ref D, rfl, .int p, rfl, D, _, rfl, g1, a1, _, rfl, SqT.of h1, rfl, _, _, rfl, _, _, rfl, _, _, rfl, rfl, ?_⟩
      refine ⟨i, by omega, p, g', p :: qs, m :: ns, rfl, hp, ?_, ?_, s4, .cons way hm (fun hin => ?_), by rw [List.length_cons]; omega, fun x hx => ?_⟩
      · rw [upd_ne hAB, upd_same, List.reverse_cons, List.map_append]
        rfl
      · rw [upd_same, List.reverse_cons, List.map_append]
        rfl
      · obtain ⟨i', g'', hx, hle⟩ := lev p hin
        have := (we_one wf.nd hp hx).1
        omega
      · rcases List.mem_cons.mp hx with z | z
        · exact ⟨i, g', by rw [z]; exact hp, Nat.le_refl _⟩
        · obtain ⟨i', g'', h2, h3⟩ := lev x z
          exact ⟨i', g'', h2, by omega⟩
    | none =>
      obtain ⟨rfl, rfl⟩ := wf.non _ _ hc
      refine ⟨.ref A1, rfl, A1, _, rfl, SqL.of hA, fun p1 m1 => ⟨p1, _, rfl, .inl ⟨SqL.of upd_same, fun r1 m2 => ?_⟩⟩⟩
      have e1 := (same_new (o := .lst (qs.reverse.map V.int).reverse) m1)
      have e2 := (same_new (o := .tup (qs.reverse.map V.int).reverse) m2)
      have hB2 := e2 _ _ (e1 _ _ hB)
      refine ⟨.ref B, rfl, B, _, rfl, SqL.of hB2, fun p3 m3 => ⟨p3, _, rfl, .inl ⟨SqL.of upd_same, fun r2 m4 => ⟨by show 2 ≤ sizeLine; decide, fun r m5 => ?_⟩⟩⟩⟩
      have e3 := (same_new (o := .lst (ns.reverse.map V.int).reverse) m3)
      have e4 := (same_new (o := .tup (ns.reverse.map V.int).reverse) m4)
      have e5 := (same_new (o := .tup [.ref r1, .ref r2]) m5)
      have rr : ∀ xs : List Int, (xs.reverse.map V.int).reverse = xs.map V.int := fun xs => by rw [List.map_reverse, List.reverse_reverse]
      refine q r r1 r2 qs ns _ ((((s3.trans e1).trans e2).trans e3).trans e4 |>.trans e5) upd_same ?_ ?_ way hl
      · rw [e5 _ _ (e4 _ _ (e3 _ _ upd_same)), rr]
      · rw [e5 _ _ upd_same, rr]
end
/-! ### a stand: what is kept, by flags (mathematics) -/
def kt : List Tie → List Bool → List Tie
  | t :: ts, b :: fl => if b = true then t :: kt ts fl else kt ts fl
  | _, _ => []
theorem kt_snoc {t : Tie} {b : Bool} : ∀ {ts : List Tie} {fl : List Bool}, ts.length = fl.length → kt (ts ++ [t]) (fl ++ [b]) = kt ts fl ++ (if b = true then [t] else [])
  | [], [], _ => by cases b <;> rfl
  | x :: ts, c :: fl, h => by
    have ih := kt_snoc (t := t) (b := b) (ts := ts) (fl := fl) (by simpa using h)
    show (if c = true then x :: kt (ts ++ [t]) (fl ++ [b]) else kt (ts ++ [t]) (fl ++ [b])) = (if c = true then x :: kt ts fl else kt ts fl) ++ _
    cases c
    · rw [if_neg (by simp), if_neg (by simp), ih]
    · rw [if_pos rfl, if_pos rfl, ih]
      rfl
theorem mem_kt {t : Tie} : ∀ {ts : List Tie} {fl : List Bool}, t ∈ kt ts fl ↔ ∃ i : Nat, ts[i]? = some t ∧ fl[i]? = some true
  | [], fl => by simp [kt]
  | _ :: _, [] => by simp [kt]
  | x :: ts, c :: fl => by
    have ih := mem_kt (t := t) (ts := ts) (fl := fl)
    show t ∈ (if c = true then x :: kt ts fl else kt ts fl) ↔ _
    constructor
    · intro h
      cases c
      · rw [if_neg (by simp)] at h
        obtain ⟨i, h1, h2⟩ := ih.mp h
        exact ⟨i + 1, by simpa using h1, by simpa using h2⟩
      · rw [if_pos rfl] at h
        rcases List.mem_cons.mp h with e | e
        · exact ⟨0, by simp [e], by simp⟩
        · obtain ⟨i, h1, h2⟩ := ih.mp e
          exact ⟨i + 1, by simpa using h1, by simpa using h2⟩
    · rintro ⟨i, h1, h2⟩
      cases i with
      | zero =>
        simp at h1 h2
        subst h1
        subst h2
        rw [if_pos rfl]
        simp
      | succ i =>
        have := ih.mpr ⟨i, by simpa using h1, by simpa using h2⟩
        cases c
        · rw [if_neg (by simp)]
          exact this
        · rw [if_pos rfl]
          exact List.mem_cons_of_mem _ this
theorem kt_sub {t : Tie} {ts : List Tie} {fl : List Bool} (h : t ∈ kt ts fl) : t ∈ ts := by
  obtain ⟨i, h1, _⟩ := mem_kt.mp h
  exact List.mem_of_getElem? h1
def knT (fl : List Bool) (v : Bool) : List Int := (rng fl.length).filter fun i => fl.getD i.toNat false == v
theorem knT_snoc (fl : List Bool) (b v : Bool) : knT (fl ++ [b]) v = knT fl v ++ (if b = v then [(fl.length : Int)] else []) := by
  unfold knT
  rw [List.length_append]
  show (rng (fl.length + 1)).filter _ = _
  rw [rng_succ, List.filter_append]
  congr 1
  · refine List.filter_congr fun i hi => ?_
    have := mem_rng.mp hi
    rw [List.getD_eq_getElem?_getD, List.getD_eq_getElem?_getD, List.getElem?_append_left (by omega)]
  · have e : (fl ++ [b]).getD (fl.length : Int).toNat false = b := by
      rw [List.getD_eq_getElem?_getD, Int.toNat_natCast, List.getElem?_append_right (Nat.le_refl _)]
      simp
    by_cases h : b = v
    · rw [if_pos h, List.filter_cons_of_pos (by rw [e, h]; simp)]
      rfl
    · rw [if_neg h, List.filter_cons_of_neg (by rw [e]; simpa using h)]
      rfl
theorem mem_knT {fl : List Bool} {v : Bool} {i : Int} : i ∈ knT fl v ↔ (0 ≤ i ∧ i < fl.length) ∧ fl[i.toNat]? = some v := by
  unfold knT
  rw [List.mem_filter, mem_rng]
  constructor
  · rintro ⟨h, e⟩
    refine ⟨h, ?_⟩
    have hl : i.toNat < fl.length := by omega
    rw [List.getD_eq_getElem?_getD, List.getElem?_eq_getElem hl] at e
    rw [List.getElem?_eq_getElem hl]
    have e : (fl[i.toNat] == v) = true := e
    rw [beq_iff_eq] at e
    rw [e]
  · rintro ⟨h, e⟩
    refine ⟨h, ?_⟩
    rw [List.getD_eq_getElem?_getD, e]
    simp
theorem knT_len (fl : List Bool) (v : Bool) : (knT fl v).length ≤ fl.length := by
  have := List.length_filter_le (fun i : Int => fl.getD i.toNat false == v) (rng fl.length)
  rw [rng_length] at this
  exact this
theorem adj_kt {ts : List Tie} {fl : List Bool} (hl : ts.length = fl.length) {x y : Int} {k : Bool} : Adj (kt ts fl) x y k ↔ ∃ m ∈ knT fl true, Jn (tieN ts m.toNat) x y ∧ (tieN ts m.toNat).foe = k := by
  unfold Adj Jn
  constructor
  · rintro ⟨t, ht, e, q⟩
    obtain ⟨i, h1, h2⟩ := mem_kt.mp ht
    have hi : i < fl.length := (List.getElem?_eq_some_iff.mp h2).1
    refine ⟨(i : Int), mem_knT.mpr ⟨by omega, by rw [Int.toNat_natCast]; exact h2⟩, ?_⟩
    rw [Int.toNat_natCast, tieN_of h1]
    exact ⟨q, e⟩
  · rintro ⟨m, hm, q, e⟩
    obtain ⟨⟨m0, m1⟩, h2⟩ := mem_knT.mp hm
    have hi : m.toNat < ts.length := by omega
    have h1 : ts[m.toNat]? = some (tieN ts m.toNat) := by
      unfold tieN
      rw [List.getD_eq_getElem?_getD, List.getElem?_eq_getElem hi]
      rfl
    exact ⟨tieN ts m.toNat, mem_kt.mpr ⟨_, h1, h2⟩, e, q⟩
def fpar (ts : List Tie) : List Int → Bool
  | [] => false
  | m :: ns => (tieN ts m.toNat).foe ^^ fpar ts ns
theorem way_rp {ts : List Tie} {fl : List Bool} (hl : ts.length = fl.length) {e s : Int} {qs ns : List Int} (h : Way (nN ts (knT fl true)) e s qs ns) : RP (kt ts fl) s e (fpar ts ns) := by
  induction h with
  | one => exact .nil
  | cons w hm _ ih =>
    obtain ⟨h1, h2⟩ := mem_nN.mp hm
    exact (RP.one ((adj_kt hl).mpr ⟨_, h1, h2, rfl⟩)).trans ih
def cntF (ts : List Tie) (ns : List Int) : Nat := (ns.filter fun m => (tieN ts m.toNat).foe).length
theorem cntF_par (ts : List Tie) : ∀ ns : List Int, decide (((cntF ts ns : Nat) : Int) % 2 = 1) = fpar ts ns
  | [] => rfl
  | m :: ns => by
    have ih := cntF_par ts ns
    show _ = ((tieN ts m.toNat).foe ^^ fpar ts ns)
    rw [← ih]
    unfold cntF
    cases h : (tieN ts m.toNat).foe
    · rw [List.filter_cons_of_neg (by simp [h])]
      simp
    · rw [List.filter_cons_of_pos (by simp [h]), List.length_cons]
      rw [show ((((ns.filter fun m => (tieN ts m.toNat).foe).length + 1 : Nat) : Int)) = (((ns.filter fun m => (tieN ts m.toNat).foe).length : Nat) : Int) + 1 from by omega]
      generalize (((ns.filter fun m => (tieN ts m.toNat).foe).length : Nat) : Int) = z
      rw [Bool.eq_iff_iff]
      simp only [decide_eq_true_eq, Bool.true_xor, Bool.not_eq_true', decide_eq_false_iff_not]
      omega
theorem fpar_snoc (ts : List Tie) (ns : List Int) (m : Int) : fpar ts (ns ++ [m]) = (fpar ts ns ^^ (tieN ts m.toNat).foe) := by
  induction ns with
  | nil =>
    show ((tieN ts m.toNat).foe ^^ false) = (false ^^ (tieN ts m.toNat).foe)
    cases (tieN ts m.toNat).foe <;> rfl
  | cons x ns ih =>
    show ((tieN ts x.toNat).foe ^^ fpar ts (ns ++ [m])) = (((tieN ts x.toNat).foe ^^ fpar ts ns) ^^ _)
    rw [ih, Bool.xor_assoc]
def Kps (kts : List Tie) (t : Tie) : Prop := ¬ Rch kts t.one t.other ∨ RP kts t.one t.other t.foe
theorem xor3 (a b c : Bool) : (a ^^ c) = ((a ^^ b) ^^ (b ^^ c)) := by cases a <;> cases b <;> cases c <;> rfl
theorem xor3' (a b c : Bool) : (a ^^ c) = ((a ^^ b) ^^ (c ^^ b)) := by cases a <;> cases b <;> cases c <;> rfl
/-- sides that hold -/
theorem GS.walk {ts : List Tie} {n : Nat} {g s : Int → Int} (h : GS ts n g s true) {x y : Int} {p : Bool} (r : RP ts x y p) : (bit (s x) ^^ bit (s y)) = p := by
  induction r with
  | nil => exact Bool.xor_self _
  | step r ad ih =>
    obtain ⟨t, ht, e, q⟩ := ad
    have hy := h.yes rfl t ht
    rw [← e, ← hy]
    rcases q with ⟨q1, q2⟩ | ⟨q1, q2⟩
    · rw [q1, q2, ← ih]
      exact xor3 _ _ _
    · rw [q1, q2, ← ih]
      exact xor3' _ _ _
theorem GS.calm {ts : List Tie} {n : Nat} {g s : Int → Int} (h : GS ts n g s true) : ¬ Odd ts n := by
  rintro ⟨x, _, r⟩
  have := h.walk r
  rw [Bool.xor_self] at this
  cases this
theorem rp_one {ts : List Tie} {n : Nat} (h : ¬ Odd ts n) {x y : Int} (hx : 0 ≤ x ∧ x < n) {p q : Bool} (r : RP ts x y p) (r' : RP ts x y q) : p = q := by
  by_cases e : p = q
  · exact e
  · refine absurd ⟨x, hx, ?_⟩ h
    have := r.trans r'.symm
    rw [show (p ^^ q) = true from by cases p <;> cases q <;> simp_all] at this
    exact this
theorem GS.keeps {ts : List Tie} {n : Nat} {g s : Int → Int} (h : GS ts n g s true) {t : Tie} (ok : TieOk n t) : Kps ts t ↔ (g t.one ≠ g t.other ∨ (bit (s t.one) ^^ bit (s t.other)) = t.foe) := by
  have back : g t.one = g t.other → Rch ts t.one t.other := fun e => by
    have r1 : Rch ts (g t.one) t.one := ⟨_, h.rp t.one ok.1 ok.2.1⟩
    have r2 : Rch ts (g t.other) t.other := ⟨_, h.rp t.other ok.2.2.1 ok.2.2.2.1⟩
    rw [← e] at r2
    exact r1.symm.trans r2
  constructor
  · rintro (h1 | h1)
    · exact .inl fun e => h1 (back e)
    · exact .inr (h.walk h1)
  · rintro (h1 | h1)
    · exact .inl fun r => h1 (h.same r)
    · by_cases r : Rch ts t.one t.other
      · obtain ⟨p, rp⟩ := r
        have := h.walk rp
        rw [h1] at this
        rw [← this] at rp
        exact .inr rp
      · exact .inl r
theorem Odd.mono {ts us : List Tie} {n : Nat} (h : ∀ t ∈ ts, t ∈ us) (o : Odd ts n) : Odd us n := by
  obtain ⟨x, hx, r⟩ := o
  exact ⟨x, hx, r.mono h⟩
theorem dec_int' (a b : Int) : decide (V.int a = V.int b) = decide (a = b) := by
  by_cases h : a = b
  · rw [decide_eq_true h, h, decide_eq_true rfl]
  · rw [decide_eq_false h, decide_eq_false (fun z => h (V.int.inj z))]
/-! ### the stand, as it lies in the heap -/
theorem ps_never {X : Cx} {st : Stmt} : PS X st (fun _ _ _ => False) := ⟨fun _ _ _ _ _ _ h => h.elim⟩
theorem WF.lev {N : Int → List Nu} {s : Int} {ws : List We} (h : WF N s ws) : ∀ (k : Nat) (y : Int) (f : Option (Int × Int)), (y, k, f) ∈ ws → ∃ l : List Int, l.length = k + 1 ∧ l.Nodup ∧ ∀ x ∈ l, ∃ j g, (x, j, g) ∈ ws ∧ j ≤ k
  | 0, y, f, hy => ⟨[y], rfl, by simp, fun x hx => ⟨0, f, by rw [List.mem_singleton.mp hx]; exact hy, Nat.le_refl _⟩⟩
  | k + 1, y, none, hy => by
    have := (h.non _ _ hy).2
    omega
  | k + 1, y, some (p, m), hy => by
    obtain ⟨j, g, hp, e, _⟩ := h.par _ _ _ _ hy
    have : j = k := by omega
    subst this
    obtain ⟨l, l1, l2, l3⟩ := WF.lev h j p g hp
    refine ⟨y :: l, by rw [List.length_cons, l1], List.nodup_cons.mpr ⟨fun hin => ?_, l2⟩, fun x hx => ?_⟩
    · obtain ⟨i, g', h1, h2⟩ := l3 y hin
      have := (we_one h.nd hy h1).1
      omega
    · rcases List.mem_cons.mp hx with z | z
      · exact ⟨j + 1, _, by rw [z]; exact hy, Nat.le_refl _⟩
      · obtain ⟨i, g', h1, h2⟩ := l3 x z
        exact ⟨i, g', h1, by omega⟩
theorem WF.low {N : Int → List Nu} {s : Int} {ws : List We} (h : WF N s ws) {k : Nat} {y : Int} {f : Option (Int × Int)} (hy : (y, k, f) ∈ ws) : k < ws.length := by
  obtain ⟨l, l1, l2, l3⟩ := h.lev k y f hy
  have := sub_len (ns := ws.map (·.1)) l2 fun x hx => by
    obtain ⟨j, g, h1, _⟩ := l3 x hx
    exact List.mem_map.mpr ⟨_, h1, rfl⟩
  rw [List.length_map] at this
  omega
theorem WF.reach {ts : List Tie} {fl : List Bool} (hl : ts.length = fl.length) {s : Int} {ws : List We} (h : WF (nN ts (knT fl true)) s ws) (y : Int) : y ∈ ws.map (·.1) ↔ Rch (kt ts fl) s y := by
  constructor
  · intro hy
    obtain ⟨k, f, he⟩ := we_key hy
    induction k generalizing y f with
    | zero =>
      cases f with
      | none =>
        rw [(h.non _ _ he).1]
        exact Rch.refl
      | some pm =>
        obtain ⟨j, g, _, e, _⟩ := h.par y 0 pm.1 pm.2 he
        omega
    | succ k ih =>
      cases f with
      | none =>
        have := (h.non _ _ he).2
        omega
      | some pm =>
        obtain ⟨j, g, hp, e, hm⟩ := h.par y (k + 1) pm.1 pm.2 he
        have : j = k := by omega
        subst this
        have r := ih pm.1 (List.mem_map.mpr ⟨_, hp, rfl⟩) g hp
        obtain ⟨h1, h2⟩ := mem_nN.mp hm
        exact r.trans (Rch.adj ((adj_kt hl).mpr ⟨_, h1, h2, rfl⟩))
  · intro r
    refine r.ind (fun x => x ∈ ws.map (·.1)) (List.mem_map.mpr ⟨_, h.root, rfl⟩) fun x y k hx ad => ?_
    obtain ⟨k', f, he⟩ := we_key hx
    obtain ⟨m, hm, hj, _⟩ := (adj_kt hl).mp ad
    obtain ⟨kk, ff, h1, _⟩ := h.cl _ he (y, m) (mem_nN.mpr ⟨hm, hj⟩)
    exact List.mem_map.mpr ⟨_, h1, rfl⟩
theorem Paired.unsnoc {α β : Type} {F : α → β → Prop} {b : β} : ∀ {m : List β} {l : List α}, Paired F l (m ++ [b]) → ∃ l' a, l = l' ++ [a] ∧ Paired F l' m ∧ F a b
  | [], _, .cons r .nil => ⟨[], _, rfl, .nil, r⟩
  | y :: m, _, .cons r t => by
    obtain ⟨l', a, e, h1, h2⟩ := Paired.unsnoc t
    exact ⟨_ :: l', a, by rw [e]; rfl, .cons r h1, h2⟩
theorem Way.num {ts : List Tie} {kn : List Int} {e s : Int} {qs ns : List Int} (h : Way (nN ts kn) e s qs ns) : ∀ m ∈ ns, m ∈ kn := by
  induction h with
  | one =>
    intro m hm
    cases hm
  | cons _ hm _ ih =>
    intro m hmm
    rcases List.mem_cons.mp hmm with z | z
    · rw [z]
      exact (mem_nN.mp hm).1
    · exact ih m z
def DfM (P : Program) (w : World) (K : PySem.W.Frag) (mg : Str → Option Value) (base : Heap) (k : Nat) (C : Addr) (m : Str) (ps : List Str) (sp : Sp) : Prop := ∃ (f : Addr) (fd : FuncData), FnOk P w K mg base CX0 k f fd ps sp ∧ Meth K C m f ∧ Binds K fd ps []
theorem sm1 : ¬ (("many" : Str) = "ties") := by decide +kernel
theorem sm2 : ¬ (("many" : Str) = "kept") := by decide +kernel
theorem sm3 : ¬ (("many" : Str) = "lost") := by decide +kernel
theorem sm4 : ¬ (("ties" : Str) = "kept") := by decide +kernel
theorem sm5 : ¬ (("ties" : Str) = "lost") := by decide +kernel
theorem sm6 : ¬ (("kept" : Str) = "lost") := by decide +kernel
def stF (n : Int) (T Kk Lo : Addr) : List (Str × V) := putF "lost" (.ref Lo) (putF "kept" (.ref Kk) (putF "ties" (.ref T) (putF "many" (.int n) [])))
theorem stF_many (n : Int) (T Kk Lo : Addr) : (stF n T Kk Lo).lookup ("many" : Str) = some (.int n) := by
  unfold stF
  rw [lookup_putF, if_neg sm3, lookup_putF, if_neg sm2, lookup_putF, if_neg sm1, lookup_putF, if_pos rfl]
theorem stF_ties (n : Int) (T Kk Lo : Addr) : (stF n T Kk Lo).lookup ("ties" : Str) = some (.ref T) := by
  unfold stF
  rw [lookup_putF, if_neg sm5, lookup_putF, if_neg sm4, lookup_putF, if_pos rfl]
theorem stF_kept (n : Int) (T Kk Lo : Addr) : (stF n T Kk Lo).lookup ("kept" : Str) = some (.ref Kk) := by
  unfold stF
  rw [lookup_putF, if_neg sm6, lookup_putF, if_pos rfl]
theorem stF_lost (n : Int) (T Kk Lo : Addr) : (stF n T Kk Lo).lookup ("lost" : Str) = some (.ref Lo) := by
  unfold stF
  rw [lookup_putF, if_pos rfl]
theorem stF_no (n : Int) (T Kk Lo : Addr) {m : Str} (h1 : ¬ m = "lost") (h2 : ¬ m = "kept") (h3 : ¬ m = "ties") (h4 : ¬ m = "many") : (stF n T Kk Lo).lookup m = none := by
  unfold stF
  rw [lookup_putF, if_neg h1, lookup_putF, if_neg h2, lookup_putF, if_neg h3, lookup_putF, if_neg h4]
  all_goals rfl
structure StA (C : Addr) (H : Hp) (p T Kk Lo : Addr) (n : Nat) (ts : List Tie) (fl : List Bool) : Prop where
  ob : ∃ dx, H p = some (.ins C dx (stF n T Kk Lo))
  hT : ∃ us, H T = some (.lst us) ∧ Paired (TieV H) us ts
  hK : H Kk = some (.lst ((knT fl true).map V.int))
  hL : H Lo = some (.lst ((knT fl false).map V.int))
  n1 : T ≠ Kk
  n2 : T ≠ Lo
  n3 : Kk ≠ Lo
theorem StA.same {C : Addr} {H H' : Hp} {p T Kk Lo : Addr} {n : Nat} {ts : List Tie} {fl : List Bool} (h : StA C H p T Kk Lo n ts fl) (s : Same H H') : StA C H' p T Kk Lo n ts fl := by
  obtain ⟨⟨dx, h1⟩, ⟨us, h2, h3⟩, h4, h5, a, b, c⟩ := h
  exact ⟨⟨dx, s _ _ h1⟩, ⟨us, s _ _ h2, ties_tk (Same.tk s) h3⟩, s _ _ h4, s _ _ h5, a, b, c⟩
structure SI (n : Nat) (ts : List Tie) (fl : List Bool) : Prop where
  len : ts.length = fl.length
  few : ts.length ≤ 120
  ok : ∀ t ∈ ts, TieOk n t
  calm : ¬ Odd (kt ts fl) n
  n1 : 1 ≤ n
  n40 : n ≤ 40
def KS (p T Kk Lo : Addr) (H H' : Hp) : Prop := ∀ b o, b ≠ p → b ≠ T → b ≠ Kk → b ≠ Lo → H b = some o → H' b = some o
theorem KS.trans {p T Kk Lo : Addr} {H H1 H2 : Hp} (a : KS p T Kk Lo H H1) (b : KS p T Kk Lo H1 H2) : KS p T Kk Lo H H2 := fun x o h1 h2 h3 h4 h => b x o h1 h2 h3 h4 (a x o h1 h2 h3 h4 h)
theorem Same.ks {p T Kk Lo : Addr} {H H' : Hp} (s : Same H H') : KS p T Kk Lo H H' := fun b o _ _ _ _ h => s b o h
structure STx (K : PySem.W.Frag) (C : Addr) : Prop where
  cl : Cls K C
  nM : NoAttr K C "many"
  nT : NoAttr K C "ties"
  nK : NoAttr K C "kept"
  nL : NoAttr K C "lost"
def spSInit (C : Addr) : Sp := fun vs H Q _ => ∃ (p dx : Addr) (n : Nat), vs = [.ref p, .int n] ∧ H p = some (.ins C dx []) ∧ ∀ T Kk Lo H', H T = none → H Kk = none → H Lo = none → StA C H' p T Kk Lo n [] [] → (∀ b o, H b = some o → b ≠ p → H' b = some o) → Q .non H'
def spSWeb (C : Addr) : Sp := fun vs H Q _ => ∃ (p T Kk Lo : Addr) (n : Nat) (ts : List Tie) (fl : List Bool), vs = [.ref p] ∧ StA C H p T Kk Lo n ts fl ∧ ∀ v H', Same H H' → WebAt H' v n ts → Q v H'
def spSBroken (C : Addr) : Sp := fun vs H Q _ => ∃ (p T Kk Lo : Addr) (n : Nat) (ts : List Tie) (fl : List Bool), vs = [.ref p] ∧ StA C H p T Kk Lo n ts fl ∧ ∀ r H', Same H H' → H' r = some (.tup ((knT fl false).map V.int)) → Q (.ref r) H'
def spSBack (C : Addr) : Sp := fun vs H Q _ => ∃ (p T Kk Lo : Addr) (n : Nat) (ts : List Tie) (fl : List Bool) (t : Tie) (b : Bool), vs = [.ref p] ∧ StA C H p T Kk Lo n (ts ++ [t]) (fl ++ [b]) ∧ ts.length = fl.length ∧ ∀ H', KS p T Kk Lo H H' → StA C H' p T Kk Lo n ts fl → Q .non H'
def spSCome (C : Addr) : Sp := fun vs H Q _ => ∃ (p T Kk Lo : Addr) (n : Nat) (ts : List Tie) (fl : List Bool) (t : Tie), vs = [.ref p, .int t.one, .int t.other, .str (kindS t.foe)] ∧ StA C H p T Kk Lo n ts fl ∧ SI n ts fl ∧ TieOk n t ∧
  (Kps (kt ts fl) t → ∀ H', KS p T Kk Lo H H' → StA C H' p T Kk Lo n (ts ++ [t]) (fl ++ [true]) → Q .non H') ∧
  (¬ Kps (kt ts fl) t → ∀ r a b qs ns H', KS p T Kk Lo H H' → StA C H' p T Kk Lo n (ts ++ [t]) (fl ++ [false]) → H' r = some (.tup [.ref a, .ref b]) → H' a = some (.tup (qs.map V.int)) → H' b = some (.tup ((ns ++ [(ts.length : Int)]).map V.int)) → Way (nN ts (knT fl true)) t.other t.one qs ns → (fpar ts ns ^^ t.foe) = true → Q (.ref r) H')
def spFoesIn : Sp := fun vs H Q _ => ∃ (wv : V) (r b : Addr) (x : V) (n : Int) (ts : List Tie) (ms : List Int), vs = [wv, .ref r] ∧ WebAt H wv n ts ∧ H r = some (.tup [x, .ref b]) ∧ H b = some (.tup (ms.map V.int)) ∧ ms.length ≤ 300 ∧ (∀ m ∈ ms, 0 ≤ m ∧ m < (ts.length : Int)) ∧ ∀ H', Same H H' → Q (.int (cntF ts ms : Nat)) H'
section
variable {P : Program} {w : World} {K : PySem.W.Frag} {mg : Str → Option Value} {base : Heap}
theorem ok_S_init {f C : Addr} {fd : FuncData} (F : Fun K "__init__" "Stand.__init__" s_Stand_init f fd) (T : STx K C) : FnOk P w K mg base CX0 1 f fd ["self", "many"] (spSInit C) := by
  refine F.ok sc_Stand_init (fun vs H Q E h => ?_) (fun cdv A outer s H vs Q E hr h => ?_)
  · obtain ⟨p, dx, n, rfl, _⟩ := h
    rfl
  · obtain ⟨p, dx, n, rfl, hp, q⟩ := h
    refine ⟨_, pss_cons (ps_fld (pv 0) (pv 1) rfl) (pss_cons (ps_fld (pv 0) (pe_lst pa_nil) rfl) (pss_cons (ps_fld (pv 0) (pe_lst pa_nil) rfl) (pss_one (ps_fld (pv 0) (pe_lst pa_nil) rfl)))), ?_⟩
    refine ⟨.int n, rfl, .ref p, rfl, p, C, dx, [], rfl, hp, T.cl, T.nM, by show 0 < 1000; decide, ?_⟩
    refine ⟨Nat.zero_le _, fun Ti nT => ?_⟩
    have nTp : Ti ≠ p := (ne_of_none upd_same nT).symm
    have nT0 : H Ti = none := by rw [upd_ne nTp] at nT; exact nT
    refine ⟨.ref p, rfl, p, C, dx, _, rfl, by rw [upd_ne (Ne.symm nTp)]; exact upd_same, T.cl, T.nT, by show 1 < 1000; decide, ?_⟩
    refine ⟨Nat.zero_le _, fun Kk nK => ?_⟩
    have nKp : Kk ≠ p := (ne_of_none upd_same nK).symm
    have nKT : Kk ≠ Ti := by
      have h1 : (upd (upd (upd H p (.ins C dx (putF "many" (V.int n) []))) Ti (.lst [])) p (.ins C dx (putF "ties" (V.ref Ti) (putF "many" (V.int n) [])))) Ti = some (.lst []) := by rw [upd_ne nTp]; exact upd_same
      exact (ne_of_none h1 nK).symm
    have nK0 : H Kk = none := by rw [upd_ne nKp, upd_ne nKT, upd_ne nKp] at nK; exact nK
    refine ⟨.ref p, rfl, p, C, dx, _, rfl, by rw [upd_ne (Ne.symm nKp)]; exact upd_same, T.cl, T.nK, by show 2 < 1000; decide, ?_⟩
    refine ⟨Nat.zero_le _, fun Lo nL => ?_⟩
    have nLp : Lo ≠ p := (ne_of_none upd_same nL).symm
    have nLK : Lo ≠ Kk := by
      refine (ne_of_none (o := .lst []) ?_ nL).symm
      rw [upd_ne nKp]
      exact upd_same
    have nLT : Lo ≠ Ti := by
      refine (ne_of_none (o := .lst []) ?_ nL).symm
      rw [upd_ne nTp, upd_ne (Ne.symm nKT), upd_ne nTp]
      exact upd_same
    have nL0 : H Lo = none := by rw [upd_ne nLp, upd_ne nLK, upd_ne nLp, upd_ne nLT, upd_ne nLp] at nL; exact nL
    refine ⟨.ref p, rfl, p, C, dx, _, rfl, by rw [upd_ne (Ne.symm nLp)]; exact upd_same, T.cl, T.nL, by show 3 < 1000; decide, ?_⟩
    refine q Ti Kk Lo _ nT0 nK0 nL0 ⟨⟨dx, upd_same⟩, ⟨[], ?_, .nil⟩, ?_, ?_, Ne.symm nKT, Ne.symm nLT, Ne.symm nLK⟩ fun b o e hb => ?_
    · rw [upd_ne nTp, upd_ne (Ne.symm nLT), upd_ne nTp, upd_ne (Ne.symm nKT), upd_ne nTp]
      exact upd_same
    · rw [upd_ne nKp, upd_ne (Ne.symm nLK), upd_ne nKp]
      exact upd_same
    · rw [upd_ne nLp]
      exact upd_same
    · rw [upd_ne hb, upd_ne (ne_of_none e nL0), upd_ne hb, upd_ne (ne_of_none e nK0), upd_ne hb, upd_ne (ne_of_none e nT0), upd_ne hb]
      exact e
theorem ok_S_web {f C : Addr} {fd : FuncData} (F : Fun K "web" "Stand.web" s_Stand_web f fd) (T : STx K C) (M : Free mg) : FnOk P w K mg base CX0 1 f fd ["self"] (spSWeb C) := by
  refine F.ok sc_Stand_web (fun vs H Q E h => ?_) (fun cdv A outer s H vs Q E hr h => ?_)
  · obtain ⟨p, Ti, Kk, Lo, n, ts, fl, rfl, _⟩ := h
    rfl
  · obtain ⟨p, Ti, Kk, Lo, n, ts, fl, rfl, S, q⟩ := h
    refine ⟨_, pss_one (ps_ret (pe_tup (pa_cons (pe_fld (pv 0) rfl) (pa_cons (pe_callTy call_tuple_of (by rfl) M.tuple (by decide +kernel) (pa_cons (pe_fld (pv 0) rfl) pa_nil)) pa_nil)))), ?_⟩
    obtain ⟨dx, h1⟩ := S.ob
    obtain ⟨us, h2, hp⟩ := S.hT
    refine ⟨.ref p, rfl, p, C, dx, _, _, rfl, h1, T.cl, T.nM, stF_many _ _ _ _, .ref p, rfl, p, C, dx, _, _, rfl, h1, T.cl, T.nT, stF_ties _ _ _ _, Ti, us, rfl, .inl ⟨SqL.of h2, fun b nb => ⟨by show 2 ≤ sizeLine; decide, fun a na => ?_⟩⟩⟩
    have s2 := (same_new (o := .tup us) nb).trans (same_new (o := .tup [.int n, .ref b]) na)
    exact q _ _ s2 ⟨a, b, us, rfl, upd_same, same_new na _ _ upd_same, ties_tk (Same.tk s2) hp⟩
theorem ok_S_broken {f C : Addr} {fd : FuncData} (F : Fun K "broken" "Stand.broken" s_Stand_broken f fd) (T : STx K C) (M : Free mg) : FnOk P w K mg base CX0 1 f fd ["self"] (spSBroken C) := by
  refine F.ok sc_Stand_broken (fun vs H Q E h => ?_) (fun cdv A outer s H vs Q E hr h => ?_)
  · obtain ⟨p, Ti, Kk, Lo, n, ts, fl, rfl, _⟩ := h
    rfl
  · obtain ⟨p, Ti, Kk, Lo, n, ts, fl, rfl, S, q⟩ := h
    refine ⟨_, pss_one (ps_ret (pe_callTy call_tuple_of (by rfl) M.tuple (by decide +kernel) (pa_cons (pe_fld (pv 0) rfl) pa_nil))), ?_⟩
    obtain ⟨dx, h1⟩ := S.ob
    exact ⟨.ref p, rfl, p, C, dx, _, _, rfl, h1, T.cl, T.nL, stF_lost _ _ _ _, Lo, _, rfl, .inl ⟨SqL.of S.hL, fun b nb => q b _ (same_new nb) upd_same⟩⟩
theorem ok_S_back {f C : Addr} {fd : FuncData} (F : Fun K "back" "Stand.back" s_Stand_back f fd) (T : STx K C) (M : Free mg) : FnOk P w K mg base CX0 1 f fd ["self"] (spSBack C) := by
  refine F.ok sc_Stand_back (fun vs H Q E h => ?_) (fun cdv A outer s H vs Q E hr h => ?_)
  · obtain ⟨p, Ti, Kk, Lo, n, ts, fl, t, b, rfl, _⟩ := h
    rfl
  · obtain ⟨p, Ti, Kk, Lo, n, ts, fl, t, b, rfl, S, hl, q⟩ := h
    refine ⟨_, pss_cons (ps_if (pt_not (pt_truth (pe_fld (pv 0) rfl) (by intro _; rfl))) (pss_one ps_never) pss_nil)
      (pss_cons (ps_expr (pe_bm0 PySem.F.plainAttrs_list PySem.F.slot_list_pop PySem.F.type_list_pop mt_pop (pe_fld (pv 0) rfl)))
      (pss_one (ps_if (pt_cmpR op_in_seq (pe_callB call_len_seq (by rfl) M.len PySem.boot_len (pa_cons (pe_fld (pv 0) rfl) pa_nil)) (pe_fld (pv 0) rfl) rfl)
        (pss_one (ps_expr (pe_bm0 PySem.F.plainAttrs_list PySem.F.slot_list_pop PySem.F.type_list_pop mt_pop (pe_fld (pv 0) rfl))))
        (pss_one (ps_expr (pe_bm0 PySem.F.plainAttrs_list PySem.F.slot_list_pop PySem.F.type_list_pop mt_pop (pe_fld (pv 0) rfl))))))), ?_⟩
    obtain ⟨dx, h1⟩ := S.ob
    obtain ⟨us, h2, hp⟩ := S.hT
    obtain ⟨vs, v, rfl, hps, hv⟩ := Paired.unsnoc hp
    have lv : vs.length = ts.length := Paired.length hps
    refine ⟨.ref p, rfl, p, C, dx, _, _, rfl, h1, T.cl, T.nT, stF_ties _ _ _ _, _, .inl ⟨_, SqL.of h2, rfl⟩, ?_⟩
    have hb : (!(vs ++ [v]).isEmpty) = true := by cases vs <;> rfl
    rw [hb]
    have pT : p ≠ Ti := ne_of h1 h2 (by intro z; cases z)
    have pK : p ≠ Kk := ne_of h1 S.hK (by intro z; cases z)
    have pL : p ≠ Lo := ne_of h1 S.hL (by intro z; cases z)
    refine ⟨.ref p, rfl, p, C, dx, _, _, rfl, h1, T.cl, T.nT, stF_ties _ _ _ _, .inl ⟨rfl, _, SqL.of h2⟩, Ti, _, v, rfl, rfl, h2, by simp, ?_⟩
    rw [List.dropLast_concat]
    have g1 : (upd H Ti (.lst vs)) p = some (.ins C dx (stF n Ti Kk Lo)) := by rw [upd_ne pT]; exact h1
    have g2 : (upd H Ti (.lst vs)) Ti = some (.lst vs) := upd_same
    have g3 : (upd H Ti (.lst vs)) Kk = some (.lst ((knT (fl ++ [b]) true).map V.int)) := by rw [upd_ne (Ne.symm S.n1)]; exact S.hK
    have g4 : (upd H Ti (.lst vs)) Lo = some (.lst ((knT (fl ++ [b]) false).map V.int)) := by rw [upd_ne (Ne.symm S.n2)]; exact S.hL
    have k1 : KS p Ti Kk Lo H (upd H Ti (.lst vs)) := fun x o _ e2 _ _ e => by rw [upd_ne e2]; exact e
    have hp1 := ties_tk (tk_lst (ys := vs) h2) hps
    generalize upd H Ti (.lst vs) = H1 at g1 g2 g3 g4 k1 hp1
    refine ⟨.ref p, rfl, p, C, dx, _, _, rfl, g1, T.cl, T.nT, stF_ties _ _ _ _, Ti, vs, rfl, .inl (SqL.of g2), .ref p, rfl, p, C, dx, _, _, rfl, g1, T.cl, T.nK, stF_kept _ _ _ _, Kk, _, rfl, .inl (SqL.of g3), rfl, flat_ints _, _, rfl, ?_⟩
    have inn : inV (.int (vs.length : Nat)) ((knT (fl ++ [b]) true).map V.int) = b := by
      have e1 : inV (.int (vs.length : Nat)) ((knT (fl ++ [b]) true).map V.int) = true ↔ ((vs.length : Nat) : Int) ∈ knT (fl ++ [b]) true := by
        unfold inV
        rw [List.any_map, List.any_eq_true]
        constructor
        · rintro ⟨x, hx, e⟩
          have e' : (x == ((vs.length : Nat) : Int)) = true := e
          rw [beq_iff_eq] at e'
          rw [← e']
          exact hx
        · intro h
          exact ⟨_, h, by show (((vs.length : Nat) : Int) == ((vs.length : Nat) : Int)) = true; simp⟩
      rw [mem_knT] at e1
      have e2 : (fl ++ [b])[((vs.length : Nat) : Int).toNat]? = some b := by
        rw [Int.toNat_natCast, lv, hl, List.getElem?_append_right (Nat.le_refl _)]
        simp
      rw [e2] at e1
      cases b with
      | true => exact e1.mpr ⟨⟨by omega, by rw [List.length_append]; simp; omega⟩, rfl⟩
      | false =>
        rw [Bool.eq_false_iff]
        intro z
        have := (e1.mp z).2
        cases this
    rw [inn]
    cases b with
    | true =>
      have e3 : knT (fl ++ [true]) true = knT fl true ++ [(fl.length : Int)] := by rw [knT_snoc, if_pos rfl]
      have e4 : knT (fl ++ [true]) false = knT fl false := by rw [knT_snoc, if_neg (by simp), List.append_nil]
      rw [e3, List.map_append] at g3
      rw [e4] at g4
      refine ⟨.ref p, rfl, p, C, dx, _, _, rfl, g1, T.cl, T.nK, stF_kept _ _ _ _, .inl ⟨rfl, _, SqL.of g3⟩, Kk, _, .int (fl.length : Int), rfl, rfl, g3, by simp, ?_⟩
      have e5 : ((knT fl true).map V.int ++ List.map V.int [(fl.length : Int)]).dropLast = (knT fl true).map V.int := by
        show ((knT fl true).map V.int ++ [V.int (fl.length : Int)]).dropLast = _
        rw [List.dropLast_concat]
      rw [e5]
      refine q _ (fun x o a1 a2 a3 a4 e => ?_) ⟨⟨dx, by rw [upd_ne pK]; exact g1⟩, ⟨vs, by rw [upd_ne S.n1]; exact g2, ties_tk (tk_lst g3) hp1⟩, upd_same, by rw [upd_ne (Ne.symm S.n3)]; exact g4, S.n1, S.n2, S.n3⟩
      rw [upd_ne a3]
      exact k1 x o a1 a2 a3 a4 e
    | false =>
      have e3 : knT (fl ++ [false]) true = knT fl true := by rw [knT_snoc, if_neg (by simp), List.append_nil]
      have e4 : knT (fl ++ [false]) false = knT fl false ++ [(fl.length : Int)] := by rw [knT_snoc, if_pos rfl]
      rw [e3] at g3
      rw [e4, List.map_append] at g4
      refine ⟨.ref p, rfl, p, C, dx, _, _, rfl, g1, T.cl, T.nL, stF_lost _ _ _ _, .inl ⟨rfl, _, SqL.of g4⟩, Lo, _, .int (fl.length : Int), rfl, rfl, g4, by simp, ?_⟩
      have e5 : ((knT fl false).map V.int ++ List.map V.int [(fl.length : Int)]).dropLast = (knT fl false).map V.int := by
        show ((knT fl false).map V.int ++ [V.int (fl.length : Int)]).dropLast = _
        rw [List.dropLast_concat]
      rw [e5]
      refine q _ (fun x o a1 a2 a3 a4 e => ?_) ⟨⟨dx, by rw [upd_ne pL]; exact g1⟩, ⟨vs, by rw [upd_ne S.n2]; exact g2, ties_tk (tk_lst g4) hp1⟩, by rw [upd_ne S.n3]; exact g3, upd_same, S.n1, S.n2, S.n3⟩
      rw [upd_ne a4]
      exact k1 x o a1 a2 a3 a4 e
end
section
variable {P : Program} {w : World} {K : PySem.W.Frag} {mg : Str → Option Value} {base : Heap}
theorem ok_S_come {f C : Addr} {fd : FuncData} (F : Fun K "come" "Stand.come" s_Stand_come f fd) (T : STx K C) (M : Free mg) (D_web : DfM P w K mg base 1 C "web" ["self"] (spSWeb C)) (D_around : Df P w K mg base 1 "ties_around" ["web", "numbers"] spAround) (D_walk : Df P w K mg base 1 "walk_from" ["start", "around"] spWalkFrom) (D_way : Df P w K mg base 1 "way_to" ["end", "walk"] spWayTo) (D_foes : Df P w K mg base 1 "foes_in" ["web", "ring"] spFoesIn) : FnOk P w K mg base CX0 2 f fd ["self", "one", "other", "kind"] (spSCome C) := by
  obtain ⟨fW, fdW, GW, mW, bW⟩ := D_web
  obtain ⟨f_ar, fd_ar, G_ar, g_ar, k_ar, b_ar⟩ := D_around
  obtain ⟨f_wk, fd_wk, G_wk, g_wk, k_wk, b_wk⟩ := D_walk
  obtain ⟨f_wy, fd_wy, G_wy, g_wy, k_wy, b_wy⟩ := D_way
  obtain ⟨f_fo, fd_fo, G_fo, g_fo, k_fo, b_fo⟩ := D_foes
  refine F.ok sc_Stand_come (fun vs H Q E h => ?_) (fun cdv A outer s H vs Q E hr h => ?_)
  · obtain ⟨p, Ti, Kk, Lo, n, ts, fl, t, rfl, _⟩ := h
    rfl
  · obtain ⟨p, Ti, Kk, Lo, n, ts, fl, t, rfl, S, si, okt, qk, ql⟩ := h
    have hu := room1 hr
    refine ⟨_, (pss_cons (ps_set (i := 4) sc_Stand_come.nd rfl (.inl rfl) (pe_callB call_len_seq (by rfl) M.len PySem.boot_len (pa_cons (pe_fld (pv 0) rfl) pa_nil)))
      (pss_cons (ps_set (i := 5) sc_Stand_come.nd rfl (.inl rfl) (pe_call G_wk hr (by rfl) g_wk k_wk b_wk .nil pass0 (pa_cons (pv 1) (pa_cons (pe_call G_ar hr (by rfl) g_ar k_ar b_ar .nil pass0 (pa_cons (pe_meth0 (pv 0) T.cl mW GW hr bW .nil pass0) (pa_cons (pe_fld (pv 0) rfl) pa_nil))) pa_nil))))
      (pss_cons (ps_expr (pe_bm PySem.F.plainAttrs_list PySem.F.slot_list_append PySem.F.type_list_append mt_append (pe_fld (pv 0) rfl) (pa_cons (pe_tup (pa_cons (pv 1) (pa_cons (pv 2) (pa_cons (pv 3) pa_nil)))) pa_nil)))
      (Evl.pss_cut (ps_if (pt_cmp (pc_din hu (pv 2) (pv 5)))
        (pss_cons (ps_asg (pe_call G_wy hr (by rfl) g_wy k_wy b_wy .nil pass0 (pa_cons (pv 2) (pa_cons (pv 5) pa_nil))) (pg_tup rfl (pgs_cons (pg_name (i := 6) sc_Stand_come.nd rfl (.inl rfl)) (pgs_cons (pg_name (i := 7) sc_Stand_come.nd rfl (.inl rfl)) pgs_nil))))
        (pss_cons (ps_set (i := 8) sc_Stand_come.nd rfl (.inl rfl) (pe_tup (pa_cons (pv 6) (pa_cons (pe_op op_catU (pv 7) (pe_tup (pa_cons (pv 4) pa_nil))) pa_nil))))
        (pss_one (ps_if (pt_cmpR op_eq (pe_op op_mod (pe_call G_fo hr (by rfl) g_fo k_fo b_fo .nil pass0 (pa_cons (pe_meth0 (pv 0) T.cl mW GW hr bW .nil pass0) (pa_cons (pv 8) pa_nil))) pe_int) pe_int (nomark _))
          (pss_cons (ps_expr (pe_bm PySem.F.plainAttrs_list PySem.F.slot_list_append PySem.F.type_list_append mt_append (pe_fld (pv 0) rfl) (pa_cons (pv 4) pa_nil)))
          (pss_one (ps_ret (pv 8))))
          pss_nil))))
        pss_nil)
      (pss_cons (ps_expr (pe_bm PySem.F.plainAttrs_list PySem.F.slot_list_append PySem.F.type_list_append mt_append (pe_fld (pv 0) rfl) (pa_cons (pv 4) pa_nil)))
      (pss_one (ps_ret pe_non))))))), ?_⟩
    obtain ⟨dx, h1⟩ := id S.ob
    obtain ⟨us, h2, hp⟩ := id S.hT
    have lu : us.length = ts.length := Paired.length hp
    have few := si.few
    have hlen := si.len
    have pT : p ≠ Ti := ne_of h1 h2 (by intro z; cases z)
    have pK : p ≠ Kk := ne_of h1 S.hK (by intro z; cases z)
    have pL : p ≠ Lo := ne_of h1 S.hL (by intro z; cases z)
    have no : ∀ m : Str, ¬ m = "lost" → ¬ m = "kept" → ¬ m = "ties" → ¬ m = "many" → (stF n Ti Kk Lo).lookup m = none := fun m a b c d => stF_no _ _ _ _ a b c d
    have knl := knT_len fl true
    have knl2 := knT_len fl false
    have kin : ∀ m ∈ knT fl true, 0 ≤ m ∧ m < (ts.length : Int) := fun m hm => by
      have := (mem_knT.mp hm).1
      omega
    have tmem : ∀ m ∈ knT fl true, tieN ts m.toNat ∈ ts := fun m hm => by
      have h3 := kin m hm
      have h4 : m.toNat < ts.length := by omega
      unfold tieN
      rw [List.getD_eq_getElem?_getD, List.getElem?_eq_getElem h4]
      exact List.getElem_mem h4
    have hN : ∀ x q, q ∈ nN ts (knT fl true) x → 0 ≤ q.1 ∧ q.1 < (n : Int) := fun x q hq => by
      obtain ⟨a1, a2⟩ := mem_nN.mp hq
      have o := si.ok _ (tmem _ a1)
      rcases a2 with ⟨_, e⟩ | ⟨e, _⟩
      · rw [← e]
        exact ⟨o.2.2.1, o.2.2.2.1⟩
      · rw [← e]
        exact ⟨o.1, o.2.1⟩
    -- number
    refine ⟨.ref p, rfl, p, C, dx, _, _, rfl, h1, T.cl, T.nT, stF_ties _ _ _ _, Ti, us, rfl, .inl (SqL.of h2), ?_⟩
    rw [lu]
    -- walk
    refine ⟨.int t.one, rfl, .ref p, rfl, p, dx, _, rfl, h1, no _ (by decide +kernel) (by decide +kernel) (by decide +kernel) (by decide +kernel), p, Ti, Kk, Lo, n, ts, fl, rfl, S, fun v H1 s1 hW1 => ?_⟩
    have S1 := S.same s1
    refine ⟨.ref p, rfl, p, C, dx, _, _, rfl, s1 _ _ h1, T.cl, T.nK, stF_kept _ _ _ _, v, Kk, n, ts, knT fl true, rfl, hW1, by omega, S1.hK, by omega, kin, fun u H2 s2 hA2 => ?_⟩
    refine ⟨u, n, t.one, nN ts (knT fl true), rfl, hA2, okt.1, okt.2.1, by have := si.n40; omega, hN, fun D ws H3 s3 hw wf lws => ?_⟩
    have s13 := (s1.trans s2).trans s3
    have S3 := S.same s13
    obtain ⟨dx3, g1⟩ := id S3.ob
    obtain ⟨us3, g2, hp3⟩ := id S3.hT
    have n40 := si.n40
    -- the tie comes
    refine ⟨.ref p, rfl, p, C, dx3, _, _, rfl, g1, T.cl, T.nT, stF_ties _ _ _ _, .inl ⟨rfl, _, SqL.of g2⟩, .int t.one, rfl, .int t.other, rfl, .str (kindS t.foe), rfl, by show 3 ≤ sizeLine; decide, fun Z nZ => ?_⟩
    have sZ := same_new (o := .tup [.int t.one, .int t.other, .str (kindS t.foe)]) nZ
    have lu3 : us3.length = ts.length := Paired.length hp3
    refine ⟨Ti, us3, _, rfl, rfl, sZ _ _ g2, small1000 (by omega), ?_⟩
    have tk4 := tk_lst (ys := us3 ++ [.ref Z]) (sZ _ _ g2)
    have m1 : ∀ b o, b ≠ Ti → H3 b = some o → (upd (upd H3 Z (.tup [.int t.one, .int t.other, .str (kindS t.foe)])) Ti (.lst (us3 ++ [.ref Z]))) b = some o := fun b o hb e => by
      rw [upd_ne hb]
      exact sZ _ _ e
    have k4 : KS p Ti Kk Lo H (upd (upd H3 Z (.tup [.int t.one, .int t.other, .str (kindS t.foe)])) Ti (.lst (us3 ++ [.ref Z]))) := fun b o _ e2 _ _ e => m1 b o e2 (s13 b o e)
    have f1 := m1 p _ pT g1
    have f2 : (upd (upd H3 Z (.tup [.int t.one, .int t.other, .str (kindS t.foe)])) Ti (.lst (us3 ++ [.ref Z]))) Ti = some (.lst (us3 ++ [.ref Z])) := upd_same
    have f3 := m1 Kk _ (Ne.symm S.n1) S3.hK
    have f4 := m1 Lo _ (Ne.symm S.n2) S3.hL
    have fp : Paired (TieV (upd (upd H3 Z (.tup [.int t.one, .int t.other, .str (kindS t.foe)])) Ti (.lst (us3 ++ [.ref Z])))) (us3 ++ [.ref Z]) (ts ++ [t]) := Paired.snoc (ties_tk tk4 (ties_tk (Same.tk sZ) hp3)) ⟨Z, rfl, tk4 _ _ upd_same⟩
    have hw4 : WalkAt (upd (upd H3 Z (.tup [.int t.one, .int t.other, .str (kindS t.foe)])) Ti (.lst (us3 ++ [.ref Z]))) D ws := by
      obtain ⟨kvs, w1, w2⟩ := hw
      exact ⟨kvs, m1 D _ (ne_of w1 g2 (by intro z; cases z)) w1, wes_tk ((Same.tk sZ).trans tk4) w2⟩
    generalize upd (upd H3 Z (.tup [.int t.one, .int t.other, .str (kindS t.foe)])) Ti (.lst (us3 ++ [.ref Z])) = H4 at k4 f1 f2 f3 f4 fp hw4
    have reach := wf.reach hlen t.other
    refine ⟨fun σ' H' => ∃ (y6 y7 y8 : Option V), σ' = [some (.ref p), some (.int t.one), some (.int t.other), some (.str (kindS t.foe)), some (.int (ts.length : Nat)), some (.ref D), y6, y7, y8] ∧ Same H4 H' ∧ Kps (kt ts fl) t, ?_, ?_⟩
    · obtain ⟨kvs, w1, w2⟩ := id hw4
      refine ⟨.int t.other, rfl, .ref D, rfl, D, _, rfl, DGet.k (k := Sum.inl t.other) w1, _, rfl, ?_⟩
      by_cases hin : t.other ∈ ws.map (·.1)
      · obtain ⟨k, g, he⟩ := we_key hin
        obtain ⟨ad, ev, _⟩ := wes_some w2 wf.nd he
        rw [ev]
        have hk := wf.low he
        refine ⟨.int t.other, rfl, .ref D, rfl, t.other, t.one, D, ws, _, k, g, rfl, hw4, wf, he, by omega, fun r a b qs ns H5 s5 hr5 ha5 hb5 way ln => ?_⟩
        refine ⟨r, _, rfl, SqT.of hr5, rfl, _, _, rfl, _, _, rfl, rfl, ?_⟩
        refine ⟨.ref a, rfl, .ref b, rfl, .int (ts.length : Nat), rfl, by show 1 ≤ sizeLine; decide, fun o1 no1 => ?_⟩
        have so1 := same_new (o := .tup [.int (ts.length : Nat)]) no1
        refine ⟨b, o1, _, _, rfl, rfl, so1 _ _ hb5, upd_same, by rw [List.length_map]; show ns.length + 1 ≤ 100000; omega, fun r6 H6 s6 h6 => ⟨by show 2 ≤ sizeLine; decide, fun rr nrr => ?_⟩⟩
        have h6' : H6 r6 = some (.tup ((ns ++ [(ts.length : Int)]).map V.int)) := by rw [List.map_append]; exact h6
        have s7 := same_new (o := .tup [.ref a, .ref r6]) nrr
        have s47 := ((s5.trans so1).trans s6).trans s7
        have a7 := s7 _ _ (s6 _ _ (so1 _ _ ha5))
        have b7 := s7 _ _ h6'
        have r7 : (upd H6 rr (.tup [.ref a, .ref r6])) rr = some (.tup [.ref a, .ref r6]) := upd_same
        generalize upd H6 rr (.tup [.ref a, .ref r6]) = H7 at s47 a7 b7 r7
        -- the web with the tie
        have S7 : StA C H7 p Ti Kk Lo n (ts ++ [t]) (fl ++ []) := by
          rw [List.append_nil]
          exact ⟨⟨dx3, s47 _ _ f1⟩, ⟨_, s47 _ _ f2, ties_tk (Same.tk s47) fp⟩, s47 _ _ f3, s47 _ _ f4, S.n1, S.n2, S.n3⟩
        refine ⟨.ref p, rfl, p, dx3, _, rfl, s47 _ _ f1, no _ (by decide +kernel) (by decide +kernel) (by decide +kernel) (by decide +kernel), p, Ti, Kk, Lo, n, ts ++ [t], fl ++ [], rfl, S7, fun v8 H8 s8 hW8 => ?_⟩
        have nin := way.num
        have lnn := way.len
        refine ⟨.ref rr, rfl, v8, rr, r6, _, n, ts ++ [t], ns ++ [(ts.length : Int)], rfl, hW8, s8 _ _ r7, s8 _ _ b7, by rw [List.length_append]; show ns.length + 1 ≤ 300; omega, fun m hm => ?_, fun H9 s9 => ?_⟩
        · rw [List.length_append]
          show 0 ≤ m ∧ m < ((ts.length + 1 : Nat) : Int)
          rcases List.mem_append.mp hm with z | z
          · have := kin m (nin m z)
            omega
          · rw [List.mem_singleton.mp z]
            omega
        refine ⟨_, 2, rfl, rfl, (show (0 : Int) < 2 by decide), rfl, _, rfl, ?_⟩
        have par : decide (V.int (((cntF (ts ++ [t]) (ns ++ [(ts.length : Int)]) : Nat) : Int) % 2) = V.int 1) = (fpar ts ns ^^ t.foe) := by
          rw [dec_int', cntF_par, fpar_snoc]
          have e1 : tieN (ts ++ [t]) ((ts.length : Int)).toNat = t := tieN_of (by rw [Int.toNat_natCast, List.getElem?_append_right (Nat.le_refl _)]; simp)
          have e2 : ∀ ms : List Int, (∀ m ∈ ms, m ∈ knT fl true) → fpar (ts ++ [t]) ms = fpar ts ms := fun ms => by
            induction ms with
            | nil => exact fun _ => rfl
            | cons m ms ih =>
              intro hh
              show ((tieN (ts ++ [t]) m.toNat).foe ^^ fpar (ts ++ [t]) ms) = ((tieN ts m.toNat).foe ^^ fpar ts ms)
              rw [ih (fun x hx => hh x (List.mem_cons_of_mem _ hx))]
              have hm := kin m (hh m (by simp))
              have : tieN (ts ++ [t]) m.toNat = tieN ts m.toNat := by
                unfold tieN
                rw [List.getD_eq_getElem?_getD, List.getD_eq_getElem?_getD, List.getElem?_append_left (by omega)]
              rw [this]
          rw [e1, e2 ns nin]
        rw [par]
        have rpw := way_rp hlen way
        have s49 := s47.trans (s8.trans s9)
        have G1 := s49 _ _ f1
        have G2 := s49 _ _ f2
        have G3 := s49 _ _ f3
        have G4 := s49 _ _ f4
        have GP := ties_tk (Same.tk s49) fp
        have rr9 := s9 _ _ (s8 _ _ r7)
        have ra9 := s9 _ _ (s8 _ _ a7)
        have rb9 := s9 _ _ (s8 _ _ b7)
        cases hb : (fpar ts ns ^^ t.foe) with
        | true =>
          have nk : ¬ Kps (kt ts fl) t := by
            rintro (z | z)
            · exact z ⟨_, rpw⟩
            · have e := rp_one si.calm ⟨okt.1, okt.2.1⟩ rpw z
              rw [e, Bool.xor_self] at hb
              cases hb
          refine ⟨.ref p, rfl, p, C, dx3, _, _, rfl, G1, T.cl, T.nL, stF_lost _ _ _ _, .inl ⟨rfl, _, SqL.of G4⟩, .int (ts.length : Nat), rfl, Lo, _, _, rfl, rfl, G4, by rw [List.length_map]; exact small1000 (by omega), ?_⟩
          refine ⟨.ref rr, rfl, ?_⟩
          have tk := tk_lst (ys := (knT fl false).map V.int ++ [.int (ts.length : Nat)]) G4
          refine ql nk rr a r6 qs ns _ (fun b o a1 a2 a3 a4 e => ?_) ⟨⟨dx3, by rw [upd_ne pL]; exact G1⟩, ⟨_, by rw [upd_ne S.n2]; exact G2, ties_tk tk GP⟩, ?_, ?_, S.n1, S.n2, S.n3⟩ (tk _ _ rr9) (tk _ _ ra9) (tk _ _ rb9) way hb
          · rw [upd_ne a4]
            exact s49 _ _ (k4 b o a1 a2 a3 a4 e)
          · rw [upd_ne S.n3, knT_snoc, if_neg (by simp), List.append_nil]
            exact G3
          · rw [upd_same, knT_snoc, if_pos rfl, List.map_append, hlen]
            rfl
        | false =>
          refine ⟨_, _, _, rfl, s49, .inr ?_⟩
          have : fpar ts ns = t.foe := by
            revert hb
            cases fpar ts ns <;> cases t.foe <;> simp
          rw [← this]
          exact rpw
      · rw [wes_none w2 hin]
        exact ⟨none, none, none, rfl, Same.refl _, .inl fun r => hin (reach.mpr r)⟩
    · rintro σ' H5 ⟨y6, y7, y8, rfl, s5, hk⟩
      have G1 := s5 _ _ f1
      have G2 := s5 _ _ f2
      have G3 := s5 _ _ f3
      have G4 := s5 _ _ f4
      refine ⟨.ref p, rfl, p, C, dx3, _, _, rfl, G1, T.cl, T.nK, stF_kept _ _ _ _, .inl ⟨rfl, _, SqL.of G3⟩, .int (ts.length : Nat), rfl, Kk, _, _, rfl, rfl, G3, by rw [List.length_map]; exact small1000 (by omega), ?_⟩
      have tk := tk_lst (ys := (knT fl true).map V.int ++ [.int (ts.length : Nat)]) G3
      refine qk hk _ (fun b o a1 a2 a3 a4 e => ?_) ⟨⟨dx3, by rw [upd_ne pK]; exact G1⟩, ⟨_, by rw [upd_ne S.n1]; exact G2, ties_tk tk (ties_tk (Same.tk s5) fp)⟩, ?_, ?_, S.n1, S.n2, S.n3⟩
      · rw [upd_ne a3]
        exact s5 _ _ (k4 b o a1 a2 a3 a4 e)
      · rw [upd_same, knT_snoc, if_pos rfl, List.map_append, hlen]
        rfl
      · rw [upd_ne (Ne.symm S.n3), knT_snoc, if_neg (by simp), List.append_nil]
        exact G4
end
/-! ### the stand's laws: wells, sizes, deeds -/
def Well (H : Hp) (d : Addr) (b : Int) : Prop := ∃ x c : Int, H d = some (.lst [.int x, .int c]) ∧ 0 ≤ c ∧ c ≤ b
def KW (d : Addr) (H H' : Hp) : Prop := ∀ b o, b ≠ d → H b = some o → H' b = some o
theorem KW.trans {d : Addr} {H H1 H2 : Hp} (a : KW d H H1) (b : KW d H1 H2) : KW d H H2 := fun x o h1 h => b x o h1 (a x o h1 h)
theorem Same.kw {d : Addr} {H H' : Hp} (s : Same H H') : KW d H H' := fun b o _ h => s b o h
theorem KW.same {d : Addr} {H H1 H2 : Hp} (k : KW d H1 H2) (s : Same H H1) (n : H d = none) : Same H H2 := fun b o e => k b o (ne_of_none e n) (s b o e)
theorem Well.same {H H' : Hp} {d : Addr} {b : Int} (h : Well H d b) (s : Same H H') : Well H' d b := by
  obtain ⟨x, c, h1, h2⟩ := h
  exact ⟨x, c, s _ _ h1, h2⟩
def spDraw : Sp := fun vs H Q _ => ∃ (d : Addr) (b m : Int), vs = [.ref d, .int m] ∧ Well H d b ∧ b ≤ 100000 ∧ 0 < m ∧ m.natAbs < 2 ^ 120 ∧ ∀ v H', 0 ≤ v → v < m → Well H' d (b + 1) → KW d H H' → Q (.int v) H'
def spCell (K : PySem.W.Frag) : Sp := fun vs H Q _ => ∃ (sc : Addr) (ns : List Int) (k : Int), vs = [.ref sc, .int k] ∧ SqL K H sc (ns.map V.int) ∧ 0 ≤ k ∧ ∀ v, Q (.int v) H
def spSize (K : PySem.W.Frag) : Sp := fun vs H Q _ => ∃ (sc : Addr) (ns : List Int), vs = [.ref sc] ∧ SqL K H sc (ns.map V.int) ∧ ∀ r (n : Nat) (de : Int) (b : Bool) H', Same H H' → H' r = some (.tup [.int n, .int de, .bl b]) → 1 ≤ n → n ≤ 40 → 4 ≤ de → de ≤ 203 → Q (.ref r) H'
def spDeed (K : PySem.W.Frag) : Sp := fun vs H Q _ => ∃ (sc L : Addr) (ns : List Int) (k : Int) (n : Nat) (us : List V) (ts : List Tie) (b : Bool), vs = [.ref sc, .int k, .int n, .ref L, .bl b] ∧ SqL K H sc (ns.map V.int) ∧ 0 ≤ k ∧ k ≤ 203 ∧ 1 ≤ n ∧ n ≤ 40 ∧ H L = some (.lst us) ∧ Paired (TieV H) us ts ∧ (∀ t ∈ ts, TieOk n t) ∧ ts.length ≤ 120 ∧
  (∀ H', Same H H' → Q .non H') ∧ ∀ a t H', Same H H' → H' a = some (.tup [.int t.one, .int t.other, .str (kindS t.foe)]) → TieOk n t → ts.length ≤ 119 → Q (.ref a) H'
section
variable {P : Program} {w : World} {K : PySem.W.Frag} {mg : Str → Option Value} {base : Heap}
theorem ok_l_cell_at {f : Addr} {fd : FuncData} (F : Fun K "_law_cell_at" "_law_cell_at" s_l_cell_at f fd) (M : Free mg) : FnOk P w K mg base CX0 1 f fd ["_law_script", "_law_k"] (spCell K) := by
  refine F.ok sc_l_cell_at (fun vs H Q E h => ?_) (fun cdv A outer s H vs Q E hr h => ?_)
  · obtain ⟨sc, ns, k, rfl, _⟩ := h
    rfl
  · obtain ⟨sc, ns, k, rfl, hS, k0, q⟩ := h
    refine ⟨_, (pss_cons (ps_if (pt_cmpR op_lt (pv 1) (pe_callB call_len_seq (by rfl) M.len PySem.boot_len (pa_cons (pv 0) pa_nil)) (nomark _))
        (pss_one (ps_ret (pe_ix ix_list (pv 0) (pv 1) (fun _ _ => rfl))))
        pss_nil)
      (pss_one (ps_ret pe_int))), ?_⟩
    refine ⟨.int k, rfl, .ref sc, rfl, sc, _, rfl, .inl hS, k, _, rfl, rfl, _, rfl, ?_⟩
    refine ite2 (fun h => ?_) (fun _ => q 0)
    have h : k < ((ns.map V.int).length : Int) := of_decide_eq_true h
    rw [List.length_map] at h
    obtain ⟨x, _, _, ex⟩ := atI_ints k0 h
    exact ⟨.ref sc, rfl, .int k, rfl, sc, _, k, .int x, rfl, rfl, hS, ex, q x⟩
theorem ok_l_draw {f : Addr} {fd : FuncData} (F : Fun K "_law_draw" "_law_draw" s_l_draw f fd) (m_abs : mg "abs" = none) : FnOk P w K mg base CX0 1 f fd ["_law_well", "_law_many"] spDraw := by
  refine F.ok sc_l_draw (fun vs H Q E h => ?_) (fun cdv A outer s H vs Q E hr h => ?_)
  · obtain ⟨d, b, m, rfl, _⟩ := h
    rfl
  · obtain ⟨d, b, m, rfl, ⟨x, c, hd, c0, c1⟩, b1, hm, hb, q⟩ := h
    refine ⟨_, (pss_cons (ps_asg (pe_op op_add (pe_ix ix_list (pv 0) pe_int (fun _ _ => rfl)) pe_int) (pg_sub (pv 0) pe_int set_list))
      (pss_cons (ps_if (pt_cmpR op_ge (pe_callB call_abs (by rfl) m_abs (by decide +kernel) (pa_cons (pe_ix ix_list (pv 0) pe_int (fun _ _ => rfl)) pa_nil)) (pe_op op_pow pe_int pe_int) (nomark _))
        (pss_cons (ps_set (i := 2) sc_l_draw.nd rfl (.inl rfl) (pe_op op_mod (pe_ix ix_list (pv 0) pe_int (fun _ _ => rfl)) (pv 1)))
        (pss_cons (ps_asg (pe_op op_fdivW (pe_ix ix_list (pv 0) pe_int (fun _ _ => rfl)) (pv 1)) (pg_sub (pv 0) pe_int set_list))
        (pss_one (ps_ret (pv 2)))))
        pss_nil)
      (Evl.pss_cut (ps_set (i := 3) sc_l_draw.nd rfl (.inl rfl) (pe_op op_mod (pe_op op_mul (pe_op op_add (pe_op op_add (pe_op op_mod (pe_ix ix_list (pv 0) pe_int (fun _ _ => rfl)) pe_int) (pe_op op_mul (pe_op op_mul pe_int (pe_ix ix_list (pv 0) pe_int (fun _ _ => rfl))) (pe_ix ix_list (pv 0) pe_int (fun _ _ => rfl)))) pe_int) pe_int) pe_int))
      (Evl.pss_cut (ps_set (i := 3) sc_l_draw.nd rfl (.inl rfl) (pe_op op_mod (pe_op op_add (pe_op op_mul (pv 3) (pv 3)) (pe_op op_mul pe_int (pe_ix ix_list (pv 0) pe_int (fun _ _ => rfl)))) pe_int))
      (pss_one (ps_ret (pe_op op_mod (pe_op op_fdiv (pv 3) pe_int) (pv 1)))))))), ?_⟩
    refine ⟨.ref d, rfl, d, _, 1, .int c, rfl, rfl, SqL.of hd, rfl, c, 1, rfl, rfl, .ref d, rfl, d, _, 1, 1, rfl, rfl, hd, rfl, ?_⟩
    have hd1 : (upd H d (.lst ([V.int x, .int c].set 1 (.int (c + 1))))) d = some (.lst [.int x, .int (c + 1)]) := upd_same
    have k1 : KW d H (upd H d (.lst ([V.int x, .int c].set 1 (.int (c + 1))))) := fun b o hb e => by rw [upd_ne hb]; exact e
    generalize upd H d (.lst ([V.int x, .int c].set 1 (.int (c + 1)))) = H1 at hd1 k1
    refine ⟨.ref d, rfl, d, _, 0, .int x, rfl, rfl, SqL.of hd1, rfl, x, rfl, 10, 18, rfl, rfl, ⟨by decide, by decide, by decide⟩, _, _, rfl, rfl, _, rfl, ?_⟩
    refine ite2 (fun _ => ?_) (fun _ => ?_)
    · refine ⟨.ref d, rfl, d, _, 0, .int x, rfl, rfl, SqL.of hd1, rfl, .int m, rfl, x, m, rfl, rfl, hm, ?_⟩
      refine ⟨.ref d, rfl, d, _, 0, .int x, rfl, rfl, SqL.of hd1, rfl, .int m, rfl, x, m, rfl, rfl, wide_div hm hb (by decide) (by decide), .ref d, rfl, d, _, 0, 0, rfl, rfl, hd1, rfl, ?_⟩
      exact ⟨_, rfl, q _ _ (mod_rng hm).1 (mod_rng hm).2 ⟨x / m, c + 1, upd_same, by omega, by omega⟩ (k1.trans fun b o hb e => by rw [upd_ne hb]; exact e)⟩
    · refine ⟨fun σ' H' => ∃ N : Int, σ' = [some (.ref d), some (.int m), none, some (.int N)] ∧ 0 ≤ N ∧ N < 2147483647 ∧ H' = H1, ?_, ?_⟩
      · exact ⟨.ref d, rfl, d, _, 0, .int x, rfl, rfl, SqL.of hd1, rfl, x, 2147483629, rfl, rfl, show (0 : Int) < 2147483629 by decide, .ref d, rfl, d, _, 1, .int (c + 1), rfl, rfl, SqL.of hd1, rfl, 7919, c + 1, rfl, rfl, .inl ⟨by decide, by decide⟩, .ref d, rfl, d, _, 1, .int (c + 1), rfl, rfl, SqL.of hd1, rfl, _, c + 1, rfl, rfl, .inr ⟨by omega, by omega⟩, _, _, rfl, rfl, _, 31, rfl, rfl, _, 48271, rfl, rfl, .inr ⟨by decide, by decide⟩, _, 2147483647, rfl, rfl, show (0 : Int) < 2147483647 by decide, _, rfl, (mod_rng (by decide)).1, (mod_rng (by decide)).2, rfl⟩
      rintro σ' H' ⟨N, rfl, N0, N1, rfl⟩
      refine ⟨fun σ' H'' => ∃ M : Int, σ' = [some (.ref d), some (.int m), none, some (.int M)] ∧ 0 ≤ M ∧ H'' = H', ?_, ?_⟩
      · exact ⟨.int N, rfl, .int N, rfl, N, N, rfl, rfl, .inl ⟨by omega, by omega⟩, .ref d, rfl, d, _, 1, .int (c + 1), rfl, rfl, SqL.of hd1, rfl, 69621, c + 1, rfl, rfl, .inl ⟨by decide, by decide⟩, _, _, rfl, rfl, _, 2147483587, rfl, rfl, show (0 : Int) < 2147483587 by decide, _, rfl, (mod_rng (by decide)).1, rfl⟩
      rintro σ' H'' ⟨M, rfl, M0, rfl⟩
      refine ⟨.int M, rfl, M, 64, rfl, rfl, ⟨by decide, by decide⟩, .int m, rfl, _, m, rfl, rfl, hm, ?_⟩
      exact q _ _ (mod_rng hm).1 (mod_rng hm).2 ⟨x, c + 1, hd1, by omega, by omega⟩ k1
theorem ok_l_size {f : Addr} {fd : FuncData} (F : Fun K "_law_size" "_law_size" s_l_size f fd) (M : Free mg) (D_l_cell_at : Df P w K mg base 1 "_law_cell_at" ["_law_script", "_law_k"] (spCell K)) (D_l_draw : Df P w K mg base 1 "_law_draw" ["_law_well", "_law_many"] spDraw) : FnOk P w K mg base CX0 2 f fd ["_law_script"] (spSize K) := by
  obtain ⟨f_l_cell_at, fd_l_cell_at, G_l_cell_at, g_l_cell_at, k_l_cell_at, b_l_cell_at⟩ := D_l_cell_at
  obtain ⟨f_l_draw, fd_l_draw, G_l_draw, g_l_draw, k_l_draw, b_l_draw⟩ := D_l_draw
  refine F.ok sc_l_size (fun vs H Q E h => ?_) (fun cdv A outer s H vs Q E hr h => ?_)
  · obtain ⟨sc, ns, rfl, _⟩ := h
    rfl
  · obtain ⟨sc, ns, rfl, hS, q⟩ := h
    refine ⟨_, (pss_cons (ps_set (i := 1) sc_l_size.nd rfl (.inl rfl) (pe_lst (pa_cons (pe_call G_l_cell_at (hr.mono (by decide)) (by rfl) g_l_cell_at k_l_cell_at b_l_cell_at .nil pass0 (pa_cons (pv 0) (pa_cons pe_int pa_nil))) (pa_cons pe_int pa_nil))))
      (Evl.pss_cut (ps_set (i := 2) sc_l_size.nd rfl (.inl rfl) (pe_callTy call_int1 (by rfl) M.int (by decide +kernel) (pa_cons (pe_cmpR op_eq (pe_call G_l_draw (hr.mono (by decide)) (by rfl) g_l_draw k_l_draw b_l_draw .nil pass0 (pa_cons (pv 1) (pa_cons pe_int pa_nil))) pe_int (nomark _)) pa_nil)))
      (Evl.pss_cut (ps_set (i := 3) sc_l_size.nd rfl (.inl rfl) (pe_op op_add pe_int (pe_call G_l_draw (hr.mono (by decide)) (by rfl) g_l_draw k_l_draw b_l_draw .nil pass0 (pa_cons (pv 1) (pa_cons (pe_ix ix_list (pe_lst (pa_cons pe_int (pa_cons pe_int pa_nil))) (pv 2) (fun _ _ => rfl)) pa_nil)))))
      (Evl.pss_cut (ps_set (i := 4) sc_l_size.nd rfl (.inl rfl) (pe_op op_add pe_int (pe_call G_l_draw (hr.mono (by decide)) (by rfl) g_l_draw k_l_draw b_l_draw .nil pass0 (pa_cons (pv 1) (pa_cons (pe_ix ix_list (pe_lst (pa_cons pe_int (pa_cons pe_int pa_nil))) (pv 2) (fun _ _ => rfl)) pa_nil)))))
      (pss_one (ps_ret (pe_tup (pa_cons (pv 3) (pa_cons (pv 4) (pa_cons (pe_cmpR op_eq (pe_call G_l_draw (hr.mono (by decide)) (by rfl) g_l_draw k_l_draw b_l_draw .nil pass0 (pa_cons (pv 1) (pa_cons pe_int pa_nil))) pe_int (nomark _)) pa_nil)))))))))), ?_⟩
    refine ⟨.ref sc, rfl, sc, ns, 0, rfl, hS, by decide, fun cell => ⟨by show 2 ≤ sizeLine; decide, fun d nd => ?_⟩⟩
    refine ⟨fun σ' H' => ∃ g : Bool, σ' = [some (.ref sc), some (.ref d), some (.int (if g = true then 1 else 0)), none, none] ∧ Well H' d 1 ∧ Same H H', ?_, ?_⟩
    · exact ⟨.ref d, rfl, d, 0, 8, rfl, ⟨cell, 0, upd_same, by decide, by decide⟩, by decide, by decide, by decide, fun v H1 a1 b1 W1 K1 => ⟨rfl, .inr ⟨_, rfl, _, rfl, W1, K1.same (same_new nd) nd⟩⟩⟩
    rintro σ' H1 ⟨g, rfl, W1, s1⟩
    refine ⟨fun σ' H' => ∃ n : Nat, σ' = [some (.ref sc), some (.ref d), some (.int (if g = true then 1 else 0)), some (.int n), none] ∧ 1 ≤ n ∧ n ≤ 40 ∧ Well H' d 2 ∧ Same H H', ?_, ?_⟩
    · refine ⟨.ref d, rfl, by show 2 ≤ sizeLine; decide, fun p np => ⟨_, rfl, p, _, _, _, rfl, rfl, SqL.of upd_same, pick2 _ _ _, ?_⟩⟩
      have W2 := W1.same (same_new (o := .lst [.int 6, .int 40]) np)
      have s2 := s1.trans (same_new (o := .lst [.int 6, .int 40]) np)
      cases g with
      | true =>
        refine ⟨d, 1, 40, rfl, W2, by decide, by decide, by decide, fun v H2 a2 b2 W2 K2 => ⟨1, v, rfl, rfl, (1 + v).toNat, ?_, by omega, by omega, W2, K2.same s2 nd⟩⟩
        rw [show (((1 + v).toNat : Nat) : Int) = 1 + v from by omega]
        rfl
      | false =>
        refine ⟨d, 1, 6, rfl, W2, by decide, by decide, by decide, fun v H2 a2 b2 W2 K2 => ⟨1, v, rfl, rfl, (1 + v).toNat, ?_, by omega, by omega, W2, K2.same s2 nd⟩⟩
        rw [show (((1 + v).toNat : Nat) : Int) = 1 + v from by omega]
        rfl
    rintro σ' H2 ⟨n, rfl, n1, n2, W2, s2⟩
    refine ⟨fun σ' H' => ∃ de : Int, σ' = [some (.ref sc), some (.ref d), some (.int (if g = true then 1 else 0)), some (.int n), some (.int de)] ∧ 4 ≤ de ∧ de ≤ 203 ∧ Well H' d 3 ∧ Same H H', ?_, ?_⟩
    · refine ⟨.ref d, rfl, by show 2 ≤ sizeLine; decide, fun p np => ⟨_, rfl, p, _, _, _, rfl, rfl, SqL.of upd_same, pick2 _ _ _, ?_⟩⟩
      have W3 := W2.same (same_new (o := .lst [.int 22, .int 200]) np)
      have s3 := s2.trans (same_new (o := .lst [.int 22, .int 200]) np)
      cases g with
      | true => exact ⟨d, 2, 200, rfl, W3, by decide, by decide, by decide, fun v H2 a2 b2 W2 K2 => ⟨4, v, rfl, rfl, 4 + v, rfl, by omega, by omega, W2, K2.same s3 nd⟩⟩
      | false => exact ⟨d, 2, 22, rfl, W3, by decide, by decide, by decide, fun v H2 a2 b2 W2 K2 => ⟨4, v, rfl, rfl, 4 + v, rfl, by omega, by omega, W2, K2.same s3 nd⟩⟩
    rintro σ' H3 ⟨de, rfl, d1, d2, W3, s3⟩
    refine ⟨.int n, rfl, .int de, rfl, .ref d, rfl, d, 3, 4, rfl, W3, by decide, by decide, by decide, fun v H4 a4 b4 W4 K4 => ⟨rfl, by show 3 ≤ sizeLine; decide, fun r nr => ?_⟩⟩
    exact q r n de _ _ ((K4.same s3 nd).trans (same_new nr)) upd_same n1 n2 d1 d2
theorem ok_l_deed {f : Addr} {fd : FuncData} (F : Fun K "_law_deed" "_law_deed" s_l_deed f fd) (M : Free mg) (D_l_cell_at : Df P w K mg base 1 "_law_cell_at" ["_law_script", "_law_k"] (spCell K)) (D_l_draw : Df P w K mg base 1 "_law_draw" ["_law_well", "_law_many"] spDraw) : FnOk P w K mg base CX0 2 f fd ["_law_script", "_law_k", "_law_many", "_law_ties", "_law_goes_round"] (spDeed K) := by
  obtain ⟨f_l_cell_at, fd_l_cell_at, G_l_cell_at, g_l_cell_at, k_l_cell_at, b_l_cell_at⟩ := D_l_cell_at
  obtain ⟨f_l_draw, fd_l_draw, G_l_draw, g_l_draw, k_l_draw, b_l_draw⟩ := D_l_draw
  refine F.ok sc_l_deed (fun vs H Q E h => ?_) (fun cdv A outer s H vs Q E hr h => ?_)
  · obtain ⟨sc, L, ns, k, n, us, ts, b, rfl, _⟩ := h
    rfl
  · obtain ⟨sc, L, ns, k, n, us, ts, b, rfl, hS, k0, k1, n1, n2, hL, hp, ok, few, qn, qt⟩ := h
    refine ⟨_, (pss_cons (ps_set (i := 5) sc_l_deed.nd rfl (.inl rfl) (pe_lst (pa_cons (pe_call G_l_cell_at (hr.mono (by decide)) (by rfl) g_l_cell_at k_l_cell_at b_l_cell_at .nil pass0 (pa_cons (pv 0) (pa_cons (pe_op op_add pe_int (pe_op op_mod (pv 1) pe_int)) pa_nil))) (pa_cons (pe_op op_add (pe_op op_mul pe_int (pv 1)) pe_int) pa_nil))))
      (pss_cons (ps_set (i := 6) sc_l_deed.nd rfl (.inl rfl) (pe_call G_l_draw (hr.mono (by decide)) (by rfl) g_l_draw k_l_draw b_l_draw .nil pass0 (pa_cons (pv 5) (pa_cons pe_int pa_nil))))
      (Evl.pss_cut (ps_if (PW.pt (pw_and (pt_cmpR op_gt (pv 1) pe_int (nomark _)) (pw_and1 (pt_cmpR op_gt (pe_call G_l_draw (hr.mono (by decide)) (by rfl) g_l_draw k_l_draw b_l_draw .nil pass0 (pa_cons (pv 5) (pa_cons pe_int pa_nil))) pe_int (nomark _)))))
        (pss_cons (ps_set (i := 5) sc_l_deed.nd rfl (.inl rfl) (pe_lst (pa_cons (pe_op op_add (pe_op op_fdivW (pe_call G_l_cell_at (hr.mono (by decide)) (by rfl) g_l_cell_at k_l_cell_at b_l_cell_at .nil pass0 (pa_cons (pv 0) (pa_cons (pe_op op_add pe_int (pe_op op_mod (pv 1) pe_int)) pa_nil))) (pe_op op_pow pe_int pe_int)) (pv 1)) (pa_cons (pe_op op_add (pe_op op_mul pe_int (pv 1)) pe_int) pa_nil))))
        (pss_one (ps_set (i := 6) sc_l_deed.nd rfl (.inl rfl) (pe_call G_l_draw (hr.mono (by decide)) (by rfl) g_l_draw k_l_draw b_l_draw .nil pass0 (pa_cons (pv 5) (pa_cons pe_int pa_nil))))))
        pss_nil)
      (Evl.pss_cut (ps_set (i := 7) sc_l_deed.nd rfl (.inl rfl) (pe_ix ix_list (pe_lst (pa_cons pe_str (pa_cons pe_str pa_nil))) (pe_call G_l_draw (hr.mono (by decide)) (by rfl) g_l_draw k_l_draw b_l_draw .nil pass0 (pa_cons (pv 5) (pa_cons pe_int pa_nil))) (fun _ _ => rfl)))
      (Evl.pss_cut (ps_if (PW.pt (pw_or (pt_cmpR op_eq (pv 2) pe_int (nomark _)) (pw_or (pt_cmpR op_gt (pe_callB call_len_seq (by rfl) M.len PySem.boot_len (pa_cons (pv 3) pa_nil)) pe_int (nomark _)) (pw_or1 (PW.pt (pw_and (pt_cmpR op_lt (pv 6) pe_int (nomark _)) (pw_and1 (pt_cmpR op_gt (pe_call G_l_draw (hr.mono (by decide)) (by rfl) g_l_draw k_l_draw b_l_draw .nil pass0 (pa_cons (pv 5) (pa_cons pe_int pa_nil))) pe_int (nomark _)))))))))
        (pss_one (ps_ret pe_non))
        pss_nil)
      (pss_cons (ps_set (i := 8) sc_l_deed.nd rfl (.inl rfl) (pe_call G_l_draw (hr.mono (by decide)) (by rfl) g_l_draw k_l_draw b_l_draw .nil pass0 (pa_cons (pv 5) (pa_cons (pv 2) pa_nil))))
      (Evl.pss_cut (ps_set (i := 9) sc_l_deed.nd rfl (.inl rfl) (pe_op op_mod (pe_op op_add (pe_op op_add (pv 8) pe_int) (pe_call G_l_draw (hr.mono (by decide)) (by rfl) g_l_draw k_l_draw b_l_draw .nil pass0 (pa_cons (pv 5) (pa_cons (pe_op op_sub (pv 2) pe_int) pa_nil)))) (pv 2)))
      (Evl.pss_cut (ps_if (PW.pt (pw_and (pt_val (pv 4)) (pw_and1 (pt_cmpR op_gt (pv 6) pe_int (nomark _)))))
        (pss_cons (ps_set (i := 8) sc_l_deed.nd rfl (.inl rfl) (pe_op op_mod (pe_op op_add (pe_callB call_len_seq (by rfl) M.len PySem.boot_len (pa_cons (pv 3) pa_nil)) (pe_call G_l_draw (hr.mono (by decide)) (by rfl) g_l_draw k_l_draw b_l_draw .nil pass0 (pa_cons (pv 5) (pa_cons pe_int pa_nil)))) (pv 2)))
        (pss_one (ps_set (i := 9) sc_l_deed.nd rfl (.inl rfl) (pe_op op_mod (pe_op op_add (pv 8) pe_int) (pv 2)))))
        pss_nil)
      (Evl.pss_cut (ps_if (PW.pt (pw_and (pt_cmpR op_eq (pv 6) pe_int (nomark _)) (pw_and1 (pt_cmpR (op_neE hr.units0) (pv 3) (pe_lst pa_nil) (nomark _)))))
        (pss_one (ps_asg (pe_slice sl_tupU (pe_ix ix_list (pv 3) (pe_call G_l_draw (hr.mono (by decide)) (by rfl) g_l_draw k_l_draw b_l_draw .nil pass0 (pa_cons (pv 5) (pa_cons (pe_callB call_len_seq (by rfl) M.len PySem.boot_len (pa_cons (pv 3) pa_nil)) pa_nil))) (fun _ _ => rfl)) po_none (po_some pe_int)) (pg_tup rfl (pgs_cons (pg_name (i := 8) sc_l_deed.nd rfl (.inl rfl)) (pgs_cons (pg_name (i := 9) sc_l_deed.nd rfl (.inl rfl)) pgs_nil)))))
        pss_nil)
      (pss_one (ps_ret (pe_ix ix_list (pe_lst (pa_cons (pe_tup (pa_cons (pv 8) (pa_cons (pv 9) (pa_cons (pv 7) pa_nil)))) (pa_cons (pe_tup (pa_cons (pv 9) (pa_cons (pv 8) (pa_cons (pv 7) pa_nil)))) pa_nil))) (pe_call G_l_draw (hr.mono (by decide)) (by rfl) g_l_draw k_l_draw b_l_draw .nil pass0 (pa_cons (pv 5) (pa_cons pe_int pa_nil))) (fun _ _ => rfl))))))))))))), ?_⟩
    have lu : us.length = ts.length := Paired.length hp
    refine ⟨.ref sc, rfl, .int k, rfl, k, 62, rfl, rfl, (show (0 : Int) < 62 by decide), 1, _, rfl, rfl, sc, ns, _, rfl, hS, by have := (mod_rng (a := k) (m := 62) (by decide)).1; omega, fun cell => ⟨.int k, rfl, 90, k, rfl, rfl, .inl ⟨by decide, by decide⟩, _, 11, rfl, rfl, by show 2 ≤ sizeLine; decide, fun d nd => ?_⟩⟩
    refine ⟨.ref d, rfl, d, 90 * k + 11, 9, rfl, ⟨cell, 90 * k + 11, upd_same, by omega, by omega⟩, by omega, by decide, by decide, fun way H1 a1 b1 W1 K1 => ?_⟩
    have s1 := K1.same (same_new nd) nd
    -- another well
    refine ⟨fun σ' H' => ∃ (d : Addr) (way : Int), σ' = [some (.ref sc), some (.int k), some (.int n), some (.ref L), some (.bl b), some (.ref d), some (.int way), none, none, none] ∧ H d = none ∧ Well H' d 20000 ∧ Same H H', ?_, ?_⟩
    · refine ⟨.int k, rfl, k, 61, rfl, rfl, _, rfl, ?_⟩
      have wk : ∀ {H' : Hp} {d : Addr} {x : Int}, Well H' d x → x ≤ 20000 → Well H' d 20000 := fun ⟨x, c, e1, e2, e3⟩ h => ⟨x, c, e1, e2, by omega⟩
      refine ite2 (fun _ => ?_) (fun _ => ⟨d, way, rfl, nd, wk W1 (by omega), s1⟩)
      refine ⟨.ref d, rfl, d, _, 3, rfl, W1, by omega, by decide, by decide, fun v H2 a2 b2 W2 K2 => ⟨v, 0, rfl, rfl, _, rfl, ?_⟩⟩
      have s2 := K2.same s1 nd
      refine ite2 (fun _ => ?_) (fun _ => ⟨d, way, rfl, nd, wk W2 (by omega), s2⟩)
      refine ⟨.ref sc, rfl, .int k, rfl, k, 62, rfl, rfl, (show (0 : Int) < 62 by decide), 1, _, rfl, rfl, sc, ns, _, rfl, s2.seq hS, by have := (mod_rng (a := k) (m := 62) (by decide)).1; omega, fun cell2 => ?_⟩
      refine ⟨10, 18, rfl, rfl, ⟨by decide, by decide, by decide⟩, _, _, rfl, rfl, wide_div (b := 61) (by decide) (by decide) (by decide) (by decide), .int k, rfl, _, k, rfl, rfl, .int k, rfl, 90, k, rfl, rfl, .inl ⟨by decide, by decide⟩, _, 47, rfl, rfl, by show 2 ≤ sizeLine; decide, fun d2 nd2 => ?_⟩
      have nd2H := s2.free nd2
      refine ⟨.ref d2, rfl, d2, 90 * k + 47, 9, rfl, ⟨_, 90 * k + 47, upd_same, by omega, by omega⟩, by omega, by decide, by decide, fun way2 H3 a3 b3 W3 K3 => ?_⟩
      exact ⟨d2, way2, rfl, nd2H, wk W3 (by omega), K3.same (s2.trans (same_new nd2)) nd2H⟩
    clear W1 K1 s1 nd a1 b1 way H1 d
    rintro σ' H1 ⟨d, way, rfl, nd, W1, s1⟩
    -- kind
    refine ⟨fun σ' H' => ∃ fo : Bool, σ' = [some (.ref sc), some (.int k), some (.int n), some (.ref L), some (.bl b), some (.ref d), some (.int way), some (.str (kindS fo)), none, none] ∧ Well H' d 20001 ∧ Same H H', ?_, ?_⟩
    · refine ⟨by show 2 ≤ sizeLine; decide, fun p np => ⟨.ref d, rfl, d, 20000, 2, rfl, W1.same (same_new np), by decide, by decide, by decide, fun v H2 a2 b2 W2 K2 => ?_⟩⟩
      have hpd : p ≠ d := by
        obtain ⟨x, c, e, _⟩ := W1
        exact (ne_of_none e np).symm
      have e5 : atI [V.str "friend", V.str "foe"] v = some (.str (kindS (decide (v = 1)))) := by
        have h01 : v = 0 ∨ v = 1 := by omega
        rcases h01 with e | e <;> subst e <;> rfl
      exact ⟨p, _, v, _, rfl, rfl, SqL.of (K2 _ _ hpd upd_same), e5, _, rfl, W2, K2.same (s1.trans (same_new np)) nd⟩
    clear W1 s1 H1
    rintro σ' H1 ⟨fo, rfl, W1, s1⟩
    refine ⟨fun σ' H' => σ' = [some (.ref sc), some (.int k), some (.int n), some (.ref L), some (.bl b), some (.ref d), some (.int way), some (.str (kindS fo)), none, none] ∧ Well H' d 20002 ∧ Same H H' ∧ 1 < n ∧ ts.length ≤ 119, ?_, ?_⟩
    · refine ⟨.int n, rfl, rfl, _, rfl, ?_⟩
      by_cases hn : (n : Int) = 1
      · rw [decide_eq_true (show V.int (n : Int) = V.int 1 by rw [hn])]
        exact qn _ s1
      rw [decide_eq_false (show ¬ V.int (n : Int) = V.int 1 from fun z => hn (V.int.inj z))]
      refine ⟨.ref L, rfl, L, us, rfl, .inl (SqL.of (s1 _ _ hL)), _, 119, rfl, rfl, _, rfl, ?_⟩
      by_cases hl : (119 : Int) < us.length
      · rw [decide_eq_true hl]
        exact qn _ s1
      rw [decide_eq_false hl]
      refine ⟨.int way, rfl, way, 2, rfl, rfl, _, rfl, ?_⟩
      have wk : Well H1 d 20002 := by
        obtain ⟨x, c, e1, e2, e3⟩ := W1
        exact ⟨x, c, e1, e2, by omega⟩
      refine ite2 (fun _ => ?_) (fun _ => ⟨rfl, wk, s1, by omega, by omega⟩)
      refine ⟨.ref d, rfl, d, _, 4, rfl, W1, by decide, by decide, by decide, fun v H2 a2 b2 W2 K2 => ⟨v, 0, rfl, rfl, _, rfl, ?_⟩⟩
      have s2 := K2.same s1 nd
      exact ite2 (fun _ => qn _ s2) (fun _ => ⟨rfl, W2, s2, by omega, by omega⟩)
    clear W1 s1 H1
    rintro σ' H1 ⟨rfl, W1, s1, hn, hl⟩
    refine ⟨.ref d, rfl, .int n, rfl, d, _, n, rfl, W1, by decide, by omega, by omega, fun one H2 a2 b2 W2 K2 => ?_⟩
    have s2 := K2.same s1 nd
    refine ⟨fun σ' H' => ∃ oth : Int, σ' = [some (.ref sc), some (.int k), some (.int n), some (.ref L), some (.bl b), some (.ref d), some (.int way), some (.str (kindS fo)), some (.int one), some (.int oth)] ∧ TieOk n ⟨one, oth, fo⟩ ∧ Well H' d 20004 ∧ Same H H', ?_, ?_⟩
    · exact ⟨.int one, rfl, one, 1, rfl, rfl, .ref d, rfl, .int n, rfl, n, 1, rfl, rfl, d, _, (n : Int) - 1, rfl, W2, by decide, by omega, by omega, fun v H3 a3 b3 W3 K3 => ⟨one + 1, v, rfl, rfl, .int n, rfl, _, n, rfl, rfl, show (0 : Int) < n by omega, _, rfl, ⟨a2, b2, (mod_rng (by omega)).1, (mod_rng (by omega)).2, other_ne a2 b2 a3 b3⟩, W3, K3.same s2 nd⟩⟩
    clear W1 s1 W2 s2 K2 H1 H2
    rintro σ' H1 ⟨oth, rfl, okt, W1, s1⟩
    refine ⟨fun σ' H' => ∃ one oth : Int, σ' = [some (.ref sc), some (.int k), some (.int n), some (.ref L), some (.bl b), some (.ref d), some (.int way), some (.str (kindS fo)), some (.int one), some (.int oth)] ∧ TieOk n ⟨one, oth, fo⟩ ∧ Well H' d 20005 ∧ Same H H', ?_, ?_⟩
    · have wk : Well H1 d 20005 := by
        obtain ⟨x, c, e1, e2, e3⟩ := W1
        exact ⟨x, c, e1, e2, by omega⟩
      refine ⟨.bl b, rfl, _, rfl, ?_⟩
      cases b with
      | false => exact ⟨one, oth, rfl, okt, wk, s1⟩
      | true =>
        refine ⟨.int way, rfl, way, 3, rfl, rfl, _, rfl, ?_⟩
        refine ite2 (fun _ => ?_) (fun _ => ⟨one, oth, rfl, okt, wk, s1⟩)
        refine ⟨.ref L, rfl, L, us, rfl, .inl (SqL.of (s1 _ _ hL)), .ref d, rfl, d, _, 2, rfl, W1, by decide, by decide, by decide, fun v H2 a3 b3 W2 K2 => ⟨_, v, rfl, rfl, .int n, rfl, _, n, rfl, rfl, show (0 : Int) < n by omega, ?_⟩⟩
        have m1 := mod_rng (a := (us.length : Int) + v) (m := n) (by omega)
        refine ⟨_, rfl, _, 1, rfl, rfl, .int n, rfl, _, n, rfl, rfl, show (0 : Int) < n by omega, _, _, rfl, ⟨m1.1, m1.2, (mod_rng (by omega)).1, (mod_rng (by omega)).2, ?_⟩, W2, K2.same s1 nd⟩
        have := other_ne (b := 0) m1.1 m1.2 (by decide) (by omega)
        rw [Int.add_zero] at this
        exact this
    clear W1 s1 H1 okt oth
    clear a2 b2 one
    rintro σ' H1 ⟨one, oth, rfl, okt, W1, s1⟩
    refine ⟨fun σ' H' => ∃ one oth : Int, σ' = [some (.ref sc), some (.int k), some (.int n), some (.ref L), some (.bl b), some (.ref d), some (.int way), some (.str (kindS fo)), some (.int one), some (.int oth)] ∧ TieOk n ⟨one, oth, fo⟩ ∧ Well H' d 20006 ∧ Same H H', ?_, ?_⟩
    · have wk : ∀ {H' : Hp} {x : Int}, Well H' d x → x ≤ 20006 → Well H' d 20006 := fun ⟨x, c, e1, e2, e3⟩ h => ⟨x, c, e1, e2, by omega⟩
      refine ⟨.int way, rfl, rfl, _, rfl, ?_⟩
      refine ite2 (fun _ => ?_) (fun _ => ⟨one, oth, rfl, okt, wk W1 (by omega), s1⟩)
      refine ⟨.ref L, rfl, Nat.zero_le _, fun p np => ⟨L, p, us, rfl, rfl, SqL.of (same_new np _ _ (s1 _ _ hL)), SqL.of upd_same, _, rfl, ?_⟩⟩
      have s2 := s1.trans (same_new (o := .lst []) np)
      have W2 := W1.same (same_new (o := .lst []) np)
      cases hus : us with
      | nil => exact ⟨one, oth, rfl, okt, wk W2 (by omega), s2⟩
      | cons z zs =>
        have hb : (!(z :: zs).isEmpty) = true := rfl
        rw [hb]
        have hpos : 0 < us.length := by rw [hus]; simp
        refine ⟨.ref L, rfl, .ref d, rfl, .ref L, rfl, L, us, rfl, .inl (SqL.of (s2 _ _ hL)), d, _, us.length, rfl, W2, by decide, by omega, by omega, fun v H3 a3 b3 W3 K3 => ?_⟩
        have s3 := K3.same s2 nd
        obtain ⟨x, e1, e2⟩ := getI a3 b3
        obtain ⟨t, e3, a, rfl, e4⟩ := Paired.at hp e2
        have ot := ok t (List.mem_of_getElem? e3)
        refine ⟨L, us, v, _, rfl, rfl, SqL.of (s3 _ _ hL), e1, 2, rfl, a, _, rfl, s3 _ _ e4, fun r H4 s4 h4 => ?_⟩
        exact ⟨r, _, rfl, SqT.of h4, rfl, _, _, rfl, _, _, rfl, rfl, t.one, t.other, rfl, ot, wk (W3.same s4) (by omega), s3.trans s4⟩
    clear W1 s1 H1 okt oth one
    rintro σ' H1 ⟨one, oth, rfl, okt, W1, s1⟩
    refine ⟨.int one, rfl, .int oth, rfl, .str (kindS fo), rfl, by show 3 ≤ sizeLine; decide, fun p1 m1 => ⟨.int oth, rfl, .int one, rfl, .str (kindS fo), rfl, by show 3 ≤ sizeLine; decide, fun p2 m2 => ⟨by show 2 ≤ sizeLine; decide, fun p3 m3 => ?_⟩⟩⟩
    have e1 := same_new (o := .tup [.int one, .int oth, .str (kindS fo)]) m1
    have e2 := same_new (o := .tup [.int oth, .int one, .str (kindS fo)]) m2
    have e3 := same_new (o := .lst [.ref p1, .ref p2]) m3
    have s3 := ((s1.trans e1).trans e2).trans e3
    have W3 := ((W1.same e1).same e2).same e3
    have hpd : p3 ≠ d := by
      obtain ⟨x, c, e, _⟩ := (W1.same e1).same e2
      exact (ne_of_none e m3).symm
    have q1 := e3 _ _ (e2 _ _ (upd_same (H := H1) (a := p1) (o := .tup [.int one, .int oth, .str (kindS fo)])))
    have q2 := e3 _ _ (upd_same (H := upd H1 p1 (.tup [.int one, .int oth, .str (kindS fo)])) (a := p2) (o := .tup [.int oth, .int one, .str (kindS fo)]))
    have q3 := upd_same (H := upd (upd H1 p1 (.tup [.int one, .int oth, .str (kindS fo)])) p2 (.tup [.int oth, .int one, .str (kindS fo)])) (a := p3) (o := .lst [.ref p1, .ref p2])
    have pd : ∀ {a : Addr} {xs : List V} {H' : Hp}, H' a = some (.tup xs) → Well H' d 20006 → a ≠ d := fun h ⟨x, c, e, _⟩ => ne_of h e (by intro z; cases z)
    have pd1 := pd q1 W3
    have pd2 := pd q2 W3
    refine ⟨.ref d, rfl, d, _, 2, rfl, W3, by decide, by decide, by decide, fun v H4 a4 b4 W4 K4 => ?_⟩
    have s4 := K4.same s3 nd
    have h01 : v = 0 ∨ v = 1 := by omega
    rcases h01 with e | e
    · subst e
      exact ⟨p3, _, 0, _, rfl, rfl, SqL.of (K4 _ _ hpd q3), rfl, qt p1 ⟨one, oth, fo⟩ _ s4 (K4 _ _ pd1 q1) okt hl⟩
    · subst e
      exact ⟨p3, _, 1, _, rfl, rfl, SqL.of (K4 _ _ hpd q3), rfl, qt p2 ⟨oth, one, fo⟩ _ s4 (K4 _ _ pd2 q2) ⟨okt.2.2.1, okt.2.2.2.1, okt.1, okt.2.1, Ne.symm okt.2.2.2.2⟩ hl⟩
end
/-! ### webs as data -/
def tieD (t : Tie) : PyData := .tuple [.int t.one, .int t.other, .str (kindS t.foe)]
def webD (n : Int) (ts : List Tie) : PyData := .tuple [.int n, .tuple (ts.map tieD)]
theorem kind_ok (b : Bool) : (PyData.str (kindS b)).canLay0 = true ∧ (kindS b).cps.size ≤ 100 := by cases b <;> decide +kernel
theorem dp_ties {K : PySem.W.Frag} {H : Hp} : ∀ {vs : List V} {ts : List Tie}, Paired (TieV H) vs ts → DpAll K H vs (ts.map tieD)
  | _, _, .nil => .nil
  | _, _, .cons r t => by
    obtain ⟨a, rfl, e⟩ := r
    exact .cons (.tup (SqT.of e) (.cons (.int _) (.cons (.int _) (.cons (.str _) .nil)))) (dp_ties t)
theorem WebAt.dp {K : PySem.W.Frag} {H : Hp} {v : V} {n : Int} {ts : List Tie} (h : WebAt H v n ts) : Dp K H v (webD n ts) := by
  obtain ⟨a, b, vs, rfl, h1, h2, h3⟩ := h
  exact .tup (SqT.of h1) (.cons (.int _) (.cons (.tup (SqT.of h2) (dp_ties h3)) .nil))
theorem lay_tie (t : Tie) : (tieD t).canLay0 = true := by
  unfold tieD
  have h := (kind_ok t.foe).1
  simp only [PyData.canLay0, PyData.canLayAll0, Bool.true_and, Bool.and_true] at h ⊢
  exact h
theorem lay_ties : ∀ ts : List Tie, PyData.canLayAll0 (ts.map tieD) = true
  | [] => by simp [PyData.canLayAll0]
  | t :: ts => by rw [List.map_cons, PyData.canLayAll0, lay_tie t, lay_ties ts]; rfl
theorem lay_web (n : Int) (ts : List Tie) : (webD n ts).canLay0 = true := by
  unfold webD
  rw [PyData.canLay0, PyData.canLayAll0, PyData.canLayAll0, PyData.canLay0, PyData.canLay0, lay_ties, PyData.canLayAll0]
  rfl
theorem deep_ties : ∀ ts : List Tie, PyData.depthAll (ts.map tieD) ≤ 1
  | [] => by simp [PyData.depthAll]
  | t :: ts => by
    have h := deep_ties ts
    have g : (tieD t).depth = 1 := by simp [tieD, PyData.depth, PyData.depthAll]
    rw [List.map_cons, PyData.depthAll, g]
    omega
theorem shaped_web (n : Int) (ts : List Tie) : SeqAt.shaped (webD n ts) = true := by
  have h := deep_ties ts
  have d : (webD n ts).depth ≤ 3 := by
    simp only [webD, PyData.depth, PyData.depthAll]
    omega
  unfold SeqAt.shaped
  rw [lay_web]
  simp
  omega
/-! ### rows of numbers, in lists -/
def listD (xs : List Int) : PyData := .list (xs.map PyData.int)
theorem shaped_listD (xs : List Int) : SeqAt.shaped (listD xs) = true := by
  unfold SeqAt.shaped listD
  rw [PyData.canLay0, PyData.depth, lay_ints, deep_ints]
  rfl
theorem eqvAll_ints : ∀ xs ys : List Int, PyData.eqvAll (xs.map PyData.int) (ys.map PyData.int) = decide (xs = ys)
  | [], [] => by simp [PyData.eqvAll]
  | [], y :: ys => by simp [PyData.eqvAll]
  | x :: xs, [] => by simp [PyData.eqvAll]
  | x :: xs, y :: ys => by
    rw [List.map_cons, List.map_cons, PyData.eqvAll, eqvAll_ints xs ys, PyData.eqv]
    by_cases h1 : x = y <;> by_cases h2 : xs = ys <;> simp [h1, h2]
theorem eqv_listD (xs ys : List Int) : PyData.eqv (listD xs) (listD ys) = decide (xs = ys) := by
  unfold listD
  rw [PyData.eqv]
  exact eqvAll_ints xs ys
theorem filter_rng_succ (p : Int → Bool) (i : Nat) : ((rng (i + 1)).filter p).map V.int = ((rng i).filter p).map V.int ++ (if p i = true then [V.int i] else []) := by
  rw [rng_succ, List.filter_append, List.map_append, List.filter_cons]
  by_cases h : p i = true
  · rw [if_pos h, if_pos h]
    rfl
  · rw [if_neg h, if_neg h]
    rfl
theorem filter_rng_len (p : Int → Bool) (i : Nat) : ((rng i).filter p).length ≤ i := by
  have := List.length_filter_le p (rng i)
  rw [rng_length] at this
  exact this
/-! ### the stand: what is kept, its sides, and between -/
theorem snocInd {α : Type} {p : List α → Prop} (h0 : p []) (h1 : ∀ l a, p l → p (l ++ [a])) (l : List α) : p l := by
  have : ∀ (n : Nat) (l : List α), l.length = n → p l := fun n => by
    induction n with
    | zero =>
      intro l hl
      rw [List.length_eq_zero_iff.mp hl]
      exact h0
    | succ n ih =>
      intro l hl
      have hne : l ≠ [] := fun z => by rw [z] at hl; cases hl
      rw [← List.dropLast_concat_getLast hne]
      exact h1 _ _ (ih _ (by rw [List.length_dropLast]; omega))
  exact this _ l rfl
theorem kt_map {ts : List Tie} : ∀ {fl : List Bool}, ts.length = fl.length → kt ts fl = (knT fl true).map fun m => tieN ts m.toNat := by
  refine snocInd (p := fun ts => ∀ {fl : List Bool}, ts.length = fl.length → kt ts fl = (knT fl true).map fun m => tieN ts m.toNat) ?_ ?_ ts
  · intro fl h
    have : fl = [] := List.length_eq_zero_iff.mp (by rw [← h]; rfl)
    subst this
    rfl
  · intro ts t ih fl h
    have hf : fl ≠ [] := fun z => by
      rw [z] at h
      simp at h
    obtain ⟨fl', b, rfl⟩ : ∃ l a, fl = l ++ [a] := ⟨fl.dropLast, fl.getLast hf, (List.dropLast_concat_getLast hf).symm⟩
    have hl : ts.length = fl'.length := by simpa using h
    rw [kt_snoc hl, knT_snoc, List.map_append, ih hl]
    congr 1
    · refine List.map_congr_left fun m hm => ?_
      have := (mem_knT.mp hm).1
      unfold tieN
      rw [List.getD_eq_getElem?_getD, List.getD_eq_getElem?_getD, List.getElem?_append_left (by omega)]
    · cases b
      · rfl
      · rw [if_pos rfl, if_pos rfl]
        unfold tieN
        rw [List.map_cons, List.map_nil, List.getD_eq_getElem?_getD, Int.toNat_natCast, ← hl, List.getElem?_append_right (Nat.le_refl _)]
        simp
theorem kt_len {ts : List Tie} {fl : List Bool} (h : ts.length = fl.length) : (kt ts fl).length ≤ ts.length := by
  rw [kt_map h, List.length_map]
  have := knT_len fl true
  omega
theorem SI.webOk {n : Nat} {ts : List Tie} {fl : List Bool} (h : SI n ts fl) : WebOk n (kt ts fl) := by
  have a := h.n1
  have b := h.n40
  have c := kt_len h.len
  have d := h.few
  exact ⟨by omega, by omega, by omega, fun t ht => h.ok t (kt_sub ht)⟩
def spSKept (C : Addr) : Sp := fun vs H Q _ => ∃ (p T Kk Lo : Addr) (n : Nat) (ts : List Tie) (fl : List Bool), vs = [.ref p] ∧ StA C H p T Kk Lo n ts fl ∧ SI n ts fl ∧ ∀ v H', Same H H' → WebAt H' v n (kt ts fl) → Q v H'
def spSSides (C : Addr) : Sp := fun vs H Q _ => ∃ (p T Kk Lo : Addr) (n : Nat) (ts : List Tie) (fl : List Bool), vs = [.ref p] ∧ StA C H p T Kk Lo n ts fl ∧ SI n ts fl ∧ ∀ ss r H', Told (kt ts fl) n ss → Cons ss (kt ts fl) → Same H H' → H' r = some (.tup (ss.map V.int)) → Q (.ref r) H'
def spSBetween (C : Addr) : Sp := fun vs H Q _ => ∃ (p T Kk Lo : Addr) (n : Nat) (ts : List Tie) (fl : List Bool) (x y : Int), vs = [.ref p, .int x, .int y] ∧ StA C H p T Kk Lo n ts fl ∧ SI n ts fl ∧ (0 ≤ x ∧ x < n) ∧
  (∀ H', ¬ Rch (kt ts fl) x y → Same H H' → Q .non H') ∧ ∀ b H', RP (kt ts fl) x y b → Same H H' → Q (.str (if b = true then "apart" else "together")) H'
section
variable {P : Program} {w : World} {K : PySem.W.Frag} {mg : Str → Option Value} {base : Heap}
theorem ok_S_kept {f C : Addr} {fd : FuncData} (F : Fun K "kept_web" "Stand.kept_web" s_Stand_kept_web f fd) (T : STx K C) (M : Free mg) : FnOk P w K mg base CX0 1 f fd ["self"] (spSKept C) := by
  refine F.ok sc_Stand_kept_web (fun vs H Q E h => ?_) (fun cdv A outer s H vs Q E hr h => ?_)
  · obtain ⟨p, Ti, Kk, Lo, n, ts, fl, rfl, _⟩ := h
    rfl
  · obtain ⟨p, Ti, Kk, Lo, n, ts, fl, rfl, S, si, q⟩ := h
    refine ⟨_, (pss_one (ps_ret (pe_tup (pa_cons (pe_fld (pv 0) rfl) (pa_cons (pe_callTy call_tuple_of (by rfl) M.tuple (by decide +kernel) (pa_cons (pe_lc (own := [("number", 1)]) (g := gName 1) (tt := tYes) (te := tOp (rIxL K) (tFld K (tVar 0) "ties") (tVar 1)) rfl sc_Stand_kept_web.nd (pi_list (pe_fld (pv 0) rfl)) (blkOk_by (N := N_Stand_kept_web) (sc := defScope s_Stand_kept_web) (own := [("number", 1)]) (by decide +kernel)) (fun _ _ _ _ _ => (pg_name (i := 1) sc_Stand_kept_web.nd rfl (.inl rfl))) (fun _ _ _ _ _ => pts_nil) (fun _ _ _ _ _ => (pe_ix (r := rIxL K) ix_list (pe_fld (pv 0) rfl) (pv 1) (fun _ _ => rfl)))) pa_nil)) pa_nil))))), ?_⟩
    obtain ⟨dx, h1⟩ := id S.ob
    obtain ⟨us, h2, hp⟩ := id S.hT
    have lu : us.length = ts.length := Paired.length hp
    have few := si.few
    refine ⟨.ref p, rfl, p, C, dx, _, _, rfl, h1, T.cl, T.nM, stF_many _ _ _ _, ?_⟩
    refine ⟨.ref p, rfl, p, C, dx, _, _, rfl, h1, T.cl, T.nK, stF_kept _ _ _ _, Kk, rfl, ⟨_, SqL.of S.hK⟩, fun Z nZ => ?_⟩
    refine lc_list (xs := (knT fl true).map V.int) (fun j H' => ∃ ws, H' Z = some (.lst ws) ∧ Paired (TieV H') ws (((knT fl true).take j).map fun m => tieN ts m.toNat) ∧ Same H H') ⟨[], upd_same, .nil, same_new nZ⟩ (fun j H' _ h => by
      obtain ⟨ws, _, _, s1⟩ := h
      exact SqL.of (s1 _ _ S.hK)) ?_ ?_
    · rintro j x H1 ex ⟨ws, hZ, hw, s1⟩
      rw [List.getElem?_map] at ex
      obtain ⟨m, em, rfl⟩ := Option.map_eq_some_iff.mp ex
      have hm := (mem_knT.mp (List.mem_of_getElem? em)).1
      have hl := si.len
      have hmu : m.toNat < us.length := by omega
      obtain ⟨t, et, ht⟩ := Paired.at (ties_tk (Same.tk s1) hp) (List.getElem?_eq_getElem hmu)
      have lw : ws.length ≤ 120 := by
        have := Paired.length hw
        have h3 := knT_len fl true
        rw [List.length_map, List.length_take] at this
        omega
      refine ⟨rfl, .ref p, rfl, p, C, dx, _, _, rfl, s1 _ _ h1, T.cl, T.nT, stF_ties _ _ _ _, .int m, rfl, Ti, us, m, us[m.toNat], rfl, rfl, SqL.of (s1 _ _ h2), atI_of hm.1 (List.getElem?_eq_getElem hmu), ws, hZ, small1000 (by omega), ?_⟩
      refine ⟨ws ++ [us[m.toNat]], upd_same, ?_, Same.mut s1 nZ⟩
      rw [List.take_add_one, em, Option.toList_some, List.map_append]
      refine Paired.snoc (ties_tk (tk_lst hZ) hw) ?_
      show TieV _ _ (tieN ts m.toNat)
      rw [tieN_of et]
      exact TieV.tk (tk_lst hZ) ht
    · rintro H1 ⟨ws, hZ, hw, s1⟩
      rw [List.length_map, List.take_length, ← kt_map si.len] at hw
      refine ⟨Z, ws, rfl, .inl ⟨SqL.of hZ, fun Y nY => ⟨by show 2 ≤ sizeLine; decide, fun r nr => ?_⟩⟩⟩
      have s2 := (same_new (o := .tup ws) nY).trans (same_new (o := .tup [.int n, .ref Y]) nr)
      exact q _ _ (s1.trans s2) ⟨r, Y, ws, rfl, upd_same, same_new nr _ _ upd_same, ties_tk (Same.tk s2) hw⟩
theorem ok_S_sides {f C : Addr} {fd : FuncData} (F : Fun K "sides" "Stand.sides" s_Stand_sides f fd) (T : STx K C) (D_kept : DfM P w K mg base 1 C "kept_web" ["self"] (spSKept C)) (D_sides : Df P w K mg base 3 "sides_of" ["web"] spFixed) : FnOk P w K mg base CX0 4 f fd ["self"] (spSSides C) := by
  obtain ⟨fW, fdW, GW, mW, bW⟩ := D_kept
  obtain ⟨f_s, fd_s, G_s, g_s, k_s, b_s⟩ := D_sides
  refine F.ok sc_Stand_sides (fun vs H Q E h => ?_) (fun cdv A outer s H vs Q E hr h => ?_)
  · obtain ⟨p, Ti, Kk, Lo, n, ts, fl, rfl, _⟩ := h
    rfl
  · obtain ⟨p, Ti, Kk, Lo, n, ts, fl, rfl, S, si, q⟩ := h
    refine ⟨_, (pss_one (ps_ret (pe_call G_s hr (by rfl) g_s k_s b_s .nil pass0 (pa_cons (pe_meth0 (pv 0) T.cl mW GW (hr.mono (by decide)) bW .nil pass0) pa_nil)))), ?_⟩
    obtain ⟨dx, h1⟩ := id S.ob
    refine ⟨.ref p, rfl, p, dx, _, rfl, h1, stF_no _ _ _ _ (by decide +kernel) (by decide +kernel) (by decide +kernel) (by decide +kernel), p, Ti, Kk, Lo, n, ts, fl, rfl, S, si, fun v H1 s1 hW => ?_⟩
    exact ⟨v, n, kt ts fl, rfl, hW, si.webOk, fun ss r H2 t c s2 hr2 => q ss r H2 t c (s1.trans s2) hr2, fun H2 o _ => absurd o si.calm⟩
theorem ok_S_between {f C : Addr} {fd : FuncData} (F : Fun K "between" "Stand.between" s_Stand_between f fd) (T : STx K C) (D_kept : DfM P w K mg base 1 C "kept_web" ["self"] (spSKept C)) (D_nb : Df P w K mg base 1 "neighbours" ["web"] spNeighbours) (D_from : Df P w K mg base 1 "sides_from" ["start", "around"] spSidesFrom) : FnOk P w K mg base CX0 2 f fd ["self", "one", "other"] (spSBetween C) := by
  obtain ⟨fW, fdW, GW, mW, bW⟩ := D_kept
  obtain ⟨f_n, fd_n, G_n, g_n, k_n, b_n⟩ := D_nb
  obtain ⟨f_s, fd_s, G_s, g_s, k_s, b_s⟩ := D_from
  refine F.ok sc_Stand_between (fun vs H Q E h => ?_) (fun cdv A outer s H vs Q E hr h => ?_)
  · obtain ⟨p, Ti, Kk, Lo, n, ts, fl, x, y, rfl, _⟩ := h
    rfl
  · obtain ⟨p, Ti, Kk, Lo, n, ts, fl, x, y, rfl, S, si, hx, qn, qb⟩ := h
    have hu := room1 hr
    refine ⟨_, (pss_cons (ps_set (i := 3) sc_Stand_between.nd rfl (.inl rfl) (pe_call G_s hr (by rfl) g_s k_s b_s .nil pass0 (pa_cons (pv 1) (pa_cons (pe_call G_n hr (by rfl) g_n k_n b_n .nil pass0 (pa_cons (pe_meth0 (pv 0) T.cl mW GW hr bW .nil pass0) pa_nil)) pa_nil))))
      (pss_cons (ps_if (pt_cmp (pc_dnotin hu (pv 2) (pv 3))) (pss_one (ps_ret pe_non)) pss_nil)
      (pss_one (ps_ret (pe_ifExp (pt_cmpR op_eq (pe_dget hu (pv 3) (pv 2) (fun _ _ => rfl)) pe_int (nomark _)) pe_str pe_str))))), ?_⟩
    obtain ⟨dx, h1⟩ := id S.ob
    refine ⟨.int x, rfl, .ref p, rfl, p, dx, _, rfl, h1, stF_no _ _ _ _ (by decide +kernel) (by decide +kernel) (by decide +kernel) (by decide +kernel), p, Ti, Kk, Lo, n, ts, fl, rfl, S, si, fun v H1 s1 hW => ?_⟩
    refine ⟨v, n, kt ts fl, rfl, hW, si.webOk, fun v2 H2 hA s2 => ?_⟩
    refine ⟨v2, n, x, kt ts fl, rfl, hA, si.webOk, hx.1, hx.2, fun d ks H3 nd hd s3 so => ?_⟩
    have s13 := (s1.trans s2).trans s3
    refine ⟨.int y, rfl, .ref d, rfl, d, _, rfl, DGet.k (k := Sum.inl y) hd, _, rfl, ?_⟩
    by_cases hy : y ∈ ks.map (·.1)
    · obtain ⟨⟨z, b⟩, hz, rfl⟩ := List.mem_map.mp hy
      have vp := kvOf_some so.nd hz
      rw [vp]
      refine ⟨.ref d, rfl, .int z, rfl, d, _, rfl, (by rw [← vp]; exact DGet.k (k := Sum.inl z) hd), rfl, _, rfl, ?_⟩
      have := qb b H3 (so.rp _ hz) s13
      cases b
      · exact this
      · exact this
    · rw [kvOf_none hy]
      exact qn H3 (fun r => hy ((so.all y).mpr r)) s13
end
/-! ### the stand under a row of deeds -/
theorem GS.calm_step {ts : List Tie} {n : Nat} {g s : Int → Int} (h : GS ts n g s true) (okts : ∀ t ∈ ts, TieOk n t) {t : Tie} (ok : TieOk n t) (k : Kps ts t) : ¬ Odd (ts ++ [t]) n := by
  have st := h.step okts ok rfl rfl rfl
  have kk := (h.keeps ok).mp k
  have e : (if min (g t.one) (g t.other) = max (g t.one) (g t.other) then true && decide ((s t.one + s t.other + (if t.foe = true then 1 else 0)) % 2 = 0) else true) = true := by
    by_cases c : g t.one = g t.other
    · rw [if_pos (by omega), Bool.true_and, decide_eq_true_iff]
      rcases kk with kk | kk
      · exact absurd c kk
      · rw [← kk]
        unfold bit
        rcases h.bn t.one ok.1 ok.2.1 with a1 | a1 <;> rcases h.bn t.other ok.2.2.1 ok.2.2.2.1 with b1 | b1 <;> rw [a1, b1] <;> decide
    · rw [if_neg (by omega)]
  rw [e] at st
  exact st.calm
theorem SI.nil {n : Nat} (h1 : 1 ≤ n) (h2 : n ≤ 40) : SI n [] [] := ⟨rfl, Nat.zero_le _, fun t ht => by simp at ht, (GS.nil n).calm, h1, h2⟩
theorem SI.okk {n : Nat} {ts : List Tie} {fl : List Bool} (h : SI n ts fl) : ∀ t ∈ kt ts fl, TieOk n t := fun t ht => h.ok t (kt_sub ht)
theorem SI.gs {n : Nat} {ts : List Tie} {fl : List Bool} (h : SI n ts fl) {g s : Int → Int} {good : Bool} (gs : GS (kt ts fl) n g s good) : GS (kt ts fl) n g s true := by
  cases good
  · exact absurd (gs.no rfl) h.calm
  · exact gs
theorem SI.more {n : Nat} {ts : List Tie} {fl : List Bool} (h : SI n ts fl) {g s : Int → Int} (gs : GS (kt ts fl) n g s true) {t : Tie} (ok : TieOk n t) (few : ts.length ≤ 119) {f : Bool} (hf : f = true → Kps (kt ts fl) t) : SI n (ts ++ [t]) (fl ++ [f]) := by
  have hl := h.len
  refine ⟨by simp [hl], by simp; omega, fun x hx => ?_, ?_, h.n1, h.n40⟩
  · rcases List.mem_append.mp hx with z | z
    · exact h.ok x z
    · rw [List.mem_singleton.mp z]
      exact ok
  · rw [kt_snoc h.len]
    cases f
    · rw [if_neg (by simp), List.append_nil]
      exact h.calm
    · rw [if_pos rfl]
      exact gs.calm_step h.okk ok (hf rfl)
theorem SI.less {n : Nat} {ts : List Tie} {fl : List Bool} {t : Tie} {f : Bool} (h : SI n (ts ++ [t]) (fl ++ [f])) : SI n ts fl := by
  have hl : ts.length = fl.length := by
    have := h.len
    simp at this
    exact this
  have few := h.few
  rw [List.length_append] at few
  refine ⟨hl, by omega, fun x hx => h.ok x (List.mem_append_left _ hx), fun o => h.calm (o.mono fun x hx => ?_), h.n1, h.n40⟩
  rw [kt_snoc hl]
  exact List.mem_append_left _ hx
theorem StA.tk {C : Addr} {H H' : Hp} {p T Kk Lo : Addr} {n : Nat} {ts : List Tie} {fl : List Bool} (S : StA C H p T Kk Lo n ts fl) (k : KS p T Kk Lo H H') : Tk H H' := fun b xs e => by
  obtain ⟨dx, h1⟩ := S.ob
  obtain ⟨us, h2, _⟩ := S.hT
  exact k b _ (ne_of e h1 (by intro z; cases z)) (ne_of e h2 (by intro z; cases z)) (ne_of e S.hK (by intro z; cases z)) (ne_of e S.hL (by intro z; cases z)) e
theorem StA.put {C : Addr} {H : Hp} {p T Kk Lo a : Addr} {n : Nat} {ts : List Tie} {fl : List Bool} {xs ys : List V} (S : StA C H p T Kk Lo n ts fl) (h : H a = some (.lst xs)) (n1 : a ≠ T) (n2 : a ≠ Kk) (n3 : a ≠ Lo) : StA C (upd H a (.lst ys)) p T Kk Lo n ts fl := by
  obtain ⟨⟨dx, h1⟩, ⟨us, h2, h3⟩, h4, h5, e1, e2, e3⟩ := S
  refine ⟨⟨dx, ?_⟩, ⟨us, ?_, ties_tk (tk_lst h) h3⟩, ?_, ?_, e1, e2, e3⟩
  · rw [upd_ne (ne_of h1 h (by intro z; cases z))]
    exact h1
  · rw [upd_ne (Ne.symm n1)]
    exact h2
  · rw [upd_ne (Ne.symm n2)]
    exact h4
  · rw [upd_ne (Ne.symm n3)]
    exact h5
theorem zip_snoc {α β : Type} {a : α} {b : β} : ∀ {as : List α} {bs : List β}, as.length = bs.length → (as ++ [a]).zip (bs ++ [b]) = as.zip bs ++ [(a, b)]
  | [], [], _ => rfl
  | x :: as, y :: bs, h => by
    have ih := zip_snoc (a := a) (b := b) (as := as) (bs := bs) (by simpa using h)
    show (x, y) :: (as ++ [a]).zip (bs ++ [b]) = _
    rw [ih]
    rfl
theorem unsnoc {α : Type} : ∀ {l : List α}, l ≠ [] → ∃ l' a, l = l' ++ [a] := fun {l} h => ⟨l.dropLast, l.getLast h, (List.dropLast_concat_getLast h).symm⟩
/-- the law's own lists beside the stand: L its ties, M what it kept -/
theorem KS.keep {p T Kk Lo : Addr} {H0 H H' : Hp} (k : KS p T Kk Lo H H') (s : Same H0 H) (n0 : H0 p = none) (n1 : H0 T = none) (n2 : H0 Kk = none) (n3 : H0 Lo = none) : Same H0 H' := fun b o e => k b o (ne_of_none e n0) (ne_of_none e n1) (ne_of_none e n2) (ne_of_none e n3) (s b o e)
section
variable {P : Program} {w : World} {K : PySem.W.Frag} {mg : Str → Option Value} {base : Heap}
end
/-! ### sorted(t) of a tuple of ints -/
section
open PySem PySem.Spec PyProof.Rows SrtO
variable {prog : Program} {w : World} {A : PySem.Around} {E : Value → Shared → Prop} {s : Shared}
theorem collect_tupT {l : Addr} {vs : List Value} {Q : List Value → Shared → Prop} (hl : s.heap.IsTuple l vs.toArray)
    (h : Q vs { s with heap := (s.heap.push (seqObj "list" #[] 0)).update s.heap.objs.size (Obj.mapSeq (· ++ vs.toArray)) }) (hsz : vs.length ≤ sizeLine) :
    wpAny (model prog w) A (collect (.ref l)) Q E s := by
  obtain ⟨o, ho, hc, n, hd⟩ := id hl
  unfold collect
  refine wpAny_bind (wpAny_runValue (codeAny_builtin entry_proto_collect' ?_))
  show wpAny _ _ (do again (.builtin "list.__iadd__" ⟨[← newList [], .ref l], []⟩)) _ _ s
  refine wpAny_bind (wpAny_newList (wpAny_pure ⟨Code.quiet_builtin _ (by decide +kernel), codeAny_builtin entry_list_iadd' ?_⟩))
  show wpAny _ _ (Builtin.List.listExtendWith (.ref s.heap.objs.size) (.ref l) (.ref s.heap.objs.size)) _ _ { s with heap := s.heap.push (seqObj "list" #[] 0) }
  unfold Builtin.List.listExtendWith
  have ho' : (s.heap.push (seqObj "list" #[] 0)).get? l = some o := Heap.get?_push_of_some _ ho
  refine wpAny_bind (wpAny_typeOf (T := "tuple") ⟨o, ho', hc⟩ ?_)
  have ht : (Value.type "tuple" == Value.type "tuple") = true := by rfl
  rw [if_pos (by rw [ht]; simp)]
  refine wpAny_bind (listItems_at ho' hd ?_)
  refine wpAny_bind (listItems_at (xs := #[]) (n := 0) (Heap.get?_push_size _ rfl) rfl ?_)
  rw [if_neg (by simp)]
  refine wpAny_bind (listUpdate_at (xs := #[]) (n := 0) (Heap.get?_push_size _ rfl) rfl ?_ (Nat.zero_le _) (by show (#[] ++ vs.toArray).size ≤ sizeLine + 1; simp only [Array.size_append, List.size_toArray, List.length_nil]; omega))
  refine wpAny_pure ?_
  show wpAny (model prog w) A (do
      let o ← load s.heap.objs.size
      match o.data with
      | .seq xs _ => pure xs.toList
      | _ => unsupported "internal:collect") Q E { s with heap := (s.heap.push (seqObj "list" #[] 0)).update s.heap.objs.size (Obj.mapSeq (· ++ vs.toArray)) }
  refine wpAny_bind (wpAny_load (get?_update_seq (Heap.get?_push_size _ rfl) _) ?_)
  show wpAny _ _ (pure ((#[] : Array Value) ++ vs.toArray).toList) Q E _
  rw [show ((#[] : Array Value) ++ vs.toArray).toList = vs by simp]
  exact wpAny_pure h
theorem sorted_ordT {l : Addr} {vs : List Value} {ltv : Value → Value → Bool} {Q : Value → Shared → Prop} (O : Swo ltv) (hl : s.heap.IsTuple l vs.toArray) (hz : vs.length ≤ sizeLine)
    (hS : 2 ≤ vs.length → ∀ (h₁ : Heap) (a : Addr), h₁.get? a = some (seqObj "list" vs.toArray 0) → (∀ b o, s.heap.get? b = some o → b ≠ a ∧ h₁.get? b = some o) → SortableO prog w A.in1.in1 { s with heap := h₁ } a vs ltv)
    (h : ∀ out : List Value, Srtd ltv out → Stb ltv out vs → Q (.ref (s.heap.objs.size + 1)) { s with heap := sortedAll s.heap vs out.toArray }) :
    wpAny (model prog w) A (call (.builtin "sorted") [.ref l]) Q E s := by
  refine Calls.call_function_entry kind_sorted plain_sorted entry_sorted (args_sorted1 _) ?_
  unfold Builtin.«sorted»
  refine wpAny_bind (m := checkCount "sorted" 1 1 _) (wpAny_pure ?_)
  refine wpAny_bind (collect_tupT hl ?_ hz)
  refine wpAny_bind (wpAny_newList ?_ hz)
  have hsz : ((s.heap.push (seqObj "list" #[] 0)).update s.heap.objs.size (Obj.mapSeq (· ++ vs.toArray))).objs.size = s.heap.objs.size + 1 := by
    rw [Heap.size_update, size_push']
  have hoL : (((s.heap.push (seqObj "list" #[] 0)).update s.heap.objs.size (Obj.mapSeq (· ++ vs.toArray))).push (seqObj "list" vs.toArray 0)).get? (s.heap.objs.size + 1) = some (seqObj "list" vs.toArray 0) := by
    rw [← hsz]; exact Heap.get?_push_size _ rfl
  have keep : ∀ b o, s.heap.get? b = some o → b ≠ s.heap.objs.size + 1 ∧ (((s.heap.push (seqObj "list" #[] 0)).update s.heap.objs.size (Obj.mapSeq (· ++ vs.toArray))).push (seqObj "list" vs.toArray 0)).get? b = some o := fun b o q => by
    have hlt : b < s.heap.objs.size := Heap.lt_size q
    refine ⟨Nat.ne_of_lt (Nat.lt_succ_of_lt hlt), Heap.get?_push_of_some _ ?_⟩
    rw [Heap.get?_update_ne _ _ _ _ (Nat.ne_of_lt hlt)]
    exact Heap.get?_push_of_some _ q
  show wpAny _ _ _ _ _ { s with heap := ((s.heap.push (seqObj "list" #[] 0)).update s.heap.objs.size (Obj.mapSeq (· ++ vs.toArray))).push (seqObj "list" vs.toArray 0) }
  rw [hsz]
  refine wpAny_bind (wpAny_holding (wpAny_call_entry slot_list_sort ⟨_, hoL, rfl⟩ entry_list_sort (list_sort_ord O hoL hz (fun h2 => hS h2 _ _ hoL keep) fun out hs hb => ⟨_, rfl, ?_⟩) (args_list_sort _)))
  exact wpAny_pure ⟨_, rfl, h out hs hb⟩
end
def rSortedTI (K : PySem.W.Frag) : List V → Hp → VK → Prop := fun vs H Q => ∃ (a : Addr) (ns : List Int), vs = [V.ref a] ∧ SqT K H a (ns.map V.int) ∧
  ∀ (ns' : List Int) (p : Addr), ns'.Perm ns → ns'.Pairwise (· ≤ ·) → H p = none → Q (.ref p) (upd H p (.lst (ns'.map V.int)))
theorem cr_sortedTI {X : Cx} : CallR X (.builtin "sorted") (rSortedTI X.K) := by
  intro pins s σ H vs us Q I r h
  obtain ⟨a, ns, rfl, hs, q⟩ := h
  obtain ⟨its, rv, hl, hz⟩ := I.tuple hs
  rw [Vals.ref1 r]
  have hi := rv.ints
  refine sorted_ordT SrtO.swo_int hl (by rw [← rv.length]; exact hz) (fun h2 h₁ a' _ _ => SrtO.ints_sortable hi h2) fun out h1 h2 => ?_
  obtain ⟨k1, k2, k3⟩ := SrtO.ints_out hi h1 h2
  obtain ⟨ep, he'⟩ := PyProof.Rows.sortedAll_at s.heap its out.toArray
  have hlen : ((out.map SrtO.iv).map V.int).length ≤ sizeLine := by
    rw [List.length_map, k2.length_eq]
    rw [List.length_map] at hz
    exact hz
  exact ⟨.ref _, upd H (s.heap.objs.size + 1) (.lst ((out.map SrtO.iv).map V.int)), I.laid (t' := s.toks) (fun _ _ => PyProof.Rows.sortedAll_old) (Nat.le_succ _) ⟨hlen, out, ep, vals_of_ints k1, he'⟩, rfl, q _ _ k2 k3 (I.hok.fresh (Nat.le_succ _))⟩
/-! ### the ring that is told, by its way (mathematics) -/
theorem Way.head {N : Int → List Nu} {e s : Int} {qs ns : List Int} (h : Way N e s qs ns) : qs[0]? = some s := by cases h <;> rfl
theorem Way.last {N : Int → List Nu} {e s : Int} {qs ns : List Int} (h : Way N e s qs ns) : qs[ns.length]? = some e := by
  induction h with
  | one => rfl
  | cons _ _ _ ih => simpa using ih
theorem Way.each {N : Int → List Nu} {e s : Int} {qs ns : List Int} (h : Way N e s qs ns) : ∀ k : Nat, k < ns.length → ∃ x y m, qs[k]? = some x ∧ qs[k + 1]? = some y ∧ ns[k]? = some m ∧ (y, m) ∈ N x := by
  induction h with
  | one => exact fun k hk => absurd hk (by simp)
  | cons w hm _ ih =>
    intro k hk
    cases k with
    | zero => exact ⟨_, _, _, rfl, by simpa using w.head, rfl, hm⟩
    | succ k =>
      obtain ⟨x, y, m, h1, h2, h3, h4⟩ := ih k (by simpa using hk)
      exact ⟨x, y, m, by simpa using h1, by simpa using h2, by simpa using h3, h4⟩
theorem Way.nd {N : Int → List Nu} {e s : Int} {qs ns : List Int} (h : Way N e s qs ns) : qs.Nodup := by
  induction h with
  | one => simp
  | cons _ _ hp ih => exact List.nodup_cons.mpr ⟨hp, ih⟩
theorem Way.ends {ts : List Tie} {kn : List Int} {e s : Int} {qs ns : List Int} (h : Way (nN ts kn) e s qs ns) : ∀ m ∈ ns, (tieN ts m.toNat).one ∈ qs ∧ (tieN ts m.toNat).other ∈ qs := by
  induction h with
  | one => exact fun m hm => absurd hm (by simp)
  | cons w hm _ ih =>
    intro m hmm
    rcases List.mem_cons.mp hmm with z | z
    · subst z
      obtain ⟨_, j⟩ := mem_nN.mp hm
      have hc := List.mem_of_getElem? w.head
      rcases j with ⟨j1, j2⟩ | ⟨j1, j2⟩
      · rw [j1, j2]
        exact ⟨List.mem_cons_self, List.mem_cons_of_mem _ hc⟩
      · rw [j1, j2]
        exact ⟨List.mem_cons_of_mem _ hc, List.mem_cons_self⟩
    · obtain ⟨h1, h2⟩ := ih m z
      exact ⟨List.mem_cons_of_mem _ h1, List.mem_cons_of_mem _ h2⟩
theorem Way.ndn {ts : List Tie} {kn : List Int} {e s : Int} {qs ns : List Int} (h : Way (nN ts kn) e s qs ns) : ns.Nodup := by
  induction h with
  | one => simp
  | cons w hm hp ih =>
    refine List.nodup_cons.mpr ⟨fun hin => ?_, ih⟩
    obtain ⟨h1, h2⟩ := w.ends _ hin
    obtain ⟨_, j⟩ := mem_nN.mp hm
    rcases j with ⟨j1, j2⟩ | ⟨j1, j2⟩
    · exact hp (by rw [← j1]; exact h1)
    · exact hp (by rw [← j2]; exact h2)
theorem tieN_left {ts : List Tie} {t : Tie} {m : Int} (h : m < (ts.length : Int)) (h0 : 0 ≤ m) : tieN (ts ++ [t]) m.toNat = tieN ts m.toNat := by
  unfold tieN
  rw [List.getD_eq_getElem?_getD, List.getD_eq_getElem?_getD, List.getElem?_append_left (by omega)]
theorem tieN_right (ts : List Tie) (t : Tie) : tieN (ts ++ [t]) (ts.length : Int).toNat = t := by
  unfold tieN
  rw [List.getD_eq_getElem?_getD, Int.toNat_natCast, List.getElem?_append_right (Nat.le_refl _)]
  simp
/-- a ring through the tie that comes -/
structure RingN (n : Nat) (ts : List Tie) (fl : List Bool) (t : Tie) (qs ms : List Int) : Prop where
  len : qs.length = ms.length
  two : 2 ≤ qs.length
  few : ms.length ≤ 121
  own : (ts.length : Int) ∈ ms
  q : ∀ x ∈ qs, 0 ≤ x ∧ x < (n : Int)
  m : ∀ x ∈ ms, x ∈ knT fl true ∨ x = (ts.length : Int)
  qd : qs.Nodup
  md : ms.Nodup
  each : ∀ k : Nat, k < ms.length → ∃ x y m, qs[k]? = some x ∧ qs[(k + 1) % qs.length]? = some y ∧ ms[k]? = some m ∧ Jn (tieN (ts ++ [t]) m.toNat) x y
  par : fpar (ts ++ [t]) ms = true
theorem Way.ring {n : Nat} {ts : List Tie} {fl : List Bool} {t : Tie} {qs ns : List Int} (h : Way (nN ts (knT fl true)) t.other t.one qs ns) (hl : ts.length = fl.length) (few : ts.length ≤ 120) (ok : ∀ t ∈ ts, TieOk n t) (okt : TieOk n t) (hp : (fpar ts ns ^^ t.foe) = true) : RingN n ts fl t qs (ns ++ [(ts.length : Int)]) := by
  have hlen := h.len
  have num := h.num
  have kin : ∀ m ∈ knT fl true, 0 ≤ m ∧ m < (ts.length : Int) := fun m hm => by
    have := (mem_knT.mp hm).1
    omega
  have hne : ns ≠ [] := fun z => by
    have h1 := h.last
    rw [z, List.length_nil, h.head] at h1
    exact okt.2.2.2.2 (Option.some.inj h1)
  have hpos : 0 < ns.length := List.length_pos_iff.mpr hne
  have qrng : ∀ x ∈ qs, 0 ≤ x ∧ x < (n : Int) := by
    intro x hx
    obtain ⟨i, hi⟩ := List.getElem?_of_mem hx
    have hil : i < qs.length := (List.getElem?_eq_some_iff.mp hi).1
    by_cases hin : i < ns.length
    · obtain ⟨x', y, m, h1, h2, h3, h4⟩ := h.each i hin
      rw [hi] at h1
      obtain rfl := Option.some.inj h1
      obtain ⟨hm, j⟩ := mem_nN.mp h4
      have hm2 := kin m hm
      have o := ok (tieN ts m.toNat) (by
        unfold tieN
        rw [List.getD_eq_getElem?_getD, List.getElem?_eq_getElem (by omega)]
        exact List.getElem_mem _)
      rcases j with ⟨j1, _⟩ | ⟨_, j2⟩
      · rw [← j1]
        exact ⟨o.1, o.2.1⟩
      · rw [← j2]
        exact ⟨o.2.2.1, o.2.2.2.1⟩
    · have : i = ns.length := by omega
      rw [this, h.last] at hi
      rw [← Option.some.inj hi]
      exact ⟨okt.2.2.1, okt.2.2.2.1⟩
  have mlt : ns.length ≤ 120 := by
    have q1 : ns.length ≤ (knT fl true).length := by
      have : ∀ (as bs : List Int), as.Nodup → (∀ x ∈ as, x ∈ bs) → as.length ≤ bs.length := fun as => by
        induction as with
        | nil => exact fun _ _ _ => Nat.zero_le _
        | cons a as ih =>
          intro bs nd hs
          rw [List.nodup_cons] at nd
          have ha := hs a (by simp)
          have := ih (bs.erase a) nd.2 fun x hx => (List.mem_erase_of_ne (fun z => nd.1 (by rw [← z]; exact hx))).mpr (hs x (List.mem_cons_of_mem _ hx))
          rw [List.length_erase_of_mem ha] at this
          have : 0 < bs.length := List.length_pos_of_mem ha
          rw [List.length_cons]
          omega
      exact this _ _ h.ndn num
    have := knT_len fl true
    omega
  refine ⟨by simp [hlen], by omega, by simp; omega, by simp, qrng, fun x hx => ?_, h.nd, ?_, fun k hk => ?_, ?_⟩
  · rcases List.mem_append.mp hx with z | z
    · exact .inl (num x z)
    · exact .inr (List.mem_singleton.mp z)
  · refine List.nodup_append.mpr ⟨h.ndn, by simp, fun a ha b hb => ?_⟩
    rw [List.mem_singleton.mp hb]
    have := kin a (num a ha)
    omega
  · rw [List.length_append] at hk
    by_cases hin : k < ns.length
    · obtain ⟨x, y, m, h1, h2, h3, h4⟩ := h.each k hin
      obtain ⟨hm, j⟩ := mem_nN.mp h4
      have hm2 := kin m hm
      refine ⟨x, y, m, h1, ?_, ?_, ?_⟩
      · rw [Nat.mod_eq_of_lt (by omega)]
        exact h2
      · rw [List.getElem?_append_left hin]
        exact h3
      · rw [tieN_left hm2.2 hm2.1]
        exact j
    · have : k = ns.length := by simp at hk; omega
      subst this
      refine ⟨t.other, t.one, (ts.length : Int), h.last, ?_, ?_, ?_⟩
      · rw [hlen, Nat.mod_self]
        exact h.head
      · rw [List.getElem?_append_right (Nat.le_refl _)]
        simp
      · rw [tieN_right]
        exact .inr ⟨rfl, rfl⟩
  · rw [fpar_snoc, tieN_right, ← hp]
    congr 1
    have e2 : ∀ ms : List Int, (∀ m ∈ ms, m ∈ knT fl true) → fpar (ts ++ [t]) ms = fpar ts ms := fun ms => by
      induction ms with
      | nil => exact fun _ => rfl
      | cons m ms ih =>
        intro hm
        show ((tieN (ts ++ [t]) m.toNat).foe ^^ fpar (ts ++ [t]) ms) = ((tieN ts m.toNat).foe ^^ fpar ts ms)
        have := kin m (hm m (by simp))
        rw [tieN_left this.2 this.1, ih fun x hx => hm x (List.mem_cons_of_mem _ hx)]
    exact e2 ns num
theorem cntF_snoc (ts : List Tie) (ms : List Int) (m : Int) : ((cntF ts (ms ++ [m]) : Nat) : Int) = (cntF ts ms : Nat) + (if (tieN ts m.toNat).foe = true then 1 else 0) := by
  unfold cntF
  rw [List.filter_append, List.length_append]
  cases h : (tieN ts m.toNat).foe
  · rw [List.filter_cons_of_neg (by simp [h])]
    simp
  · rw [List.filter_cons_of_pos (by simp [h])]
    simp
theorem jn_sort {T : Tie} {x y : Int} (j : Jn T x y) : [min T.one T.other, max T.one T.other] = [min x y, max x y] := by
  rcases j with ⟨h1, h2⟩ | ⟨h1, h2⟩
  · rw [h1, h2]
  · rw [h1, h2, Int.min_comm, Int.max_comm]
/-! ### the first tie that breaks (mathematics) -/
theorem sides_walk {ts : List Tie} {s : Int → Bool} (h : ∀ t ∈ ts, (s t.one ^^ s t.other) = t.foe) {x y : Int} {p : Bool} (r : RP ts x y p) : (s x ^^ s y) = p := by
  induction r with
  | nil => exact Bool.xor_self _
  | step r ad ih =>
    obtain ⟨t, ht, e, q⟩ := ad
    have hy := h t ht
    rw [← e, ← hy]
    rcases q with ⟨q1, q2⟩ | ⟨q1, q2⟩
    · rw [q1, q2, ← ih]
      exact xor3 _ _ _
    · rw [q1, q2, ← ih]
      exact xor3' _ _ _
theorem gs_ex {n : Nat} {ts : List Tie} : (∀ t ∈ ts, TieOk n t) → ∃ g s good, GS ts n g s good := by
  refine snocInd (p := fun ts => (∀ t ∈ ts, TieOk n t) → ∃ g s good, GS ts n g s good) (fun _ => ⟨_, _, _, GS.nil n⟩) (fun l a ih ok => ?_) ts
  obtain ⟨g, s, good, gs⟩ := ih fun t ht => ok t (List.mem_append_left _ ht)
  exact ⟨_, _, _, gs.step (fun t ht => ok t (List.mem_append_left _ ht)) (ok a (by simp)) rfl rfl rfl⟩
theorem calm_gs {n : Nat} {ts : List Tie} (ok : ∀ t ∈ ts, TieOk n t) (h : ¬ Odd ts n) : ∃ g s, GS ts n g s true := by
  obtain ⟨g, s, good, gs⟩ := gs_ex ok
  cases good
  · exact absurd (gs.no rfl) h
  · exact ⟨g, s, gs⟩
theorem calm_iff {n : Nat} {ts : List Tie} (ok : ∀ t ∈ ts, TieOk n t) : ¬ Odd ts n ↔ ∃ s : Int → Bool, ∀ t ∈ ts, (s t.one ^^ s t.other) = t.foe := by
  constructor
  · intro h
    obtain ⟨g, s, gs⟩ := calm_gs ok h
    exact ⟨fun i => bit (s i), gs.yes rfl⟩
  · rintro ⟨s, hs⟩ ⟨x, _, r⟩
    have := sides_walk hs r
    rw [Bool.xor_self] at this
    cases this
theorem kps_calm {n : Nat} {ts : List Tie} {t : Tie} (ok : ∀ t ∈ ts, TieOk n t) (okt : TieOk n t) (h : ¬ Odd ts n) : Kps ts t ↔ ¬ Odd (ts ++ [t]) n := by
  constructor
  · intro k
    obtain ⟨g, s, gs⟩ := calm_gs ok h
    exact gs.calm_step ok okt k
  · intro o
    by_cases r : Rch ts t.one t.other
    · obtain ⟨p, rp⟩ := r
      refine .inr ?_
      obtain ⟨s, hs⟩ := (calm_iff (ts := ts ++ [t]) (fun x hx => by
        rcases List.mem_append.mp hx with z | z
        · exact ok x z
        · rw [List.mem_singleton.mp z]
          exact okt)).mp o
      have h1 := sides_walk (fun x hx => hs x (List.mem_append_left _ hx)) rp
      have h2 := hs t (by simp)
      rw [h1] at h2
      rw [← h2]
      exact rp
    · exact .inl r
def FirstAt (ts : List Tie) (n k : Nat) : Prop := k < ts.length ∧ ¬ Odd (ts.take k) n ∧ Odd (ts.take (k + 1)) n
theorem take_mono {ts : List Tie} {i j : Nat} (h : i ≤ j) : ∀ t ∈ ts.take i, t ∈ ts.take j := fun t ht => by
  have : ts.take i = (ts.take j).take i := by rw [List.take_take, Nat.min_eq_left h]
  rw [this] at ht
  exact List.mem_of_mem_take ht
theorem FirstAt.one {ts : List Tie} {n i j : Nat} (a : FirstAt ts n i) (b : FirstAt ts n j) : i = j := by
  by_cases h : i < j
  · exact absurd (Odd.mono (take_mono (by omega : i + 1 ≤ j)) a.2.2) b.2.1
  · by_cases h2 : j < i
    · exact absurd (Odd.mono (take_mono (by omega : j + 1 ≤ i)) b.2.2) a.2.1
    · omega
theorem FirstAt.odd {ts : List Tie} {n k : Nat} (a : FirstAt ts n k) : Odd ts n := Odd.mono (fun _ ht => List.mem_of_mem_take ht) a.2.2
theorem kt_all : ∀ ts : List Tie, kt ts (List.replicate ts.length true) = ts
  | [] => rfl
  | t :: ts => by
    show (if true = true then t :: kt ts (List.replicate ts.length true) else kt ts (List.replicate ts.length true)) = t :: ts
    rw [if_pos rfl, kt_all ts]
theorem kt_takeAll {ts : List Tie} {i : Nat} (h : i ≤ ts.length) : kt (ts.take i) (List.replicate i true) = ts.take i := by
  have e : i = (ts.take i).length := by rw [List.length_take, Nat.min_eq_left h]
  conv => lhs; rw [show List.replicate i true = List.replicate (ts.take i).length true by rw [← e]]
  exact kt_all _
theorem rep_snoc (i : Nat) : List.replicate (i + 1) true = List.replicate i true ++ [true] := by rw [List.replicate_succ']
/-! ### first_broken -/
def spFB : Sp := fun vs H Q _ => ∃ (v : V) (n : Nat) (ts : List Tie), vs = [v] ∧ WebAt H v n ts ∧ WebOk n ts ∧ (∀ H', ¬ Odd ts n → Same H H' → Q .non H') ∧
  ∀ (k : Nat) (t : Tie) r rr a b qs ms H', FirstAt ts n k → ts[k]? = some t → RingN n (ts.take k) (List.replicate k true) t qs ms → Same H H' → H' r = some (.tup [.int k, .ref rr]) → H' rr = some (.tup [.ref a, .ref b]) → H' a = some (.tup (qs.map V.int)) → H' b = some (.tup (ms.map V.int)) → Q (.ref r) H'
section
variable {P : Program} {w : World} {K : PySem.W.Frag} {mg : Str → Option Value} {base : Heap}
theorem ok_first_broken {f C fI : Addr} {fd fdI : FuncData} (F : Fun K "first_broken" "first_broken" s_first_broken f fd) (T : STx K C) (m_enumerate : mg "enumerate" = none) (mgC : mg "Stand" = some (.ref C)) (MK : Mk K C fI) (GI : FnOk P w K mg base CX0 1 fI fdI ["self", "many"] (spSInit C)) (bI : Binds K fdI ["self", "many"] [])
    (D_come : DfM P w K mg base 2 C "come" ["self", "one", "other", "kind"] (spSCome C)) : FnOk P w K mg base CX0 3 f fd ["web"] spFB := by
  obtain ⟨f_co, fd_co, G_co, m_co, b_co⟩ := D_come
  refine F.ok sc_first_broken (fun vs H Q E h => ?_) (fun cdv A outer s H vs Q E hr h => ?_)
  · obtain ⟨v, n, ts, rfl, _⟩ := h
    rfl
  · obtain ⟨v, n, ts, rfl, hW, ok, qn, qr⟩ := h
    refine ⟨_, (pss_cons (ps_set (i := 1) sc_first_broken.nd rfl (.inl rfl) (pe_make MK GI hr (by rfl) mgC bI .nil pass0 (pa_cons (pe_ix ix_tup (pv 0) pe_int (fun _ _ => rfl)) pa_nil)))
      (pss_cons (ps_for PassesOwn.never rfl (pi_enumT (by rfl) m_enumerate (pa_cons (pe_ix ix_tup (pv 0) pe_int (fun _ _ => rfl)) pa_nil)) (pg_tup rfl (pgs_cons (pg_name (i := 2) sc_first_broken.nd rfl (.inl rfl)) (pgs_cons (pg_tup rfl (pgs_cons (pg_name (i := 3) sc_first_broken.nd rfl (.inl rfl)) (pgs_cons (pg_name (i := 4) sc_first_broken.nd rfl (.inl rfl)) (pgs_cons (pg_name (i := 5) sc_first_broken.nd rfl (.inl rfl)) pgs_nil)))) pgs_nil)))
        (Evl.pss_cut (ps_set (i := 6) sc_first_broken.nd rfl (.inl rfl) (pe_meth (pv 1) T.cl m_co G_co hr b_co .nil pass0 (pa_cons (pv 3) (pa_cons (pv 4) (pa_cons (pv 5) pa_nil)))))
        (pss_one (ps_if (pt_cmpR op_notN (pv 6) pe_non (nomark _))
          (pss_one (ps_ret (pe_tup (pa_cons (pv 2) (pa_cons (pv 6) pa_nil)))))
          pss_nil))))
      (pss_one (ps_ret pe_non)))), ?_⟩
    obtain ⟨wa, wb, us, rfl, hwa, hwb, hp⟩ := id hW
    have n1 : 1 ≤ n := by have := ok.lo; omega
    have n40 : n ≤ 40 := by have := ok.hi; omega
    have few := ok.few
    have lu : us.length = ts.length := Paired.length hp
    refine ⟨.ref wa, rfl, wa, _, 0, .int n, rfl, rfl, SqT.of hwa, rfl, fun p dx np ndx nex => ⟨p, dx, n, rfl, upd_same, fun Ti Kk Lo H1 nT nK nL S1 k1 => ⟨rfl, ?_⟩⟩⟩
    have e0 := (same_new (o := .own p) ndx).trans (same_new (p := p) (o := .ins C dx []) (by rw [upd_ne (Ne.symm nex)]; exact np))
    have nT0 := e0.free nT
    have nK0 := e0.free nK
    have nL0 := e0.free nL
    have s1 : Same H H1 := fun b o e => k1 b o (e0 _ _ e) (ne_of_none e np)
    refine ⟨.ref wa, rfl, wa, _, 1, .ref wb, rfl, rfl, SqT.of (s1 _ _ hwa), rfl, wb, us, rfl, SqT.of (s1 _ _ hwb), ?_⟩
    refine for_it (walk_enumT (xs := us)) (fun i σ' H' => ∃ (y2 y3 y4 y5 y6 : Option V), σ' = [some (.ref wa), some (.ref p), y2, y3, y4, y5, y6] ∧ StA C H' p Ti Kk Lo n (ts.take i) (List.replicate i true) ∧ SI n (ts.take i) (List.replicate i true) ∧ Same H H') ⟨none, none, none, none, none, rfl, S1, SI.nil n1 n40, s1⟩ (fun i σ' H' _ h => by
      obtain ⟨_, _, _, _, _, _, _, _, s2⟩ := h
      exact SqT.of (s2 _ _ hwb)) ?_ ?_
    · rintro i x σ' H2 H3 hi ⟨y2, y3, y4, y5, y6, rfl, S2, si, s2⟩ ⟨Tp, x1, y1, rfl, nTp, rfl, gx, gy⟩
      obtain rfl : V.int (i : Nat) = x1 := Option.some.inj gx
      obtain ⟨t, et, c, rfl, hc⟩ := Paired.at hp gy
      have okt := ok.ok t (List.mem_of_getElem? et)
      have sT := same_new (o := .tup [.int (i : Nat), .ref c]) nTp
      have s3 := s2.trans sT
      have S3 := S2.same sT
      have hil : i < ts.length := (List.getElem?_eq_some_iff.mp et).1
      have ektk : kt (ts.take i) (List.replicate i true) = ts.take i := kt_takeAll (by omega)
      have etk : ts.take (i + 1) = ts.take i ++ [t] := take_snoc et
      have okk : ∀ x ∈ ts.take i, TieOk n x := fun x hx => ok.ok x (List.mem_of_mem_take hx)
      have calm : ¬ Odd (ts.take i) n := by
        have := si.calm
        rw [ektk] at this
        exact this
      have kc := kps_calm okk okt calm
      rw [← etk] at kc
      refine ⟨Tp, _, rfl, SqT.of upd_same, rfl, _, _, rfl, _, _, rfl, c, _, rfl, SqT.of (s3 _ _ hc), rfl, _, _, rfl, _, _, rfl, _, _, rfl, rfl, rfl, ?_⟩
      generalize upd H2 Tp (.tup [.int (i : Nat), .ref c]) = H3 at sT s3 S3
      obtain ⟨dx3, ob3⟩ := id S3.ob
      refine ⟨fun σ' H' => ∃ v6 : V, σ' = [some (.ref wa), some (.ref p), some (.int (i : Nat)), some (.int t.one), some (.int t.other), some (.str (kindS t.foe)), some v6] ∧ Same H H' ∧ ((v6 = .non ∧ ¬ Odd (ts.take (i + 1)) n ∧ StA C H' p Ti Kk Lo n (ts.take i ++ [t]) (List.replicate i true ++ [true])) ∨ (Odd (ts.take (i + 1)) n ∧ ∃ rr a b qs ms, v6 = .ref rr ∧ RingN n (ts.take i) (List.replicate i true) t qs ms ∧ H' rr = some (.tup [.ref a, .ref b]) ∧ H' a = some (.tup (qs.map V.int)) ∧ H' b = some (.tup (ms.map V.int)))), ?_, ?_⟩
      · refine ⟨.ref p, rfl, p, dx3, _, rfl, ob3, stF_no _ _ _ _ (by decide +kernel) (by decide +kernel) (by decide +kernel) (by decide +kernel), _, rfl, _, rfl, _, rfl, p, Ti, Kk, Lo, n, _, _, t, rfl, S3, si, okt, fun hk H4 k4 S4 => ?_, fun hk rr a b qs ms H4 k4 S4 hrr ha hb way par => ?_⟩
        · rw [ektk] at hk
          exact ⟨_, rfl, k4.keep s3 np nT0 nK0 nL0, .inl ⟨rfl, kc.mp hk, S4⟩⟩
        · rw [ektk] at hk
          refine ⟨_, rfl, k4.keep s3 np nT0 nK0 nL0, .inr ⟨Classical.byContradiction fun z => hk (kc.mpr z), rr, a, b, qs, _, rfl, way.ring si.len (by rw [List.length_take]; omega) okk okt par, hrr, ha, hb⟩⟩
      rintro σ' H4 ⟨v6, rfl, s4, h4⟩
      refine ⟨v6, rfl, rfl, _, rfl, ?_⟩
      rcases h4 with ⟨rfl, calm2, S4⟩ | ⟨odd, rr, a, b, qs, ms, rfl, ring, hrr, ha, hb⟩
      · refine ⟨_, _, _, _, _, rfl, ?_, ?_, s4⟩
        · rw [etk, rep_snoc]
          exact S4
        · refine ⟨by rw [List.length_take, List.length_replicate]; omega, by rw [List.length_take]; omega, fun x hx => ok.ok x (List.mem_of_mem_take hx), ?_, n1, n40⟩
          rw [kt_takeAll (by omega)]
          exact calm2
      · refine ⟨_, rfl, _, rfl, by show 2 ≤ sizeLine; decide, fun r nr => ?_⟩
        have sr := same_new (o := .tup [.int (i : Nat), .ref rr]) nr
        exact qr i t r rr a b qs ms _ ⟨hil, calm, odd⟩ et ring (s4.trans sr) upd_same (sr _ _ hrr) (sr _ _ ha) (sr _ _ hb)
    · rintro σ' H2 ⟨y2, y3, y4, y5, y6, rfl, S2, si, s2⟩
      refine qn H2 ?_ s2
      have := si.calm
      rw [kt_takeAll (by omega), lu, List.take_length] at this
      exact this
end
/-! ### webs turned -/
theorem Same.seqT {K : PySem.W.Frag} {H H' : Hp} {a : Addr} {xs : List V} (e : Same H H') (h : SqT K H a xs) : SqT K H' a xs := by
  rcases h with (h | ⟨o, h⟩) | h
  · exact .inl (.inl (e _ _ h))
  · exact .inl (.inr ⟨o, e _ _ h⟩)
  · exact .inr h
def inP (ps : List Int) (i : Int) : Bool := decide (i ∈ ps)
def flipT (t : Tie) : Tie := ⟨t.one, t.other, !t.foe⟩
def turnT (ps : List Int) (t : Tie) : Tie := if inP ps t.one = inP ps t.other then t else flipT t
def AmongAt (H : Hp) (D : Addr) (ps : List Int) : Prop := ∃ kvs : List (Key × V), H D = some (.dK kvs) ∧ ∀ k : Int, (valV kvs (Sum.inl k)).isSome = inP ps k
theorem AmongAt.same {H H' : Hp} {D : Addr} {ps : List Int} (h : AmongAt H D ps) (s : Same H H') : AmongAt H' D ps := by
  obtain ⟨kvs, h1, h2⟩ := h
  exact ⟨kvs, s _ _ h1, h2⟩
def spTurnedTie : Sp := fun vs H Q _ => ∃ (v : V) (D : Addr) (t : Tie) (ps : List Int), vs = [v, .ref D] ∧ TieV H v t ∧ AmongAt H D ps ∧ ∀ u H', Same H H' → TieV H' u (turnT ps t) → Q u H'
def spTurned (K : PySem.W.Frag) : Sp := fun vs H Q _ => ∃ (v : V) (p : Addr) (n : Int) (ts : List Tie) (ps : List Int), vs = [v, .ref p] ∧ WebAt H v n ts ∧ ts.length ≤ 120 ∧ SqT K H p (ps.map V.int) ∧ ps.length ≤ 40 ∧
  ∀ u H', Same H H' → WebAt H' u n (ts.map (turnT ps)) → Q u H'
theorem inP_take {ps : List Int} {i : Nat} {x : Int} (h : ps[i]? = some x) (k : Int) : inP (ps.take (i + 1)) k = (decide (k = x) || inP (ps.take i) k) := by
  unfold inP
  rw [List.take_add_one, h]
  by_cases e1 : k = x
  · subst e1
    simp
  · by_cases e2 : k ∈ ps.take i
    · rw [decide_eq_true e2, decide_eq_true (List.mem_append_left _ e2)]
      simp
    · rw [decide_eq_false e2, decide_eq_false e1, decide_eq_false]
      · rfl
      · intro h
        rcases List.mem_append.mp h with h | h
        · exact e2 h
        · simp at h
          exact e1 h
theorem map_take_succ {α β : Type} {f : α → β} {xs : List α} {i : Nat} {x : α} (h : xs[i]? = some x) : (xs.take (i + 1)).map f = (xs.take i).map f ++ [f x] := by
  rw [List.take_add_one, h, List.map_append]
  rfl
section
variable {P : Program} {w : World} {K : PySem.W.Frag} {mg : Str → Option Value} {base : Heap}
theorem ok_turned_tie {f : Addr} {fd : FuncData} (F : Fun K "turned_tie" "turned_tie" s_turned_tie f fd) : FnOk P w K mg base CX0 1 f fd ["tie", "among"] spTurnedTie := by
  refine F.ok sc_turned_tie (fun vs H Q E h => ?_) (fun cdv A outer s H vs Q E hr h => ?_)
  · obtain ⟨v, D, t, ps, rfl, _⟩ := h
    rfl
  · obtain ⟨v, D, t, ps, rfl, ⟨a, rfl, ha⟩, ⟨kvs, hD, hk⟩, q⟩ := h
    have hu := hu_of hr
    refine ⟨_, (pss_cons (ps_asg (pv 0) (pg_tup rfl (pgs_cons (pg_name (i := 2) sc_turned_tie.nd rfl (.inl rfl)) (pgs_cons (pg_name (i := 3) sc_turned_tie.nd rfl (.inl rfl)) (pgs_cons (pg_name (i := 4) sc_turned_tie.nd rfl (.inl rfl)) pgs_nil)))))
      (pss_cons (ps_if (pt_cmpR op_eq (pe_cmp (pc_din hu (pv 2) (pv 1))) (pe_cmp (pc_din hu (pv 3) (pv 1))) (nomark _))
        (pss_one (ps_ret (pv 0)))
        pss_nil)
      (pss_one (ps_ret (pe_tup (pa_cons (pv 2) (pa_cons (pv 3) (pa_cons (pe_ifExp (pt_cmpR op_eq (pv 4) pe_str (nomark _)) pe_str pe_str) pa_nil)))))))), ?_⟩
    refine ⟨.ref a, rfl, a, _, rfl, SqT.of ha, rfl, _, _, rfl, _, _, rfl, _, _, rfl, rfl, ?_⟩
    refine ⟨.int t.one, rfl, .ref D, rfl, D, _, rfl, DGet.k (k := Sum.inl t.one) hD, .int t.other, rfl, .ref D, rfl, D, _, rfl, DGet.k (k := Sum.inl t.other) hD, rfl, _, rfl, ?_⟩
    rw [hk, hk]
    refine ite2 (fun e => ?_) (fun e => ?_)
    · have e1 : inP ps t.one = inP ps t.other := V.bl.inj (of_decide_eq_true e)
      refine ⟨.ref a, rfl, q _ _ (Same.refl H) ?_⟩
      unfold turnT
      rw [if_pos e1]
      exact ⟨a, rfl, ha⟩
    · have e1 : ¬ inP ps t.one = inP ps t.other := fun z => e (decide_eq_true (by rw [z]))
      have e2 : decide (V.str (kindS t.foe) = V.str "friend") = !t.foe := by cases t.foe <;> rfl
      refine ⟨.int t.one, rfl, .int t.other, rfl, .str (kindS t.foe), rfl, rfl, _, rfl, ?_⟩
      rw [e2]
      have fin : ∀ p, H p = none → Q (.ref p) (upd H p (.tup [.int t.one, .int t.other, .str (kindS (!t.foe))])) := fun p np => by
        refine q _ _ (same_new np) ?_
        unfold turnT
        rw [if_neg e1]
        exact ⟨p, rfl, upd_same⟩
      cases hf : t.foe with
      | true =>
        rw [hf] at fin
        exact ⟨by show 3 ≤ sizeLine; decide, fun p np => fin p np⟩
      | false =>
        rw [hf] at fin
        exact ⟨by show 3 ≤ sizeLine; decide, fun p np => fin p np⟩
theorem ok_turned {f : Addr} {fd : FuncData} (F : Fun K "turned" "turned" s_turned f fd) (M : Free mg) (D1 : Df P w K mg base 1 "turned_tie" ["tie", "among"] spTurnedTie) : FnOk P w K mg base CX0 2 f fd ["web", "places"] (spTurned K) := by
  obtain ⟨f1, fd1, G1, g1, k1, b1⟩ := D1
  refine F.ok sc_turned (fun vs H Q E h => ?_) (fun cdv A outer s H vs Q E hr h => ?_)
  · obtain ⟨v, p, n, ts, ps, rfl, _⟩ := h
    rfl
  · obtain ⟨v, p, n, ts, ps, rfl, ⟨wa, wb, us, rfl, hwa, hwb, hp⟩, few, hP, hps, q⟩ := h
    refine ⟨_, (pss_cons (ps_set (i := 2) sc_turned.nd rfl (.inr rfl) (pe_dc (own := [("place", 3)]) (g := gName 3) (tt := tYes) rfl sc_turned.nd (pi_tup (pv 1)) (blkOk_by (N := N_turned) (sc := defScope s_turned) (own := [("place", 3)]) (by decide +kernel)) (fun _ _ _ _ _ => (pg_name (i := 3) sc_turned.nd rfl (.inl rfl))) (fun _ _ _ _ _ => pts_nil) (fun _ _ _ _ _ => (pv 3)) (fun _ _ _ _ _ => pe_bl)))
      (pss_one (ps_ret (pe_tup (pa_cons (pe_ix ix_tup (pv 0) pe_int (fun _ _ => rfl)) (pa_cons (pe_callTy call_tuple_of (by rfl) M.tuple (by decide +kernel) (pa_cons (pe_lc (own := [("tie", 4)]) (g := gName 4) (tt := tYes) rfl sc_turned.nd (pi_tup (pe_ix ix_tup (pv 0) pe_int (fun _ _ => rfl))) (blkOk_by (N := N_turned) (sc := defScope s_turned) (own := [("tie", 4)]) (by decide +kernel)) (fun _ _ _ _ _ => (pg_name (i := 4) sc_turned.nd rfl (.inl rfl))) (fun _ _ _ _ _ => pts_nil) (fun _ _ _ _ _ => (pe_call G1 hr (by rfl) g1 k1 b1 .nil pass0 (pa_cons (pv 4) (pa_cons (pv 2) pa_nil))))) pa_nil)) pa_nil)))))), ?_⟩
    refine ⟨.ref p, rfl, p, rfl, ⟨_, hP⟩, fun D nD => ?_⟩
    refine dc_tup (xs := ps.map V.int) (fun i H' => ∃ kvs : List (Key × V), H' D = some (.dK kvs) ∧ kvs.length ≤ i ∧ (∀ k : Int, (valV kvs (Sum.inl k)).isSome = inP (ps.take i) k) ∧ Same H H') ⟨[], upd_same, Nat.le_refl _, fun k => rfl, same_new nD⟩ (fun i H' _ h => by
      obtain ⟨kvs, _, _, _, s1⟩ := h
      exact Same.seqT s1 hP) ?_ ?_
    · rintro i x H1 ex ⟨kvs, hD, hl, hk, s1⟩
      rw [List.getElem?_map] at ex
      obtain ⟨y, hy, rfl⟩ := Option.map_eq_some_iff.mp ex
      have hi : i < ps.length := (List.getElem?_eq_some_iff.mp hy).1
      refine ⟨rfl, .int y, rfl, kvs, Sum.inl y, rfl, hD, small1000 (by omega), putK kvs (Sum.inl y) (.bl true), upd_same, ?_, fun k => ?_, Same.mut s1 nD⟩
      · have := length_putK kvs (Sum.inl y) (.bl true)
        omega
      · rw [valV_put, inP_take hy, ← hk]
        by_cases e : k = y
        · subst e
          rw [if_pos rfl]
          simp
        · rw [if_neg (fun z => e (Sum.inl.inj z)), decide_eq_false e]
          rfl
    · rintro H1 ⟨kvs, hD, hl, hk, s1⟩
      rw [List.length_map] at hl hk
      rw [List.take_length] at hk
      have hA : AmongAt H1 D ps := ⟨kvs, hD, hk⟩
      clear hD hl hk
      refine ⟨.ref wa, rfl, wa, _, 0, .int n, rfl, rfl, SqT.of (s1 _ _ hwa), rfl, .ref wa, rfl, wa, _, 1, .ref wb, rfl, rfl, SqT.of (s1 _ _ hwa), rfl, wb, rfl, ⟨_, SqT.of (s1 _ _ hwb)⟩, fun Z nZ => ?_⟩
      have hlen : us.length = ts.length := Paired.length hp
      refine lc_tup (xs := us) (fun i H' => ∃ vs : List V, H' Z = some (.lst vs) ∧ Paired (TieV H') vs ((ts.take i).map (turnT ps)) ∧ Same H1 H') ⟨[], upd_same, .nil, same_new nZ⟩ (fun i H' _ h => by
        obtain ⟨vs, _, _, s2⟩ := h
        exact SqT.of (s2 _ _ (s1 _ _ hwb))) ?_ ?_
      · rintro i x H2 ex ⟨vs, hZ, hv, s2⟩
        obtain ⟨t, et, ht⟩ := Paired.at hp ex
        have hi : i < us.length := (List.getElem?_eq_some_iff.mp ex).1
        have lv : vs.length = i := by
          rw [Paired.length hv, List.length_map, List.length_take]
          omega
        refine ⟨rfl, x, rfl, .ref D, rfl, x, D, t, ps, rfl, ht.tk (Same.tk (s1.trans s2)), hA.same s2, fun u H3 s3 hu3 => ?_⟩
        have hZ3 := s3 _ _ hZ
        refine ⟨vs, hZ3, small1000 (by omega), vs ++ [u], upd_same, ?_, Same.mut (s2.trans s3) nZ⟩
        rw [map_take_succ et]
        exact Paired.snoc (ties_tk (tk_lst hZ3) (ties_tk (Same.tk s3) hv)) (hu3.tk (tk_lst hZ3))
      · rintro H2 ⟨vs, hZ, hv, s2⟩
        rw [hlen, List.take_length] at hv
        refine ⟨Z, vs, rfl, .inl ⟨SqL.of hZ, fun r nr => ⟨by show 2 ≤ sizeLine; decide, fun o no => ?_⟩⟩⟩
        have s3 : Same H2 _ := (same_new (o := .tup vs) nr).trans (same_new (o := .tup [.int n, .ref r]) no)
        exact q _ _ ((s1.trans s2).trans s3) ⟨o, r, vs, rfl, upd_same, same_new no _ _ upd_same, ties_tk (Same.tk s3) hv⟩
end
/-! ### the state of a stand, as data -/
def KR (R : List Addr) (H H' : Hp) : Prop := ∀ b o, b ∉ R → H b = some o → H' b = some o
theorem KR.trans {R : List Addr} {H H1 H2 : Hp} (a : KR R H H1) (b : KR R H1 H2) : KR R H H2 := fun x o h e => b x o h (a x o h e)
theorem Same.kr {R : List Addr} {H H' : Hp} (s : Same H H') : KR R H H' := fun b o _ e => s b o e
theorem KS.kr {p T Kk Lo : Addr} {R : List Addr} {H H' : Hp} (k : KS p T Kk Lo H H') (h0 : p ∈ R) (h1 : T ∈ R) (h2 : Kk ∈ R) (h3 : Lo ∈ R) : KR R H H' := fun b o hb e => k b o (fun z => hb (z ▸ h0)) (fun z => hb (z ▸ h1)) (fun z => hb (z ▸ h2)) (fun z => hb (z ▸ h3)) e
open Classical in
noncomputable def bet (kts : List Tie) (a b : Int) : Option Bool := if Rch kts a b then some (decide (RP kts a b true)) else none
theorem bet_none {kts : List Tie} {a b : Int} (h : ¬ Rch kts a b) : bet kts a b = none := if_neg h
open Classical in
theorem bet_some {kts : List Tie} {n : Nat} {a b : Int} {p : Bool} (calm : ¬ Odd kts n) (ha : 0 ≤ a ∧ a < n) (r : RP kts a b p) : bet kts a b = some p := by
  unfold bet
  rw [if_pos ⟨_, r⟩]
  cases p
  · rw [decide_eq_false fun r' => by cases rp_one calm ha r r']
  · rw [decide_eq_true r]
def betV : Option Bool → V
  | none => .non
  | some b => .str (if b = true then "apart" else "together")
def betD : Option Bool → PyData
  | none => .none
  | some b => .str (if b = true then "apart" else "together")
def cntL (n : Nat) : Int := if (n : Int) < 5 then (n : Int) else 5
def someL (n k : Nat) : List Int := (List.range (cntL n).toNat).map fun j : Nat => ((k : Int) + (j : Int) * (1 + (k : Int) % 7)) % (n : Int)
theorem someL_in {n k : Nat} (h : 1 ≤ n) {x : Int} (hx : x ∈ someL n k) : 0 ≤ x ∧ x < n := by
  obtain ⟨j, _, rfl⟩ := List.mem_map.mp hx
  exact mod_rng (by omega)
theorem someL_len (n k : Nat) : (someL n k).length ≤ 5 := by
  unfold someL cntL
  rw [List.length_map, List.length_range]
  split <;> (try split) <;> omega
noncomputable def rowsD (kts : List Tie) (l : List Int) : PyData := .list (l.map fun a => .list (l.map fun y => betD (bet kts a y)))
noncomputable def stD (n : Nat) (ts : List Tie) (fl : List Bool) (ss : List Int) (k : Nat) : PyData := .tuple [webD n ts, intsD ss, intsD (knT fl false), rowsD (kt ts fl) (someL n k)]
theorem lay_all {α : Type} {f : α → PyData} (h : ∀ x, (f x).canLay0 = true) : ∀ l : List α, PyData.canLayAll0 (l.map f) = true
  | [] => by simp [PyData.canLayAll0]
  | x :: l => by rw [List.map_cons, PyData.canLayAll0, h x, lay_all h l]; rfl
theorem deep_all {α : Type} {f : α → PyData} {d : Nat} (h : ∀ x, (f x).depth ≤ d) : ∀ l : List α, PyData.depthAll (l.map f) ≤ d
  | [] => by simp [PyData.depthAll]
  | x :: l => by
    have := deep_all h l
    have := h x
    rw [List.map_cons, PyData.depthAll]
    omega
theorem lay_bet (o : Option Bool) : (betD o).canLay0 = true := by
  cases o with
  | none => simp [betD, PyData.canLay0]
  | some b => cases b <;> (show (PyData.str _).canLay0 = true) <;> decide +kernel
theorem deep_bet (o : Option Bool) : (betD o).depth ≤ 0 := by
  cases o <;> simp [betD, PyData.depth]
theorem lay_st (n : Nat) (ts : List Tie) (fl : List Bool) (ss : List Int) (k : Nat) : (stD n ts fl ss k).canLay0 = true := by
  unfold stD rowsD
  rw [PyData.canLay0, PyData.canLayAll0, PyData.canLayAll0, PyData.canLayAll0, PyData.canLayAll0, lay_web, lay_intsD, lay_intsD, PyData.canLay0, lay_all (fun a => by rw [PyData.canLay0]; exact lay_all (fun y => lay_bet _) _), PyData.canLayAll0]
  rfl
theorem shaped_st (n : Nat) (ts : List Tie) (fl : List Bool) (ss : List Int) (k : Nat) : SeqAt.shaped (stD n ts fl ss k) = true := by
  have h := deep_ties ts
  have h2 : PyData.depthAll ((someL n k).map fun a => PyData.list ((someL n k).map fun y => betD (bet (kt ts fl) a y))) ≤ 1 := deep_all (fun a => by
    have := deep_all (d := 0) (fun y => deep_bet (bet (kt ts fl) a y)) (someL n k)
    rw [PyData.depth]
    omega) _
  have d : (stD n ts fl ss k).depth ≤ 5 := by
    simp only [stD, rowsD, webD, PyData.depth, PyData.depthAll, deep_intsD]
    omega
  unfold SeqAt.shaped
  rw [lay_st]
  simp
  omega
def RowV (H : Hp) (R : List Addr) (kts : List Tie) (l : List Int) (v : V) (a : Int) : Prop := ∃ b, v = .ref b ∧ b ∉ R ∧ H b = some (.lst (l.map fun y => betV (bet kts a y)))
def StateAt (H : Hp) (R : List Addr) (v : V) (n : Nat) (ts : List Tie) (fl : List Bool) (k : Nat) : Prop := ∃ (r sa ba ra : Addr) (wv : V) (ss : List Int) (rows : List V), v = .ref r ∧ H r = some (.tup [wv, .ref sa, .ref ba, .ref ra]) ∧ WebAt H wv n ts ∧ Told (kt ts fl) n ss ∧ Cons ss (kt ts fl) ∧ H sa = some (.tup (ss.map V.int)) ∧ H ba = some (.tup ((knT fl false).map V.int)) ∧ ra ∉ R ∧ H ra = some (.lst rows) ∧ Paired (RowV H R (kt ts fl) (someL n k)) rows (someL n k)
theorem StateAt.kr {H H' : Hp} {R R' : List Addr} {v : V} {n : Nat} {ts : List Tie} {fl : List Bool} {k : Nat} (h : StateAt H R v n ts fl k) (kr : KR R' H H') (tk : Tk H H') (hs : ∀ a ∈ R', a ∈ R) : StateAt H' R v n ts fl k := by
  obtain ⟨r, sa, ba, ra, wv, ss, rows, e, h1, h2, h3, h4, h5, h6, h7, h8, h9⟩ := h
  refine ⟨r, sa, ba, ra, wv, ss, rows, e, tk _ _ h1, h2.tk tk, h3, h4, tk _ _ h5, tk _ _ h6, h7, kr _ _ (fun z => h7 (hs _ z)) h8, Paired.mono (fun v a x => ?_) h9⟩
  obtain ⟨b, e, n1, hb⟩ := x
  exact ⟨b, e, n1, kr _ _ (fun z => n1 (hs _ z)) hb⟩
theorem StateAt.same {H H' : Hp} {R : List Addr} {v : V} {n : Nat} {ts : List Tie} {fl : List Bool} {k : Nat} (h : StateAt H R v n ts fl k) (s : Same H H') : StateAt H' R v n ts fl k := h.kr (R' := []) (Same.kr s) (Same.tk s) (fun a ha => by cases ha)
theorem dp_bet {K : PySem.W.Frag} {H : Hp} (o : Option Bool) : Dp K H (betV o) (betD o) := by
  cases o
  · exact .non
  · exact .str _
theorem dp_map {K : PySem.W.Frag} {H : Hp} {α : Type} {f : α → V} {g : α → PyData} (h : ∀ x, Dp K H (f x) (g x)) : ∀ l : List α, DpAll K H (l.map f) (l.map g)
  | [] => .nil
  | x :: l => .cons (h x) (dp_map h l)
theorem dp_rows {K : PySem.W.Frag} {H : Hp} {R : List Addr} {kts : List Tie} {l : List Int} : ∀ {rows : List V} {as : List Int}, Paired (RowV H R kts l) rows as → DpAll K H rows (as.map fun a => .list (l.map fun y => betD (bet kts a y)))
  | _, _, .nil => .nil
  | _, _, .cons r t => by
    obtain ⟨b, rfl, _, hb⟩ := r
    exact .cons (.lst (SqL.of hb) (dp_map (fun y => dp_bet _) l)) (dp_rows t)
/-- two states of the same: the same data -/
theorem StateAt.two {K : PySem.W.Frag} {H : Hp} {R R' : List Addr} {v v' : V} {n : Nat} {ts : List Tie} {fl : List Bool} {k : Nat} (ok : ∀ t ∈ kt ts fl, TieOk n t) (h : StateAt H R v n ts fl k) (h' : StateAt H R' v' n ts fl k) : ∃ d, Dp K H v d ∧ Dp K H v' d ∧ SeqAt.shaped d = true ∧ d.canLay0 = true := by
  obtain ⟨r, sa, ba, ra, wv, ss, rows, rfl, h1, h2, h3, h4, h5, h6, h7, h8, h9⟩ := h
  obtain ⟨r', sa', ba', ra', wv', ss', rows', rfl, h1', h2', h3', h4', h5', h6', h7', h8', h9'⟩ := h'
  obtain rfl := told_unique ok h3 h3' h4
  refine ⟨stD n ts fl ss k, ?_, ?_, shaped_st _ _ _ _ _, lay_st _ _ _ _ _⟩
  · exact .tup (SqT.of h1) (.cons h2.dp (.cons (.tup (SqT.of h5) (dp_ints ss)) (.cons (.tup (SqT.of h6) (dp_ints _)) (.cons (.lst (SqL.of h8) (dp_rows h9)) .nil))))
  · exact .tup (SqT.of h1') (.cons h2'.dp (.cons (.tup (SqT.of h5') (dp_ints ss)) (.cons (.tup (SqT.of h6') (dp_ints _)) (.cons (.lst (SqL.of h8') (dp_rows h9')) .nil))))
/-! ### flags that are right -/
inductive Rt : List Tie → List Bool → Prop
  | nil : Rt [] []
  | snoc {ts : List Tie} {fl : List Bool} {t : Tie} {f : Bool} : Rt ts fl → (f = true ↔ Kps (kt ts fl) t) → Rt (ts ++ [t]) (fl ++ [f])
theorem Rt.inv {us : List Tie} {gl : List Bool} (h : Rt us gl) : ∀ {ts : List Tie} {fl : List Bool} {t : Tie} {f : Bool}, us = ts ++ [t] → gl = fl ++ [f] → Rt ts fl ∧ (f = true ↔ Kps (kt ts fl) t) := by
  cases h with
  | nil =>
    intro ts fl t f e _
    simp at e
  | snoc h k =>
    intro ts fl t f e1 e2
    obtain ⟨rfl, e⟩ := List.append_inj' e1 rfl
    obtain ⟨rfl, e'⟩ := List.append_inj' e2 rfl
    cases e
    cases e'
    exact ⟨h, k⟩
theorem SI.step {n : Nat} {ts : List Tie} {fl : List Bool} (h : SI n ts fl) {t : Tie} (ok : TieOk n t) (few : ts.length ≤ 119) {f : Bool} (hf : f = true → Kps (kt ts fl) t) : SI n (ts ++ [t]) (fl ++ [f]) := by
  obtain ⟨g, s, gs⟩ := calm_gs h.okk h.calm
  exact h.more gs ok few hf
theorem sd_map (s : Int → Int) {n : Nat} {i : Int} (h0 : 0 ≤ i) (h1 : i < n) : sd ((rng n).map s) i = s i := by
  unfold sd rng
  rw [List.getD_eq_getElem?_getD, List.map_map, List.getElem?_map, List.getElem?_range (by omega)]
  show s ((i.toNat : Nat) : Int) = s i
  rw [show ((i.toNat : Nat) : Int) = i from by omega]
theorem GS.told {ts : List Tie} {n : Nat} {g s : Int → Int} {good : Bool} (ok : ∀ t ∈ ts, TieOk n t) (h : GS ts n g s good) : Told ts n ((rng n).map s) := by
  refine told_of (by rw [List.length_map, rng_length]) fun i x hx => ?_
  have hi : i < n := by
    have := (List.getElem?_eq_some_iff.mp hx).1
    rw [List.length_map, rng_length] at this
    exact this
  have e : x = s i := by
    unfold rng at hx
    rw [List.map_map, List.getElem?_map, List.getElem?_range hi] at hx
    exact (Option.some.inj hx).symm
  refine ⟨g i, bit (s i), h.lead ok (by omega) (by omega), h.rp i (by omega) (by omega), ?_⟩
  rw [e]
  rcases h.bn i (by omega) (by omega) with z | z <;> rw [z] <;> rfl
theorem GS.cons {ts : List Tie} {n : Nat} {g s : Int → Int} (ok : ∀ t ∈ ts, TieOk n t) (h : GS ts n g s true) : Cons ((rng n).map s) ts := fun t ht => by
  have okt := ok t ht
  have tl := h.told ok
  rw [brk_one tl.bin (by rw [tl.len]; exact okt)]
  have e1 : one? ((rng n).map s) t.one = bit (s t.one) := by unfold one? bit; rw [sd_map s okt.1 okt.2.1]
  have e2 : one? ((rng n).map s) t.other = bit (s t.other) := by unfold one? bit; rw [sd_map s okt.2.2.1 okt.2.2.2.1]
  rw [e1, e2, h.yes rfl t ht, Bool.xor_self]
/-! ### the law: other webs -/
theorem cut_take {xs : List V} {k : Nat} (h : k ≤ xs.length) : cutV xs none (some (k : Int)) = xs.take k := by
  unfold cutV
  rw [HT.sIx_none, HT.sIx_nat, Nat.min_eq_left h, List.drop_zero]
  rfl
theorem cut_drop {xs : List V} {k : Nat} (h : k ≤ xs.length) : cutV xs (some (k : Int)) none = xs.drop k := by
  unfold cutV
  rw [HT.sIx_none, HT.sIx_nat, Nat.min_eq_left h]
  exact List.take_of_length_le (by rw [List.length_drop]; omega)
theorem Paired.take {α β : Type} {F : α → β → Prop} : ∀ {l : List α} {m : List β} (k : Nat), Paired F l m → Paired F (l.take k) (m.take k)
  | _, _, 0, _ => by simp; exact .nil
  | _, _, _ + 1, .nil => by simp; exact .nil
  | _, _, k + 1, .cons r t => .cons r (Paired.take k t)
theorem Paired.drop {α β : Type} {F : α → β → Prop} : ∀ {l : List α} {m : List β} (k : Nat), Paired F l m → Paired F (l.drop k) (m.drop k)
  | _, _, 0, h => h
  | _, _, _ + 1, .nil => .nil
  | _, _, k + 1, .cons _ t => Paired.drop k t
theorem Paired.app {α β : Type} {F : α → β → Prop} : ∀ {l l' : List α} {m m' : List β}, Paired F l m → Paired F l' m' → Paired F (l ++ l') (m ++ m')
  | _, _, _, _, .nil, h => h
  | _, _, _, _, .cons r t, h => .cons r (Paired.app t h)
theorem in83 (z : Int) (ns : List Int) : inV (.int z) (ns.map V.int) = decide (z ∈ ns) := by
  rw [Bool.eq_iff_iff, decide_eq_true_iff]
  unfold inV
  rw [List.any_map, List.any_eq_true]
  constructor
  · rintro ⟨x, hx, e⟩
    have e' : (x == z) = true := e
    rw [beq_iff_eq] at e'
    rw [← e']
    exact hx
  · intro h
    exact ⟨z, h, by show (z == z) = true; simp⟩
theorem flat83 (xs : List Int) : (xs.map V.int).all flatV = true := by
  rw [List.all_map, List.all_eq_true]
  intro x _
  rfl
def lstD (xs : List Int) : PyData := .list (xs.map PyData.int)
theorem lay_lstD (xs : List Int) : (lstD xs).canLay0 = true := by
  unfold lstD
  rw [PyData.canLay0]
  exact lay_ints xs
theorem shaped_lstD (xs : List Int) : SeqAt.shaped (lstD xs) = true := by
  unfold SeqAt.shaped
  rw [lay_lstD]
  unfold lstD
  rw [PyData.depth, deep_ints]
  rfl
theorem dp_lstD {K : PySem.W.Frag} {H : Hp} {a : Addr} {xs : List Int} (h : H a = some (.lst (xs.map V.int))) : Dp K H (.ref a) (lstD xs) := .lst (SqL.of h) (dp_ints xs)
/-! ### the state -/
def spState (C : Addr) : Sp := fun vs H Q _ => ∃ (p T Kk Lo : Addr) (n : Nat) (ts : List Tie) (fl : List Bool) (k : Nat) (R : List Addr), vs = [.ref p, .int n, .int k] ∧ StA C H p T Kk Lo n ts fl ∧ SI n ts fl ∧ (∀ a ∈ R, H a ≠ none) ∧ ∀ v H', Same H H' → StateAt H' R v n ts fl k → Q v H'
theorem paired_mem {α β : Type} {F G : α → β → Prop} : ∀ {l : List α} {m : List β}, (∀ x ∈ l, ∀ y, F x y → G x y) → Paired F l m → Paired G l m
  | _, _, _, .nil => .nil
  | _, _, h, .cons r t => .cons (h _ (by simp) _ r) (paired_mem (fun x hx => h x (List.mem_cons_of_mem _ hx)) t)
section
variable {P : Program} {w : World} {K : PySem.W.Frag} {mg : Str → Option Value} {base : Heap}
theorem ok_l_told {f C : Addr} {fd : FuncData} (F : Fun K "_law_told" "_law_told" s_l_told f fd) (M : Free mg) (T : STx K C) (m_min : mg "min" = none) (D_between : DfM P w K mg base 2 C "between" ["self", "one", "other"] (spSBetween C)) (D_broken : DfM P w K mg base 1 C "broken" ["self"] (spSBroken C)) (D_sides : DfM P w K mg base 4 C "sides" ["self"] (spSSides C)) (D_web : DfM P w K mg base 1 C "web" ["self"] (spSWeb C)) : FnOk P w K mg base CX0 5 f fd ["_law_stand", "_law_many", "_law_k"] (spState C) := by
  obtain ⟨f_between, fd_between, G_between, m_between, b_between⟩ := D_between
  obtain ⟨f_broken, fd_broken, G_broken, m_broken, b_broken⟩ := D_broken
  obtain ⟨f_sides, fd_sides, G_sides, m_sides, b_sides⟩ := D_sides
  obtain ⟨f_web, fd_web, G_web, m_web, b_web⟩ := D_web
  refine F.ok sc_l_told (fun vs H Q E h => ?_) (fun cdv A outer s H vs Q E hr h => ?_)
  · obtain ⟨p, Ti, Kk, Lo, n, ts, fl, k, R, rfl, _⟩ := h
    rfl
  · obtain ⟨p, Ti, Kk, Lo, n, ts, fl, k, R, rfl, S, si, hR, q⟩ := h
    refine ⟨_, (Evl.pss_cut (ps_setLc (i := 3) (own := [("_law_j", 4)]) (g := (gName 4)) (tt := tYes) rfl sc_l_told.nd rfl rfl (sw_true rfl rfl rfl (by decide +kernel)) (pi_range1 (by rfl) M.range (pa_cons (pe_callB (call_min2 rfl) (by rfl) m_min (by decide +kernel) (pa_cons pe_int (pa_cons (pv 1) pa_nil))) pa_nil)) (blkOk_by (N := N_l_told) (sc := defScope s_l_told) (own := [("_law_j", 4)]) (by decide +kernel)) (fun _ _ _ _ _ => (pg_name (i := 4) sc_l_told.nd rfl (.inl rfl))) (fun _ _ _ _ _ => pts_nil) (fun _ _ _ _ _ => (pe_op op_mod (pe_op op_add (pv 2) (pe_op op_mul (pv 4) (pe_op op_add pe_int (pe_op op_mod (pv 2) pe_int)))) (pv 1))))
      (pss_cons (ps_set (i := 5) sc_l_told.nd rfl (.inl rfl) (pe_lst pa_nil))
      (Evl.pss_cut (ps_for PassesOwn.never rfl (pi_list (pv 3)) (pg_name (i := 6) sc_l_told.nd rfl (.inr rfl))
        (pss_one (ps_expr (pe_bm PySem.F.plainAttrs_list PySem.F.slot_list_append PySem.F.type_list_append mt_append (pv 5) (pa_cons (pe_lc (own := [("_law_other", 7)]) (g := (gName 7)) (tt := tYes) rfl sc_l_told.nd (pi_list (pv 3)) (blkOk_by (N := N_l_told) (sc := defScope s_l_told) (own := [("_law_other", 7)]) (by decide +kernel)) (fun _ _ _ _ _ => (pg_name (i := 7) sc_l_told.nd rfl (.inl rfl))) (fun _ _ _ _ _ => pts_nil) (fun _ _ _ _ _ => (pe_meth (pv 0) T.cl m_between G_between (hr.mono (by decide)) b_between .nil pass0 (pa_cons (pv 6) (pa_cons (pv 7) pa_nil))))) pa_nil)))))
      (pss_one (ps_ret (pe_tup (pa_cons (pe_meth0 (pv 0) T.cl m_web G_web (hr.mono (by decide)) b_web .nil pass0) (pa_cons (pe_meth0 (pv 0) T.cl m_sides G_sides (hr.mono (by decide)) b_sides .nil pass0) (pa_cons (pe_meth0 (pv 0) T.cl m_broken G_broken (hr.mono (by decide)) b_broken .nil pass0) (pa_cons (pv 5) pa_nil)))))))))), ?_⟩
    obtain ⟨dx, h1⟩ := id S.ob
    have n1 := si.n1
    have n40 := si.n40
    have cN : 0 ≤ cntL n ∧ cntL n ≤ 5 := by
      unfold cntL
      constructor <;> split <;> (try split) <;> omega
    have no : ∀ m : Str, ¬ m = "lost" → ¬ m = "kept" → ¬ m = "ties" → ¬ m = "many" → (stF n Ti Kk Lo).lookup m = none := fun m a b c d => stF_no _ _ _ _ a b c d
    have notR : ∀ {H' : Hp} {b : Addr}, Same H H' → H' b = none → b ∉ R := fun s' nb hb => hR _ hb (s'.free nb)
    refine ⟨fun σ' H' => ∃ (y4 : Option V) (L : Addr), σ' = [some (.ref p), some (.int n), some (.int k), some (.ref L), y4, none, none, none] ∧ H' L = some (.lst ((someL n k).map V.int)) ∧ Same H H', ?_, ?_⟩
    · refine ⟨.int n, rfl, _, _, rfl, cntL n, ?_, by omega, by omega, fun Z nZ => ?_⟩
      · show [V.int (if (n : Int) < 5 then (n : Int) else 5)] = [V.int (cntL n)]
        rfl
      refine lc_range (lo := 0) (n := (cntL n).toNat) (fun j H' => H' Z = some (.lst (((List.range j).map fun j : Nat => ((k : Int) + (j : Int) * (1 + (k : Int) % 7)) % (n : Int)).map V.int)) ∧ Same H H') ⟨upd_same, same_new nZ⟩ ?_ ?_
      · rintro j H1 hj ⟨hZ, s1⟩
        rw [show (0 : Int) + (j : Nat) = j from by omega]
        refine ⟨rfl, .int k, rfl, .int j, rfl, .int k, rfl, k, 7, rfl, rfl, (show (0 : Int) < 7 by decide), 1, _, rfl, rfl, j, _, rfl, rfl, .inr ⟨by have := (mod_rng (a := (k : Int)) (m := 7) (by decide)); omega, by have := (mod_rng (a := (k : Int)) (m := 7) (by decide)); omega⟩, k, _, rfl, rfl, .int n, rfl, _, n, rfl, rfl, show (0 : Int) < n by omega, ?_⟩
        refine ⟨_, hZ, by rw [List.length_map, List.length_map, List.length_range]; exact small1000 (by omega), ?_, Same.mut s1 nZ⟩
        rw [upd_same, List.range_succ, List.map_append, List.map_append]
        rfl
      · rintro H1 ⟨hZ, s1⟩
        exact ⟨_, Z, rfl, hZ, s1⟩
    rintro σ' H1 ⟨y4, L, rfl, hL, s1⟩
    refine ⟨Nat.zero_le _, fun G nG => ?_⟩
    have sG := same_new (o := .lst []) nG
    have nG0 : H G = none := s1.free nG
    have gR : G ∉ R := notR s1 nG
    have hL2 := sG _ _ hL
    have s2 := s1.trans sG
    have hG := upd_same (H := H1) (a := G) (o := .lst [])
    have lG : L ≠ G := ne_of_none hL nG
    generalize upd H1 G (.lst []) = H2 at hL2 s2 hG
    refine ⟨fun σ' H' => ∃ (y6 y7 : Option V) (rows : List V), σ' = [some (.ref p), some (.int n), some (.int k), some (.ref L), y4, some (.ref G), y6, y7] ∧ H' G = some (.lst rows) ∧ Paired (RowV H' R (kt ts fl) (someL n k)) rows (someL n k) ∧ Same H H', ?_, ?_⟩
    · refine ⟨.ref L, rfl, L, rfl, ⟨_, SqL.of hL2⟩, ?_⟩
      refine for_list (xs := (someL n k).map V.int) (fun i σ' H' => ∃ (y6 y7 : Option V) (rows : List V), σ' = [some (.ref p), some (.int n), some (.int k), some (.ref L), y4, some (.ref G), y6, y7] ∧ H' L = some (.lst ((someL n k).map V.int)) ∧ H' G = some (.lst rows) ∧ (∀ r ∈ rows, r ≠ .ref G) ∧ Paired (RowV H' R (kt ts fl) (someL n k)) rows ((someL n k).take i) ∧ Same H H') ⟨none, none, [], rfl, hL2, hG, fun r hr => (by cases hr), .nil, s2⟩ (fun i σ' H' _ h => by
        obtain ⟨_, _, _, _, h, _⟩ := h
        exact SqL.of h) ?_ ?_
      · rintro i x σ' H3 ex ⟨y6, y7, rows, rfl, hL3, hG3, rg, hp, s3⟩
        rw [List.getElem?_map] at ex
        obtain ⟨a, ea, rfl⟩ := Option.map_eq_some_iff.mp ex
        have ain := someL_in n1 (List.mem_of_getElem? ea)
        have lr := Paired.length hp
        rw [List.length_take] at lr
        have l4 := someL_len n k
        refine ⟨.ref G, rfl, .inl ⟨rfl, _, SqL.of hG3⟩, .ref L, rfl, L, rfl, ⟨_, SqL.of hL3⟩, fun Z nZ => ?_⟩
        have zR : Z ∉ R := notR s3 nZ
        have zG : Z ≠ G := (ne_of_none hG3 nZ).symm
        refine lc_list (xs := (someL n k).map V.int) (fun j H' => H' Z = some (.lst (((someL n k).take j).map fun y => betV (bet (kt ts fl) a y))) ∧ Same H3 H') ⟨upd_same, same_new nZ⟩ (fun j H' _ h => SqL.of (h.2 _ _ hL3)) ?_ ?_
        · rintro j x H4 ex ⟨hZ, s4⟩
          rw [List.getElem?_map] at ex
          obtain ⟨b, eb, rfl⟩ := Option.map_eq_some_iff.mp ex
          have S4 := S.same (s3.trans s4)
          have fin : ∀ v H5, Same H4 H5 → v = betV (bet (kt ts fl) a b) → ∃ acc, H5 Z = some (.lst acc) ∧ acc.length < sizeLine ∧ ((upd H5 Z (.lst (acc ++ [v]))) Z = some (.lst (((someL n k).take (j + 1)).map fun y => betV (bet (kt ts fl) a y))) ∧ Same H3 (upd H5 Z (.lst (acc ++ [v])))) := fun v H5 s5 e => by
            refine ⟨_, s5 _ _ hZ, by rw [List.length_map, List.length_take]; exact small1000 (by omega), ?_, Same.mut (s4.trans s5) nZ⟩
            rw [upd_same, take_snoc eb, List.map_append, e]
            rfl
          refine ⟨rfl, .ref p, rfl, p, dx, _, rfl, (s3.trans s4) _ _ h1, no _ (by decide +kernel) (by decide +kernel) (by decide +kernel) (by decide +kernel), .int a, rfl, .int b, rfl, p, Ti, Kk, Lo, n, ts, fl, a, b, rfl, S4, si, ain, fun H5 nr s5 => fin _ H5 s5 (by rw [bet_none nr]; rfl), fun bb H5 r s5 => fin _ H5 s5 (by rw [bet_some si.calm ain r]; rfl)⟩
        · rintro H4 ⟨hZ, s4⟩
          rw [List.length_map, List.take_length] at hZ
          have hG4 := s4 _ _ hG3
          refine ⟨G, rows, _, rfl, rfl, hG4, small1000 (by omega), ?_⟩
          refine ⟨_, _, rows ++ [.ref Z], rfl, by rw [upd_ne lG]; exact s4 _ _ hL3, upd_same, fun r hr => ?_, ?_, Same.mut (s3.trans s4) nG0⟩
          · rcases List.mem_append.mp hr with z | z
            · exact rg r z
            · rw [List.mem_singleton.mp z]
              exact fun e => zG (V.ref.inj e)
          · rw [take_snoc ea]
            refine Paired.snoc ?_ ⟨Z, rfl, zR, by rw [upd_ne zG]; exact hZ⟩
            refine paired_mem (fun v hv c x => ?_) hp
            obtain ⟨b, e, n1, hb⟩ := x
            exact ⟨b, e, n1, by rw [upd_ne (fun z => rg v hv (by rw [e, z]))]; exact s4 _ _ hb⟩
      · rintro σ' H3 ⟨y6, y7, rows, rfl, hL3, hG3, rg, hp, s3⟩
        rw [List.length_map, List.take_length] at hp
        exact ⟨_, _, rows, rfl, hG3, hp, s3⟩
    rintro σ' H3 ⟨y6, y7, rows, rfl, hG3, hp, s3⟩
    have S3 := S.same s3
    refine ⟨.ref p, rfl, p, dx, _, rfl, s3 _ _ h1, no _ (by decide +kernel) (by decide +kernel) (by decide +kernel) (by decide +kernel), p, Ti, Kk, Lo, n, ts, fl, rfl, S3, fun wv H4 s4 hW => ?_⟩
    have S4 := S3.same s4
    refine ⟨.ref p, rfl, p, dx, _, rfl, (s3.trans s4) _ _ h1, no _ (by decide +kernel) (by decide +kernel) (by decide +kernel) (by decide +kernel), p, Ti, Kk, Lo, n, ts, fl, rfl, S4, si, fun ss sa H5 told cons s5 hs => ?_⟩
    have S5 := S4.same s5
    refine ⟨.ref p, rfl, p, dx, _, rfl, ((s3.trans s4).trans s5) _ _ h1, no _ (by decide +kernel) (by decide +kernel) (by decide +kernel) (by decide +kernel), p, Ti, Kk, Lo, n, ts, fl, rfl, S5, fun ba H6 s6 hb => ?_⟩
    refine ⟨.ref G, rfl, by show 4 ≤ sizeLine; decide, fun r nr => ?_⟩
    have s7 := same_new (o := .tup [wv, .ref sa, .ref ba, .ref G]) nr
    have s47 := ((s4.trans s5).trans s6).trans s7
    refine q _ _ (s3.trans s47) ⟨r, sa, ba, G, wv, ss, rows, rfl, upd_same, hW.tk (Same.tk ((s5.trans s6).trans s7)), told, cons, (s6.trans s7) _ _ hs, s7 _ _ hb, gR, s47 _ _ hG3, Paired.mono (fun v a x => ?_) hp⟩
    obtain ⟨b, e, n1, hb⟩ := x
    exact ⟨b, e, n1, s47 _ _ hb⟩
end
/-! ### flags that are right: one row of them, the same where all is turned -/
theorem Rt.len {ts : List Tie} {fl : List Bool} (h : Rt ts fl) : ts.length = fl.length := by
  induction h with
  | nil => rfl
  | snoc _ _ ih => rw [List.length_append, List.length_append, ih]; rfl
theorem Rt.one {ts : List Tie} {fl : List Bool} (h : Rt ts fl) : ∀ {gl : List Bool}, Rt ts gl → fl = gl := by
  induction h with
  | nil =>
    intro gl g
    have := g.len
    exact (List.length_eq_zero_iff.mp this.symm).symm
  | @snoc ts fl t f h hf ih =>
    intro gl g
    have lg := g.len
    obtain ⟨gl0, f0, rfl⟩ := unsnoc (l := gl) (fun z => by rw [z] at lg; simp at lg)
    obtain ⟨g0, hf0⟩ := g.inv rfl rfl
    obtain rfl := ih g0
    have : f = f0 := by
      have e := hf.trans hf0.symm
      cases f <;> cases f0 <;> simp_all
    rw [this]
theorem turn83 (ps : List Int) (t : Tie) : turnT ps t = ⟨t.one, t.other, (inP ps t.one ^^ inP ps t.other) ^^ t.foe⟩ := by
  unfold turnT flipT
  cases t with
  | mk a b c => cases inP ps a <;> cases inP ps b <;> cases c <;> rfl
theorem turn83_two (ps : List Int) (t : Tie) : turnT ps (turnT ps t) = t := by
  rw [turn83, turn83]
  cases t with
  | mk a b c => cases h1 : inP ps a <;> cases h2 : inP ps b <;> cases c <;> simp [h1, h2]
theorem RP.turn83 {ts : List Tie} {ps : List Int} {x y : Int} {p : Bool} (h : RP ts x y p) : RP (ts.map (turnT ps)) x y (p ^^ (inP ps x ^^ inP ps y)) := by
  induction h with
  | nil =>
    have : (false ^^ (inP ps x ^^ inP ps x)) = false := by cases inP ps x <;> rfl
    rw [this]
    exact .nil
  | @step b c p k r ad ih =>
    obtain ⟨t, ht, hk, hj⟩ := ad
    have a2 : Adj (ts.map (turnT ps)) b c ((inP ps b ^^ inP ps c) ^^ k) := by
      refine ⟨turnT ps t, List.mem_map_of_mem ht, ?_, ?_⟩
      · rw [FF.turn83, ← hk]
        rcases hj with ⟨e1, e2⟩ | ⟨e1, e2⟩
        · rw [← e1, ← e2]
        · rw [← e1, ← e2]
          cases inP ps t.one <;> cases inP ps t.other <;> rfl
      · rw [FF.turn83]
        exact hj
    have := RP.step ih a2
    have e : ((p ^^ (inP ps x ^^ inP ps b)) ^^ ((inP ps b ^^ inP ps c) ^^ k)) = ((p ^^ k) ^^ (inP ps x ^^ inP ps c)) := by
      cases p <;> cases k <;> cases inP ps x <;> cases inP ps b <;> cases inP ps c <;> rfl
    rw [e] at this
    exact this
theorem kt_map83 {f : Tie → Tie} : ∀ (ts : List Tie) (fl : List Bool), kt (ts.map f) fl = (kt ts fl).map f
  | [], _ => rfl
  | _ :: _, [] => rfl
  | t :: ts, b :: fl => by
    have ih := kt_map83 (f := f) ts fl
    cases b
    · exact ih
    · exact congrArg (f t :: ·) ih
theorem kps_turn1 {kts : List Tie} {ps : List Int} {t : Tie} (h : Kps kts t) : Kps (kts.map (turnT ps)) (turnT ps t) := by
  have et := turn83 ps t
  rcases h with h | h
  · left
    rintro ⟨p, r⟩
    rw [et] at r
    have r2 := RP.turn83 (ps := ps) r
    rw [List.map_map] at r2
    have : kts.map (turnT ps ∘ turnT ps) = kts := by
      rw [show turnT ps ∘ turnT ps = id from funext fun t => turn83_two ps t, List.map_id]
    rw [this] at r2
    exact h ⟨_, r2⟩
  · right
    have r2 := RP.turn83 (ps := ps) h
    rw [et]
    show RP _ t.one t.other ((inP ps t.one ^^ inP ps t.other) ^^ t.foe)
    rw [show ((inP ps t.one ^^ inP ps t.other) ^^ t.foe) = (t.foe ^^ (inP ps t.one ^^ inP ps t.other)) from by cases t.foe <;> cases inP ps t.one <;> cases inP ps t.other <;> rfl]
    exact r2
theorem kps_turn {kts : List Tie} {ps : List Int} {t : Tie} : Kps (kts.map (turnT ps)) (turnT ps t) ↔ Kps kts t := by
  refine ⟨fun h => ?_, kps_turn1⟩
  have := kps_turn1 (ps := ps) h
  rw [List.map_map, turn83_two, show turnT ps ∘ turnT ps = id from funext fun t => turn83_two ps t, List.map_id] at this
  exact this
theorem Rt.turn {ts : List Tie} {fl : List Bool} {ps : List Int} (h : Rt ts fl) : Rt (ts.map (turnT ps)) fl := by
  induction h with
  | nil => exact .nil
  | snoc h hf ih =>
    rw [List.map_append]
    refine .snoc ih ?_
    rw [kt_map83, kps_turn]
    exact hf
theorem turn_ok83 {n : Int} {ps : List Int} {t : Tie} (h : TieOk n t) : TieOk n (turnT ps t) := by
  rw [turn83]
  exact h
/-- what is right so far was right ahead -/
theorem Rt.take {ts : List Tie} {fl : List Bool} (h : Rt ts fl) : ∀ i : Nat, Rt (ts.take i) (fl.take i) := by
  induction h with
  | nil => intro i; simp; exact .nil
  | @snoc ts fl t f h hf ih =>
    intro i
    have hl := h.len
    by_cases hi : i ≤ ts.length
    · rw [List.take_append_of_le_length hi, List.take_append_of_le_length (by omega)]
      exact ih i
    · rw [List.take_of_length_le (by rw [List.length_append]; simp; omega), List.take_of_length_le (by rw [List.length_append]; simp; omega)]
      exact .snoc h hf
theorem kt_take_sub {ts : List Tie} {fl : List Bool} (i : Nat) : ∀ t ∈ kt (ts.take i) (fl.take i), t ∈ kt ts fl := fun t ht => by
  obtain ⟨j, h1, h2⟩ := mem_kt.mp ht
  refine mem_kt.mpr ⟨j, ?_, ?_⟩
  · rw [List.getElem?_take] at h1
    split at h1
    · exact h1
    · cases h1
  · rw [List.getElem?_take] at h2
    split at h2
    · exact h2
    · cases h2
theorem Rt.at {ts : List Tie} {fl : List Bool} (h : Rt ts fl) {i : Nat} {t : Tie} {f : Bool} (ht : ts[i]? = some t) (hf : fl[i]? = some f) : f = true ↔ Kps (kt (ts.take i) (fl.take i)) t := by
  have h1 := h.take (i + 1)
  rw [take_snoc ht, take_snoc hf] at h1
  exact (h1.inv rfl rfl).2
/-- all true ahead of the first that broke -/
theorem first_false {fl : List Bool} {i : Nat} (h : ∀ j < i, fl[j]? = some true) : fl.take i = List.replicate i true := by
  apply List.ext_getElem?
  intro j
  rw [List.getElem?_take, List.getElem?_replicate]
  split
  · exact h j (by assumption)
  · rfl
theorem first_at {n : Nat} {ts : List Tie} {fl : List Bool} (si : SI n ts fl) (rt : Rt ts fl) {i : Nat} (hi : fl[i]? = some false) (h : ∀ j < i, fl[j]? = some true) : FirstAt ts n i := by
  have il : i < ts.length := by
    have := (List.getElem?_eq_some_iff.mp hi).1
    have := si.len
    omega
  have et : ts[i]? = some ts[i] := List.getElem?_eq_getElem il
  have ek : kt (ts.take i) (fl.take i) = ts.take i := by
    rw [first_false h]
    exact kt_takeAll (by omega)
  have calm : ¬ Odd (ts.take i) n := fun o => si.calm (o.mono fun t ht => kt_take_sub i t (by rw [ek]; exact ht))
  refine ⟨il, calm, ?_⟩
  have := rt.at et hi
  rw [ek] at this
  rw [take_snoc et]
  refine Classical.byContradiction fun z => ?_
  have k := (kps_calm (fun x hx => si.ok x (List.mem_of_mem_take hx)) (si.ok _ (List.getElem_mem il)) calm).mpr z
  exact Bool.noConfusion (this.mpr k)
theorem knT_false_nil {fl : List Bool} (h : knT fl false = []) : fl = List.replicate fl.length true := by
  have := first_false (fl := fl) (i := fl.length) fun j hj => ?_
  · rwa [List.take_length] at this
  cases e : fl[j]? with
  | none => exact absurd (List.getElem?_eq_none_iff.mp e) (by omega)
  | some b =>
    cases b
    · have : ((j : Nat) : Int) ∈ knT fl false := mem_knT.mpr ⟨⟨by omega, by omega⟩, by simpa using e⟩
      rw [h] at this
      cases this
    · rfl
theorem knT_head {fl : List Bool} {x : Int} {xs : List Int} (h : knT fl false = x :: xs) : ∃ i : Nat, x = (i : Int) ∧ fl[i]? = some false ∧ ∀ j < i, fl[j]? = some true := by
  have hx : x ∈ knT fl false := by rw [h]; simp
  obtain ⟨⟨h0, h1⟩, h2⟩ := mem_knT.mp hx
  refine ⟨x.toNat, by omega, h2, fun j hj => ?_⟩
  cases e : fl[j]? with
  | none => exact absurd (List.getElem?_eq_none_iff.mp e) (by omega)
  | some b =>
    cases b
    · exfalso
      have hm : ((j : Nat) : Int) ∈ knT fl false := mem_knT.mpr ⟨⟨by omega, by omega⟩, by simpa using e⟩
      have rise : (knT fl false).Pairwise (· < ·) := (rng_rising fl.length).sublist List.filter_sublist
      rw [h] at rise hm
      rcases List.mem_cons.mp hm with z | z
      · omega
      · have := List.rel_of_pairwise_cons rise z
        omega
    · rfl
/-! ### rings that are kept beside the stand -/
def RgV (H : Hp) (n : Nat) (ts : List Tie) (fl : List Bool) (v : V) (i : Nat) : Prop := (fl[i]? = some true ∧ v = .non) ∨ (fl[i]? = some false ∧ ∃ (r a b : Addr) (qs ms : List Int) (t : Tie), v = .ref r ∧ H r = some (.tup [.ref a, .ref b]) ∧ H a = some (.tup (qs.map V.int)) ∧ H b = some (.tup (ms.map V.int)) ∧ ts[i]? = some t ∧ RingN n (ts.take i) (fl.take i) t qs ms)
structure Rgs (H : Hp) (n : Nat) (ts : List Tie) (fl : List Bool) (rv : List V) : Prop where
  len : rv.length = fl.length
  each : ∀ (i : Nat) v, rv[i]? = some v → RgV H n ts fl v i
theorem RgV.tk {H H' : Hp} {n : Nat} {ts : List Tie} {fl : List Bool} {v : V} {i : Nat} (h : RgV H n ts fl v i) (k : Tk H H') : RgV H' n ts fl v i := by
  rcases h with h | ⟨h1, r, a, b, qs, ms, t, e, h2, h3, h4, h5⟩
  · exact .inl h
  · exact .inr ⟨h1, r, a, b, qs, ms, t, e, k _ _ h2, k _ _ h3, k _ _ h4, h5⟩
theorem Rgs.tk {H H' : Hp} {n : Nat} {ts : List Tie} {fl : List Bool} {rv : List V} (h : Rgs H n ts fl rv) (k : Tk H H') : Rgs H' n ts fl rv := ⟨h.len, fun i v e => (h.each i v e).tk k⟩
theorem Rgs.more {H : Hp} {n : Nat} {ts : List Tie} {fl : List Bool} {rv : List V} {t : Tie} {f : Bool} {v : V} (h : Rgs H n ts fl rv) (hl : ts.length = fl.length) (hv : RgV H n (ts ++ [t]) (fl ++ [f]) v ts.length) : Rgs H n (ts ++ [t]) (fl ++ [f]) (rv ++ [v]) := by
  have l := h.len
  refine ⟨by rw [List.length_append, List.length_append, l]; rfl, fun i u e => ?_⟩
  by_cases hi : i < rv.length
  · rw [List.getElem?_append_left hi] at e
    rcases h.each i u e with ⟨h1, h2⟩ | ⟨h1, r, a, b, qs, ms, t', e', h2, h3, h4, h5, h6⟩
    · exact .inl ⟨by rw [List.getElem?_append_left (by omega)]; exact h1, h2⟩
    · refine .inr ⟨by rw [List.getElem?_append_left (by omega)]; exact h1, r, a, b, qs, ms, t', e', h2, h3, h4, by rw [List.getElem?_append_left (by omega)]; exact h5, ?_⟩
      rw [List.take_append_of_le_length (by omega), List.take_append_of_le_length (by omega)]
      exact h6
  · have : i = ts.length := by
      have := (List.getElem?_eq_some_iff.mp e).1
      rw [List.length_append] at this
      simp at this
      omega
    subst this
    rw [List.getElem?_append_right (by omega), show ts.length - rv.length = 0 from by omega] at e
    cases e
    exact hv
theorem Rgs.less {H : Hp} {n : Nat} {ts : List Tie} {fl : List Bool} {rv : List V} {t : Tie} {f : Bool} {v : V} (h : Rgs H n (ts ++ [t]) (fl ++ [f]) (rv ++ [v])) (hl : ts.length = fl.length) : Rgs H n ts fl rv := by
  have l := h.len
  rw [List.length_append, List.length_append] at l
  have l : rv.length = fl.length := by simpa using l
  refine ⟨l, fun i u e => ?_⟩
  have hi := (List.getElem?_eq_some_iff.mp e).1
  rcases h.each i u (by rw [List.getElem?_append_left hi]; exact e) with ⟨h1, h2⟩ | ⟨h1, r, a, b, qs, ms, t', e', h2, h3, h4, h5, h6⟩
  · exact .inl ⟨by rw [List.getElem?_append_left (by omega)] at h1; exact h1, h2⟩
  · rw [List.getElem?_append_left (by omega)] at h1 h5
    rw [List.take_append_of_le_length (by omega), List.take_append_of_le_length (by omega)] at h6
    exact .inr ⟨h1, r, a, b, qs, ms, t', e', h2, h3, h4, h5, h6⟩
theorem unl83 {lim : Int} {xs : List Int} (nd : xs.Nodup) (r : ∀ x ∈ xs, 0 ≤ x ∧ x < lim) : unl lim (some (xs.map V.int)) = true := by
  have h1 : (xs.map V.int).all (wbelow lim) = true := by
    rw [List.all_eq_true]
    intro v hv
    obtain ⟨x, hx, rfl⟩ := List.mem_map.mp hv
    have := r x hx
    show (decide (0 ≤ x) && decide (x < lim)) = true
    rw [decide_eq_true this.1, decide_eq_true this.2]
    rfl
  have h2 : (xs.map V.int).Nodup := by
    refine List.pairwise_map.mpr (nd.imp fun {a b} h z => h (V.int.inj z))
  show ((xs.map V.int).all (wbelow lim) && decide (xs.map V.int).Nodup) = true
  rw [h1, decide_eq_true h2]
  rfl
theorem join83 {t : Tie} {a b : Int} (h : Jn t a b) : joinB t a b = true := by
  unfold joinB
  rcases h with ⟨h1, h2⟩ | ⟨h1, h2⟩ <;> simp [h1, h2]
theorem RingN.lt {n : Nat} {ts : List Tie} {fl : List Bool} {t : Tie} {qs ms : List Int} (h : RingN n ts fl t qs ms) (hl : ts.length = fl.length) {x : Int} (hx : x ∈ ms) : 0 ≤ x ∧ x ≤ (ts.length : Int) := by
  rcases h.m x hx with z | z
  · have := (mem_knT.mp z).1
    omega
  · omega
/-- a ring that was told is an odd ring of every web that begins with the same ties -/
theorem ring_odd83 {H : Hp} {n : Nat} {ts us : List Tie} {fl : List Bool} {i : Nat} {t : Tie} {qs ms : List Int} {r a b : Addr} (R : RingN n (ts.take i) (fl.take i) t qs ms) (hl : ts.length = fl.length) (ht : ts[i]? = some t) (hi : i < us.length) (hu : ∀ j : Nat, j ≤ i → us[j]? = ts[j]?) (hr : H r = some (.tup [.ref a, .ref b])) (ha : H a = some (.tup (qs.map V.int))) (hb : H b = some (.tup (ms.map V.int))) : oddB H n us (.ref r) = true := by
  have it := (List.getElem?_eq_some_iff.mp ht).1
  have lt : (ts.take i).length = i := by rw [List.length_take]; omega
  have lf : (fl.take i).length = i := by rw [List.length_take]; omega
  have lo : ∀ x ∈ ms, 0 ≤ x ∧ x ≤ (i : Int) := fun x hx => by
    have := R.lt (by rw [lt, lf]) hx
    rw [lt] at this
    exact this
  have et : ∀ x ∈ ms, tieAt us x = tieN (ts.take i ++ [t]) x.toNat := fun x hx => by
    have := lo x hx
    show us.getD x.toNat ⟨0, 0, false⟩ = (ts.take i ++ [t]).getD x.toNat ⟨0, 0, false⟩
    rw [← take_snoc ht, List.getD_eq_getElem?_getD, List.getD_eq_getElem?_getD, List.getElem?_take, if_pos (by omega), hu _ (by omega)]
  have fo : foesI us ms = cntF (ts.take i ++ [t]) ms := by
    unfold foesI cntF
    congr 1
    exact List.filter_congr fun x hx => by rw [et x hx]
  have par := R.par
  rw [← cntF_par, ← fo] at par
  have par := of_decide_eq_true par
  unfold oddB ringB
  rw [parts_of' hr]
  show (ringP n us (parts H (.ref a)) (parts H (.ref b)) && (match parts H (.ref b) with | some es => decide (foesI us (es.map toI) % 2 = 1) | none => false)) = true
  rw [parts_of' ha, parts_of' hb]
  show (ringP n us (some (qs.map V.int)) (some (ms.map V.int)) && decide (foesI us ((ms.map V.int).map toI) % 2 = 1)) = true
  rw [toI_map, Bool.and_eq_true, decide_eq_true_iff]
  refine ⟨?_, by omega⟩
  show (unl n (some (qs.map V.int)) && (unl us.length (some (ms.map V.int)) && (decide (2 ≤ (qs.map V.int).length) && (decide ((qs.map V.int).length = (ms.map V.int).length) && ringI us ((qs.map V.int).map toI) ((ms.map V.int).map toI))))) = true
  rw [toI_map, toI_map, List.length_map, List.length_map, Bool.and_eq_true, Bool.and_eq_true, Bool.and_eq_true, Bool.and_eq_true, decide_eq_true_iff, decide_eq_true_iff]
  refine ⟨unl83 R.qd R.q, unl83 R.md fun x hx => ?_, R.two, R.len, ?_⟩
  · have := lo x hx
    omega
  unfold ringI
  rw [List.all_eq_true]
  intro k hk
  have hk := List.mem_range.mp hk
  obtain ⟨x, y, m, h1, h2, h3, h4⟩ := R.each k hk
  rw [List.getD_eq_getElem?_getD, List.getD_eq_getElem?_getD, List.getD_eq_getElem?_getD, h1, h2, h3]
  show joinB (tieAt us m) x y = true
  rw [et m (List.mem_of_getElem? h3)]
  exact join83 h4
theorem filter_one {p : Int → Bool} {x : Int} : ∀ {l : List Int}, l.Nodup → x ∈ l → (∀ y ∈ l, p y = true ↔ y = x) → l.filter p = [x]
  | [], _, h, _ => by cases h
  | y :: l, nd, h, hp => by
    obtain ⟨h1, h2⟩ := List.nodup_cons.mp nd
    by_cases e : y = x
    · subst e
      rw [List.filter_cons_of_pos ((hp y (by simp)).mpr rfl)]
      congr 1
      rw [List.filter_eq_nil_iff]
      intro z hz hpz
      rw [(hp z (List.mem_cons_of_mem _ hz)).mp hpz] at hz
      exact h1 hz
    · rw [List.filter_cons_of_neg (fun z => e ((hp y (by simp)).mp z))]
      refine filter_one h2 ?_ fun z hz => hp z (List.mem_cons_of_mem _ hz)
      rcases List.mem_cons.mp h with z | z
      · exact absurd z.symm e
      · exact z
theorem ring_others {n : Nat} {ts : List Tie} {fl : List Bool} {i : Nat} {t : Tie} {qs ms : List Int} (R : RingN n (ts.take i) (fl.take i) t qs ms) (hl : ts.length = fl.length) (hf : fl[i]? = some false) : ms.filter (fun m => decide (m ∈ knT fl false)) = [(i : Int)] := by
  have il := (List.getElem?_eq_some_iff.mp hf).1
  have lt : (ts.take i).length = i := by rw [List.length_take]; omega
  have own := R.own
  rw [lt] at own
  refine filter_one R.md own fun y hy => ?_
  rw [decide_eq_true_iff]
  have hi : ((i : Nat) : Int) ∈ knT fl false := mem_knT.mpr ⟨⟨by omega, by omega⟩, by simpa using hf⟩
  refine ⟨fun h => ?_, fun h => by rw [h]; exact hi⟩
  rcases R.m y hy with z | z
  · have h1 := (mem_knT.mp z).2
    have h0 := (mem_knT.mp z).1
    have h2 := (mem_knT.mp h).2
    rw [List.getElem?_take] at h1
    split at h1
    · rw [h1] at h2
      cases h2
    · cases h1
  · rw [lt] at z
    exact z
theorem RgV.thing {H : Hp} {n : Nat} {ts : List Tie} {fl : List Bool} {qs ms : List Int} {t : Tie} {i : Nat} {r a b : Addr} (R : RingN n (ts.take i) (fl.take i) t qs ms) (hr : H r = some (.tup [.ref a, .ref b])) (ha : H a = some (.tup (qs.map V.int))) (hb : H b = some (.tup (ms.map V.int))) : Thing2 H (.ref r) := by
  have row : ∀ {c : Addr} {ns : List Int}, H c = some (.tup (ns.map V.int)) → ns.length ≤ 1000 → Part2 H (.ref c) := fun {c ns} hc hn => ⟨.inr (.inl ⟨_, hc⟩), fun ys e => by
    rw [parts_of' hc] at e
    cases e
    refine ⟨fun y hy => ?_, by rw [List.length_map]; exact hn⟩
    obtain ⟨z, _, rfl⟩ := List.mem_map.mp hy
    exact trivial⟩
  refine ⟨.inr (.inl ⟨_, hr⟩), fun xs e x hx => ?_⟩
  rw [parts_of' hr] at e
  cases e
  have l := R.len
  have f := R.few
  rcases List.mem_cons.mp hx with rfl | hx
  · exact row ha (by omega)
  · rw [List.mem_singleton.mp hx]
    exact row hb (by omega)
def spRingsR (Ps : List Addr) : Sp := fun vs H Q _ => ∃ (wv : V) (B L : Addr) (n : Nat) (ts : List Tie) (fl : List Bool) (rv : List V), vs = [wv, .ref B, .ref L] ∧ WebAt H wv n ts ∧ WebOk n ts ∧ ts.length = fl.length ∧ H B = some (.tup ((knT fl false).map V.int)) ∧ H L = some (.lst rv) ∧ Rgs H n ts fl rv ∧ Tabs Ps H ∧ ∀ H', Kt Ps H H' → Q (.bl true) H'
section
variable {P : Program} {w : World} {K : PySem.W.Frag} {mg : Str → Option Value} {base : Heap}
end
section
variable {P : Program} {w : World} {K : PySem.W.Frag} {mg : Str → Option Value} {base : Heap}
set_option maxHeartbeats 4000000 in
theorem ok_l_rings_right {f : Addr} {fd : FuncData} {Ps : List Addr} (F : Fun K "_law_rings_right" "_law_rings_right" s_l_rings_right f fd) (D_odd_ring_holds : Df P w K mg base 6 "odd_ring_holds" ["web", "thing"] (spOdd Ps)) : FnOk P w K mg base CX0 7 f fd ["_law_web", "_law_broken", "_law_rings"] (spRingsR Ps) := by
  obtain ⟨f_odd_ring_holds, fd_odd_ring_holds, G_odd_ring_holds, g_odd_ring_holds, k_odd_ring_holds, b_odd_ring_holds⟩ := D_odd_ring_holds
  refine F.ok sc_l_rings_right (fun vs H Q E h => ?_) (fun cdv A outer s H vs Q E hr h => ?_)
  · obtain ⟨wv, B, L, n, ts, fl, rv, rfl, _⟩ := h
    rfl
  · obtain ⟨wv, B, L, n, ts, fl, rv, rfl, hW, ok, hl, hB, hL, rg, hT, q⟩ := h
    refine ⟨_, (pss_cons (ps_for PassesOwn.never rfl (pi_tup (pv 1)) (pg_name (i := 3) sc_l_rings_right.nd rfl (.inl rfl))
        (pss_cons (ps_set (i := 4) sc_l_rings_right.nd rfl (.inl rfl) (pe_ix ix_list (pv 2) (pv 3) (fun _ _ => rfl)))
        (pss_cons (ps_set (i := 5) sc_l_rings_right.nd rfl (.inl rfl) (pe_tup (pa_cons (pe_ix ix_tup (pv 0) pe_int (fun _ _ => rfl)) (pa_cons (pe_slice sl_tupU (pe_ix ix_tup (pv 0) pe_int (fun _ _ => rfl)) po_none (po_some (pe_op op_add (pv 3) pe_int))) pa_nil))))
        (pss_cons (ps_if (PW.pt (pw_or (pt_not (pt_val (pe_call G_odd_ring_holds (hr.mono (by decide)) (by rfl) g_odd_ring_holds k_odd_ring_holds b_odd_ring_holds .nil pass0 (pa_cons (pv 0) (pa_cons (pv 4) pa_nil))))) (pw_or1 (pt_not (pt_val (pe_call G_odd_ring_holds (hr.mono (by decide)) (by rfl) g_odd_ring_holds k_odd_ring_holds b_odd_ring_holds .nil pass0 (pa_cons (pv 5) (pa_cons (pv 4) pa_nil))))))))
          (pss_one (ps_ret pe_bl))
          pss_nil)
        (pss_cons (ps_setLc (i := 6) (own := [("_law_tie", 7)]) (g := (gName 7)) (te := tVar 7) rfl sc_l_rings_right.nd rfl rfl (sw_true rfl rfl rfl (by decide +kernel)) (pi_tup (pe_ix ix_tup (pv 4) pe_int (fun _ _ => rfl))) (blkOk_by (N := N_l_rings_right) (sc := defScope s_l_rings_right) (own := [("_law_tie", 7)]) (by decide +kernel)) (fun _ _ _ _ _ => (pg_name (i := 7) sc_l_rings_right.nd rfl (.inl rfl))) (fun _ _ _ _ _ => (pts_one (pt_cmpR (r := rIn K false) op_in_seq (pv 7) (pv 1) rfl))) (fun _ _ _ _ _ => (pv 7)))
        (pss_one (ps_if (PW.pt (pw_or (pt_cmpR op_notIn_seq (pv 3) (pe_ix ix_tup (pv 4) pe_int (fun _ _ => rfl)) rfl) (pw_or1 (pt_cmpR (op_neD hr.units) (pv 6) (pe_lst (pa_cons (pv 3) pa_nil)) (nomark _)))))
          (pss_one (ps_ret pe_bl))
          pss_nil)))))))
      (pss_one (ps_ret pe_bl))), ?_⟩
    obtain ⟨wa, wb, us, rfl, hwa, hwb, hp⟩ := id hW
    have lu : us.length = ts.length := Paired.length hp
    have few := ok.few
    refine ⟨.ref B, rfl, B, rfl, ⟨_, SqT.of hB⟩, ?_⟩
    refine for_tup (xs := (knT fl false).map V.int) (fun j σ' H' => ∃ (y3 y4 y5 y6 y7 : Option V), σ' = [some (.ref wa), some (.ref B), some (.ref L), y3, y4, y5, y6, y7] ∧ Kt Ps H H') ⟨none, none, none, none, none, rfl, Kt.refl hT⟩ (fun j σ' H' _ h => by
      obtain ⟨_, _, _, _, _, _, k⟩ := h
      exact SqT.of (k.tup hT hB)) ?_ ?_
    · rintro j x σ' H1 ex ⟨y3, y4, y5, y6, y7, rfl, k1⟩
      rw [List.getElem?_map] at ex
      obtain ⟨m, em, rfl⟩ := Option.map_eq_some_iff.mp ex
      obtain ⟨⟨m0, m1⟩, hm⟩ := mem_knT.mp (List.mem_of_getElem? em)
      obtain ⟨i, rfl⟩ : ∃ i : Nat, m = (i : Int) := ⟨m.toNat, by omega⟩
      have hm : fl[i]? = some false := by simpa using hm
      have il : i < rv.length := by have := rg.len; omega
      obtain ⟨v, ev⟩ : ∃ v, rv[i]? = some v := ⟨_, List.getElem?_eq_getElem il⟩
      have r1 := (rg.each i v ev)
      rcases r1 with ⟨z, _⟩ | ⟨_, r, a, b, qs, ms, t, rfl, hr', ha, hb, ht, R⟩
      · rw [hm] at z
        cases z
      have T1 : Tabs Ps H1 := k1.tab
      have tk1 := k1.tk hT
      have hW1 := hW.tk tk1
      have hL1 := k1.lst hT hL
      have hB1 := tk1 _ _ hB
      have hwa1 := tk1 _ _ hwa
      have hwb1 := tk1 _ _ hwb
      have hr1 := tk1 _ _ hr'
      have ha1 := tk1 _ _ ha
      have hb1 := tk1 _ _ hb
      refine ⟨.ref L, rfl, .int (i : Nat), rfl, L, rv, (i : Nat), .ref r, rfl, rfl, SqL.of hL1, atI_of (by omega) (by simpa using ev), ?_⟩
      refine ⟨.ref wa, rfl, wa, _, 0, .int n, rfl, rfl, SqT.of hwa1, rfl, .ref wa, rfl, wa, _, 1, .ref wb, rfl, rfl, SqT.of hwa1, rfl, .int (i : Nat), rfl, (i : Nat), 1, rfl, rfl, (i : Int) + 1, rfl, wb, us, rfl, hwb1, fun cb H2 s2 hcb => ⟨by show 2 ≤ sizeLine; decide, fun pa npa => ?_⟩⟩
      have s3 := s2.trans (same_new (o := .tup [.int n, .ref cb]) npa)
      have hpa := upd_same (H := H2) (a := pa) (o := .tup [.int n, .ref cb])
      have hcb3 := same_new (o := .tup [.int n, .ref cb]) npa _ _ hcb
      generalize upd H2 pa (.tup [.int n, .ref cb]) = H3 at s3 hpa hcb3
      have T3 := T1.same s3
      have il2 : i < ts.length := (List.getElem?_eq_some_iff.mp ht).1
      have ect : cutV us none (some ((i : Int) + 1)) = us.take (i + 1) := cut_take (k := i + 1) (by omega)
      rw [ect] at hcb3
      have hp2 : Paired (TieV H3) (us.take (i + 1)) (ts.take (i + 1)) := Paired.take (i + 1) (ties_tk (tk1.trans (Same.tk s3)) hp)
      have hW3 : WebAt H3 (.ref pa) n (ts.take (i + 1)) := ⟨pa, cb, _, rfl, hpa, hcb3, hp2⟩
      have ok3 : WebOk n (ts.take (i + 1)) := ⟨ok.lo, ok.hi, by rw [List.length_take]; omega, fun t ht => ok.ok t (List.mem_of_mem_take ht)⟩
      refine ⟨.ref wa, rfl, .ref r, rfl, .ref wa, n, ts, .ref r, rfl, hW1.tk (Same.tk s3), ok, RgV.thing R (s3 _ _ hr1) (s3 _ _ ha1) (s3 _ _ hb1), T3, fun H4 k4 => ⟨_, by rw [ring_odd83 (us := ts) R hl ht il2 (fun _ _ => rfl) (s3 _ _ hr1) (s3 _ _ ha1) (s3 _ _ hb1)], ?_⟩⟩
      have k3 := k1.trans (Kt.same T1 s3)
      have tk4 := k4.tk T3
      have T4 : Tabs Ps H4 := k4.tab
      refine ⟨.ref pa, rfl, .ref r, rfl, .ref pa, n, ts.take (i + 1), .ref r, rfl, hW3.tk tk4, ok3, RgV.thing R (tk4 _ _ (s3 _ _ hr1)) (tk4 _ _ (s3 _ _ ha1)) (tk4 _ _ (s3 _ _ hb1)), T4, fun H5 k5 => ⟨_, by rw [ring_odd83 (us := ts.take (i + 1)) R hl ht (by rw [List.length_take]; omega) (fun j hj => by rw [List.getElem?_take, if_pos (by omega)]) (tk4 _ _ (s3 _ _ hr1)) (tk4 _ _ (s3 _ _ ha1)) (tk4 _ _ (s3 _ _ hb1))], ?_⟩⟩
      have k5 := (k3.trans k4).trans k5
      have tk5 := k5.tk hT
      have T5 : Tabs Ps H5 := k5.tab
      have hr5 := tk5 _ _ hr'
      have hb5 := tk5 _ _ hb
      have hB5 := tk5 _ _ hB
      have lm := R.few
      refine ⟨.ref r, rfl, r, _, 1, .ref b, rfl, rfl, SqT.of hr5, rfl, b, rfl, ⟨_, SqT.of hb5⟩, fun Z nZ => ?_⟩
      refine lc_tup (xs := ms.map V.int) (fun j H' => H' Z = some (.lst (((ms.take j).filter fun m => decide (m ∈ knT fl false)).map V.int)) ∧ Same H5 H') ⟨upd_same, same_new nZ⟩ (fun j H' _ h => SqT.of (h.2 _ _ hb5)) ?_ ?_
      · rintro j y H6 ey ⟨hZ, s6⟩
        rw [List.getElem?_map] at ey
        obtain ⟨m, em, rfl⟩ := Option.map_eq_some_iff.mp ey
        have lf : ((ms.take j).filter fun m => decide (m ∈ knT fl false)).length ≤ 300 := by
          have := List.length_filter_le (fun m : Int => decide (m ∈ knT fl false)) (ms.take j)
          rw [List.length_take] at this
          omega
        refine ⟨rfl, .int m, rfl, .ref B, rfl, B, _, rfl, .inr (SqT.of (s6 _ _ hB5)), rfl, flat83 _, _, rfl, ?_⟩
        rw [if_neg (by decide), in83, List.take_add_one, em, List.filter_append]
        cases hf : decide (m ∈ knT fl false) with
        | true =>
          refine ⟨.int m, rfl, _, hZ, by rw [List.length_map]; exact small1000 (by omega), ?_, Same.mut s6 nZ⟩
          rw [upd_same, List.map_append, show List.filter (fun m => decide (m ∈ knT fl false)) (some m).toList = [m] from List.filter_cons_of_pos hf]
          rfl
        | false =>
          rw [show List.filter (fun m => decide (m ∈ knT fl false)) (some m).toList = [] from List.filter_cons_of_neg (by rw [hf]; simp), List.append_nil]
          exact ⟨hZ, s6⟩
      · rintro H6 ⟨hZ, s6⟩
        rw [List.length_map, List.take_length, ring_others R hl hm] at hZ
        have own := R.own
        have lt : (ts.take i).length = i := by rw [List.length_take]; omega
        rw [lt] at own
        refine ⟨.int (i : Nat), rfl, .ref r, rfl, r, _, 1, .ref b, rfl, rfl, SqT.of (s6 _ _ hr5), rfl, b, _, rfl, .inr (SqT.of (s6 _ _ hb5)), rfl, flat83 _, _, rfl, ?_⟩
        rw [if_pos rfl, in83, decide_eq_true own]
        refine ⟨.ref Z, rfl, _, rfl, by show 1 ≤ sizeLine; decide, fun p np => ?_⟩
        have sp := same_new (o := .lst [.int (i : Nat)]) np
        refine ⟨lstD [(i : Int)], lstD [(i : Int)], dp_lstD (sp _ _ hZ), dp_lstD upd_same, shaped_lstD _, shaped_lstD _, _, rfl, ?_⟩
        rw [SeqAt.eqv_refl _ (lay_lstD _)]
        exact ⟨_, _, _, _, _, rfl, k5.trans (Kt.same T5 (s6.trans sp))⟩
    · rintro σ' H1 ⟨y3, y4, y5, y6, y7, rfl, k1⟩
      exact q H1 k1
end
def spMade (C : Addr) : Sp := fun vs H Q _ => ∃ (v : V) (n : Nat) (ts : List Tie), vs = [v] ∧ WebAt H v n ts ∧ WebOk n ts ∧ ∀ (p T Kk Lo : Addr) (fl : List Bool) H', H p = none → H T = none → H Kk = none → H Lo = none → StA C H' p T Kk Lo n ts fl → SI n ts fl → Rt ts fl → Same H H' → Q (.ref p) H'
section
variable {P : Program} {w : World} {K : PySem.W.Frag} {mg : Str → Option Value} {base : Heap}
set_option maxHeartbeats 4000000 in
theorem ok_l_made {f C fI : Addr} {fd fdI : FuncData} (F : Fun K "_law_made" "_law_made" s_l_made f fd) (T : STx K C) (mgC : mg "Stand" = some (.ref C)) (MK : Mk K C fI) (GI : FnOk P w K mg base CX0 1 fI fdI ["self", "many"] (spSInit C)) (bI : Binds K fdI ["self", "many"] []) (D_come : DfM P w K mg base 2 C "come" ["self", "one", "other", "kind"] (spSCome C)) : FnOk P w K mg base CX0 3 f fd ["_law_web"] (spMade C) := by
  obtain ⟨f_come, fd_come, G_come, m_come, b_come⟩ := D_come
  refine F.ok sc_l_made (fun vs H Q E h => ?_) (fun cdv A outer s H vs Q E hr h => ?_)
  · obtain ⟨v, n, ts, rfl, _⟩ := h
    rfl
  · obtain ⟨v, n, ts, rfl, hW, ok, q⟩ := h
    refine ⟨_, (pss_cons (ps_set (i := 1) sc_l_made.nd rfl (.inl rfl) (pe_make MK GI (hr.mono (by decide)) (by rfl) mgC bI .nil pass0 (pa_cons (pe_ix ix_tup (pv 0) pe_int (fun _ _ => rfl)) pa_nil)))
      (pss_cons (ps_for PassesOwn.never rfl (pi_tup (pe_ix ix_tup (pv 0) pe_int (fun _ _ => rfl))) (pg_name (i := 2) sc_l_made.nd rfl (.inl rfl))
        (pss_one (ps_expr (pe_meth (pv 1) T.cl m_come G_come (hr.mono (by decide)) b_come .nil pass0 (pa_cons (pe_ix ix_tup (pv 2) pe_int (fun _ _ => rfl)) (pa_cons (pe_ix ix_tup (pv 2) pe_int (fun _ _ => rfl)) (pa_cons (pe_ix ix_tup (pv 2) pe_int (fun _ _ => rfl)) pa_nil)))))))
      (pss_one (ps_ret (pv 1))))), ?_⟩
    obtain ⟨wa, wb, us, rfl, hwa, hwb, hp⟩ := id hW
    have n1 : 1 ≤ n := by have := ok.lo; omega
    have n40 : n ≤ 40 := by have := ok.hi; omega
    have few := ok.few
    have lu : us.length = ts.length := Paired.length hp
    refine ⟨.ref wa, rfl, wa, _, 0, .int n, rfl, rfl, SqT.of hwa, rfl, fun p dx np ndx nex => ⟨p, dx, n, rfl, upd_same, fun Ti Kk Lo H1 nT nK nL S1 k1 => ⟨rfl, ?_⟩⟩⟩
    have e0 := (same_new (o := .own p) ndx).trans (same_new (p := p) (o := .ins C dx []) (by rw [upd_ne (Ne.symm nex)]; exact np))
    have nT0 := e0.free nT
    have nK0 := e0.free nK
    have nL0 := e0.free nL
    have s1 : Same H H1 := fun b o e => k1 b o (e0 _ _ e) (ne_of_none e np)
    refine ⟨.ref wa, rfl, wa, _, 1, .ref wb, rfl, rfl, SqT.of (s1 _ _ hwa), rfl, wb, rfl, ⟨us, SqT.of (s1 _ _ hwb)⟩, ?_⟩
    refine for_tup (xs := us) (fun i σ' H' => ∃ (y2 : Option V) (fl : List Bool), σ' = [some (.ref wa), some (.ref p), y2] ∧ StA C H' p Ti Kk Lo n (ts.take i) fl ∧ SI n (ts.take i) fl ∧ Rt (ts.take i) fl ∧ Same H H') ⟨none, [], rfl, S1, SI.nil n1 n40, .nil, s1⟩ (fun i σ' H' _ h => by
      obtain ⟨_, _, _, _, _, _, s2⟩ := h
      exact SqT.of (s2 _ _ hwb)) ?_ ?_
    · rintro i x σ' H2 ex ⟨y2, fl, rfl, S2, si, rt, s2⟩
      obtain ⟨t, et, c, rfl, hc⟩ := Paired.at hp ex
      have okt := ok.ok t (List.mem_of_getElem? et)
      have hc2 := s2 _ _ hc
      have hil : i < ts.length := (List.getElem?_eq_some_iff.mp et).1
      have few2 : (ts.take i).length ≤ 119 := by rw [List.length_take]; omega
      obtain ⟨dx2, ob2⟩ := id S2.ob
      refine ⟨.ref p, rfl, p, dx2, _, rfl, ob2, stF_no _ _ _ _ (by decide +kernel) (by decide +kernel) (by decide +kernel) (by decide +kernel), .ref c, rfl, c, _, 0, _, rfl, rfl, SqT.of hc2, rfl, .ref c, rfl, c, _, 1, _, rfl, rfl, SqT.of hc2, rfl, .ref c, rfl, c, _, 2, _, rfl, rfl, SqT.of hc2, rfl, p, Ti, Kk, Lo, n, _, _, t, rfl, S2, si, okt, fun hk H4 k4 S4 => ?_, fun hk rr a b qs ms H4 k4 S4 hrr ha hb way par => ?_⟩
      · rw [take_snoc et]
        exact ⟨_, fl ++ [true], rfl, S4, si.step okt few2 fun _ => hk, .snoc rt (by simp [hk]), k4.keep s2 np nT0 nK0 nL0⟩
      · rw [take_snoc et]
        exact ⟨_, fl ++ [false], rfl, S4, si.step okt few2 (fun z => by cases z), .snoc rt (by simp [hk]), k4.keep s2 np nT0 nK0 nL0⟩
    · rintro σ' H2 ⟨y2, fl, rfl, S2, si, rt, s2⟩
      rw [lu, List.take_length] at S2 si rt
      exact ⟨_, rfl, q p Ti Kk Lo fl H2 np nT0 nK0 nL0 S2 si rt s2⟩
end
def spBetR (C : Addr) : Sp := fun vs H Q _ => ∃ (p T Kk Lo : Addr) (n : Nat) (ts : List Tie) (fl : List Bool) (wv : V) (k : Int), vs = [.ref p, wv, .int k] ∧ StA C H p T Kk Lo n ts fl ∧ SI n ts fl ∧ WebAt H wv n (kt ts fl) ∧ 0 ≤ k ∧ k ≤ 300 ∧ ∀ H', Same H H' → Q (.bl true) H'
open Classical in
theorem mem_parts83 {ts : List Tie} {n k : Nat} {P : List Int} : P ∈ partsTo ts n k ↔ ∃ m, (0 ≤ m ∧ m < (k : Int)) ∧ leader ts m ∧ P = partOf ts n m := by
  unfold partsTo
  rw [List.mem_map]
  constructor
  · rintro ⟨m, hm, rfl⟩
    obtain ⟨h1, h2⟩ := List.mem_filter.mp hm
    exact ⟨m, mem_rng.mp h1, of_decide_eq_true h2, rfl⟩
  · rintro ⟨m, h1, h2, rfl⟩
    exact ⟨m, List.mem_filter.mpr ⟨mem_rng.mpr h1, decide_eq_true h2⟩, rfl⟩
theorem parts_both {ts : List Tie} {n : Nat} (ok : ∀ t ∈ ts, TieOk n t) {x y : Int} (hx : 0 ≤ x ∧ x < n) (hy : 0 ≤ y ∧ y < n) : (∃ P ∈ partsTo ts n n, x ∈ P ∧ y ∈ P) ↔ Rch ts x y := by
  constructor
  · rintro ⟨P, hP, h1, h2⟩
    obtain ⟨m, _, _, rfl⟩ := mem_parts83.mp hP
    exact ((mem_part.mp h1).2.symm).trans (mem_part.mp h2).2
  · intro r
    obtain ⟨m, lm, hm, rm⟩ := has_leader ok hx
    exact ⟨partOf ts n m, mem_parts83.mpr ⟨m, hm, lm, rfl⟩, mem_part.mpr ⟨hx, rm⟩, mem_part.mpr ⟨hy, rm.trans r⟩⟩
section
variable {P : Program} {w : World} {K : PySem.W.Frag} {mg : Str → Option Value} {base : Heap}
set_option maxHeartbeats 4000000 in
theorem ok_l_between_right {f C : Addr} {fd : FuncData} (F : Fun K "_law_between_right" "_law_between_right" s_l_between_right f fd) (M : Free mg) (T : STx K C) (D_parts_of : Df P w K mg base 2 "parts_of" ["web"] spPartsOf) (D_between : DfM P w K mg base 2 C "between" ["self", "one", "other"] (spSBetween C)) (D_sides : DfM P w K mg base 4 C "sides" ["self"] (spSSides C)) : FnOk P w K mg base CX0 5 f fd ["_law_stand", "_law_kept_web", "_law_k"] (spBetR C) := by
  obtain ⟨f_between, fd_between, G_between, m_between, b_between⟩ := D_between
  obtain ⟨f_sides, fd_sides, G_sides, m_sides, b_sides⟩ := D_sides
  obtain ⟨f_parts_of, fd_parts_of, G_parts_of, g_parts_of, k_parts_of, b_parts_of⟩ := D_parts_of
  refine F.ok sc_l_between_right (fun vs H Q E h => ?_) (fun cdv A outer s H vs Q E hr h => ?_)
  · obtain ⟨p, Ti, Kk, Lo, n, ts, fl, wv, k, rfl, _⟩ := h
    rfl
  · obtain ⟨p, Ti, Kk, Lo, n, ts, fl, wv, k, rfl, S, si, hW, k0, k1, q⟩ := h
    refine ⟨_, (pss_cons (ps_set (i := 3) sc_l_between_right.nd rfl (.inl rfl) (pe_call G_parts_of (hr.mono (by decide)) (by rfl) g_parts_of k_parts_of b_parts_of .nil pass0 (pa_cons (pv 1) pa_nil)))
      (pss_cons (ps_set (i := 4) sc_l_between_right.nd rfl (.inl rfl) (pe_meth0 (pv 0) T.cl m_sides G_sides (hr.mono (by decide)) b_sides .nil pass0))
      (pss_cons (ps_for PassesOwn.never rfl (pi_range1 (by rfl) M.range (pa_cons pe_int pa_nil)) (pg_name (i := 5) sc_l_between_right.nd rfl (.inl rfl))
        (pss_cons (ps_set (i := 6) sc_l_between_right.nd rfl (.inr rfl) (pe_op op_mod (pe_op op_add (pv 2) (pv 5)) (pe_ix ix_tup (pv 1) pe_int (fun _ _ => rfl))))
        (Evl.pss_cut (ps_set (i := 7) sc_l_between_right.nd rfl (.inr rfl) (pe_op op_mod (pe_op op_add (pe_op op_mul pe_int (pv 2)) (pe_op op_mul (pv 5) (pv 5))) (pe_ix ix_tup (pv 1) pe_int (fun _ _ => rfl))))
        (pss_cons (ps_set (i := 8) sc_l_between_right.nd rfl (.inl rfl) (pe_ix ix_list (pe_lst (pa_cons pe_str (pa_cons pe_str pa_nil))) (pe_callTy call_int1 (by rfl) M.int (by decide +kernel) (pa_cons (pe_cmpR op_eq (pe_ix ix_tup (pv 4) (pv 6) (fun _ _ => rfl)) (pe_ix ix_tup (pv 4) (pv 7) (fun _ _ => rfl)) (nomark _)) pa_nil)) (fun _ _ => rfl)))
        (Evl.pss_cut (ps_if (pt_cmpR (op_eqE hr.units0) (pe_lc (own := [("_law_part", 9)]) (g := (gName 9)) (te := tVar 9) rfl sc_l_between_right.nd (pi_tup (pv 3)) (blkOk_by (N := N_l_between_right) (sc := defScope s_l_between_right) (own := [("_law_part", 9)]) (by decide +kernel)) (fun _ _ _ _ _ => (pg_name (i := 9) sc_l_between_right.nd rfl (.inl rfl))) (fun _ _ _ _ _ => (pts_one (PW.pt (pw_and (pt_cmpR (r := rIn K false) op_in_seq (pv 6) (pv 9) rfl) (pw_and1 (pt_cmpR (r := rIn K false) op_in_seq (pv 7) (pv 9) rfl)))))) (fun _ _ _ _ _ => (pv 9))) (pe_lst pa_nil) (nomark _))
          (pss_one (ps_set (i := 8) sc_l_between_right.nd rfl (.inl rfl) pe_non))
          pss_nil)
        (pss_one (ps_if (pt_cmpR op_ne (pe_meth (pv 0) T.cl m_between G_between (hr.mono (by decide)) b_between .nil pass0 (pa_cons (pv 6) (pa_cons (pv 7) pa_nil))) (pv 8) (nomark _))
          (pss_one (ps_ret pe_bl))
          pss_nil)))))))
      (pss_one (ps_ret pe_bl))))), ?_⟩
    have n1 := si.n1
    have n40 := si.n40
    have okk := si.okk
    have okw := si.webOk
    obtain ⟨dx, ob⟩ := id S.ob
    obtain ⟨wa, wb, us, rfl, hwa, hwb, hp⟩ := id hW
    refine ⟨.ref wa, rfl, .ref wa, n, _, rfl, hW, okw, fun v' H1 s1 hP => ?_⟩
    obtain ⟨Pa, bs, rfl, hPa, hbs⟩ := hP
    have lbs := Paired.length hbs
    have lPs := partsTo_len (kt ts fl) n n
    have S1 := S.same s1
    refine ⟨.ref p, rfl, p, dx, _, rfl, s1 _ _ ob, stF_no _ _ _ _ (by decide +kernel) (by decide +kernel) (by decide +kernel) (by decide +kernel), p, Ti, Kk, Lo, n, ts, fl, rfl, S1, si, fun ss sa H2 told cons s2 hsa => ?_⟩
    have s3 := s1.trans s2
    have hPa2 := s2 _ _ hPa
    have hbs2 : Paired (IntsV H2) bs (partsTo (kt ts fl) n n) := Paired.mono (fun _ _ x => IntsV.tk (Same.tk s2) x) hbs
    refine ⟨4, rfl, by decide, by decide, ?_⟩
    refine for_range (lo := 0) (n := 4) (fun i σ' H' => ∃ (y5 y6 y7 y8 y9 : Option V), σ' = [some (.ref p), some (.ref wa), some (.int k), some (.ref Pa), some (.ref sa), y5, y6, y7, y8, y9] ∧ Same H2 H') ⟨none, none, none, none, none, rfl, Same.refl _⟩ ?_ ?_
    · rintro i σ' H3 hi ⟨y5, y6, y7, y8, y9, rfl, s4⟩
      rw [show (0 : Int) + (i : Nat) = i from by omega]
      have hwa3 := (s3.trans s4) _ _ hwa
      have hsa3 := s4 _ _ hsa
      have bn : Bin ss := told.bin
      have ln := told.len
      refine ⟨.int k, rfl, .int (i : Nat), rfl, k, (i : Nat), rfl, rfl, .ref wa, rfl, wa, _, 0, .int n, rfl, rfl, SqT.of hwa3, rfl, _, n, rfl, rfl, (show (0 : Int) < n by omega), ?_⟩
      have ax := mod_rng (a := k + (i : Int)) (m := (n : Int)) (by omega)
      have ay := mod_rng (a := 3 * k + (i : Int) * (i : Int)) (m := (n : Int)) (by omega)
      refine ⟨fun σ' H' => ∃ x y : Int, σ' = [some (.ref p), some (.ref wa), some (.int k), some (.ref Pa), some (.ref sa), some (.int (i : Nat)), some (.int x), some (.int y), y8, y9] ∧ (0 ≤ x ∧ x < n) ∧ (0 ≤ y ∧ y < n) ∧ H' = H3, ?_, ?_⟩
      · exact ⟨.int k, rfl, 3, k, rfl, rfl, .inl ⟨by decide, by decide⟩, .int (i : Nat), rfl, .int (i : Nat), rfl, (i : Nat), (i : Nat), rfl, rfl, .inl ⟨by omega, by omega⟩, _, _, rfl, rfl, .ref wa, rfl, wa, _, 0, .int n, rfl, rfl, SqT.of hwa3, rfl, _, n, rfl, rfl, (show (0 : Int) < n by omega), _, _, rfl, ax, ay, rfl⟩
      clear ax ay
      rintro σ' H3 ⟨x, y, rfl, ax, ay, rfl⟩
      obtain ⟨u, _, eu, au⟩ := atI_ints (xs := ss) ax.1 (by omega)
      obtain ⟨v, _, ev', av⟩ := atI_ints (xs := ss) ay.1 (by omega)
      refine ⟨by show 2 ≤ sizeLine; decide, fun p2 np2 => ?_⟩
      have s5 := same_new (o := .lst [.str "apart", .str "together"]) np2
      refine ⟨.ref sa, rfl, .int x, rfl, sa, _, x, .int u, rfl, rfl, SqT.of (s5 _ _ hsa3), au, .ref sa, rfl, .int y, rfl, sa, _, y, .int v, rfl, rfl, SqT.of (s5 _ _ hsa3), av, rfl, .inr ⟨_, rfl, p2, _, _, _, rfl, rfl, SqL.of upd_same, pick2 _ _ _, ?_⟩⟩
      have s6 := s4.trans s5
      generalize upd H3 p2 (.lst [.str "apart", .str "together"]) = H4 at s6 ⊢
      refine ⟨fun σ' H' => ∃ y9, σ' = [some (.ref p), some (.ref wa), some (.int k), some (.ref Pa), some (.ref sa), some (.int (i : Nat)), some (.int x), some (.int y), some (betV (bet (kt ts fl) x y)), y9] ∧ Same H2 H', ?_, ?_⟩
      · have hPa4 := s6 _ _ hPa2
        have hbs4 : Paired (IntsV H4) bs (partsTo (kt ts fl) n n) := Paired.mono (fun _ _ x => IntsV.tk (Same.tk s6) x) hbs2
        refine ⟨.ref Pa, rfl, Pa, rfl, ⟨_, SqT.of hPa4⟩, fun Z nZ => ?_⟩
        refine lc_tup (xs := bs) (fun j H' => ∃ zs : List V, H' Z = some (.lst zs) ∧ zs.length ≤ j ∧ (zs = [] ↔ ∀ P ∈ (partsTo (kt ts fl) n n).take j, ¬ (x ∈ P ∧ y ∈ P)) ∧ Same H4 H') ⟨[], upd_same, Nat.le_refl _, by simp, same_new nZ⟩ (fun j H' _ ⟨_, _, _, _, h⟩ => SqT.of (h _ _ hPa4)) ?_ ?_
        · rintro j v H5 ev ⟨zs, hZ, lz, iz, s7⟩
          obtain ⟨P, eP, b, rfl, hb⟩ := Paired.at hbs4 ev
          have hb5 := s7 _ _ hb
          have hj : j < bs.length := (List.getElem?_eq_some_iff.mp ev).1
          have yes : x ∈ P ∧ y ∈ P → zs.length < sizeLine ∧ ∃ ws : List V, (upd H5 Z (.lst (zs ++ [V.ref b]))) Z = some (.lst ws) ∧ ws.length ≤ j + 1 ∧ (ws = [] ↔ ∀ P ∈ (partsTo (kt ts fl) n n).take (j + 1), ¬ (x ∈ P ∧ y ∈ P)) ∧ Same H4 (upd H5 Z (.lst (zs ++ [V.ref b]))) := fun h => by
            refine ⟨small1000 (by omega), zs ++ [.ref b], upd_same, by rw [List.length_append]; show zs.length + 1 ≤ _; omega, ⟨fun z => by simp at z, fun z => ?_⟩, Same.mut s7 nZ⟩
            exact absurd h (z P (by rw [take_snoc eP]; simp))
          have no : ¬ (x ∈ P ∧ y ∈ P) → ∃ ws : List V, H5 Z = some (.lst ws) ∧ ws.length ≤ j + 1 ∧ (ws = [] ↔ ∀ P ∈ (partsTo (kt ts fl) n n).take (j + 1), ¬ (x ∈ P ∧ y ∈ P)) ∧ Same H4 H5 := fun h => by
            refine ⟨zs, hZ, by omega, ?_, s7⟩
            rw [iz, take_snoc eP]
            refine ⟨fun z Q hQ => ?_, fun z Q hQ => z Q (List.mem_append_left _ hQ)⟩
            rcases List.mem_append.mp hQ with w | w
            · exact z Q w
            · rw [List.mem_singleton.mp w]
              exact h
          refine ⟨rfl, .int x, rfl, .ref b, rfl, b, _, rfl, .inr (SqT.of hb5), rfl, flat83 _, _, rfl, ?_⟩
          rw [if_neg (show ¬ (false = true) by decide), in83]
          by_cases hx : x ∈ P
          · rw [decide_eq_true hx]
            refine ⟨.int y, rfl, .ref b, rfl, b, _, rfl, .inr (SqT.of hb5), rfl, flat83 _, _, rfl, ?_⟩
            rw [if_neg (show ¬ (false = true) by decide), in83]
            by_cases hy : y ∈ P
            · rw [decide_eq_true hy]
              exact ⟨.ref b, rfl, _, hZ, yes ⟨hx, hy⟩⟩
            · rw [decide_eq_false hy]
              exact no fun z => hy z.2
          · rw [decide_eq_false hx]
            exact no fun z => hx z.1
        · rintro H5 ⟨zs, hZ, lz, iz, s7⟩
          rw [lbs, List.take_length] at iz
          refine ⟨by show 0 ≤ sizeLine; decide, fun Y nY => ⟨Z, Y, zs, rfl, rfl, SqL.of (same_new nY _ _ hZ), SqL.of upd_same, _, rfl, ?_⟩⟩
          have sY := same_new (o := .lst []) nY
          have pb : (∃ P ∈ partsTo (kt ts fl) n n, x ∈ P ∧ y ∈ P) ↔ Rch (kt ts fl) x y := parts_both okk ax ay
          by_cases r : Rch (kt ts fl) x y
          · obtain ⟨P, hP, hxy⟩ := pb.mpr r
            have nz : zs ≠ [] := fun z => (iz.mp z) P hP hxy
            rw [show zs.isEmpty = false from by cases zs; exact absurd rfl nz; rfl]
            refine ⟨y9, ?_, (s6.trans s7).trans sY⟩
            obtain ⟨p1, r1⟩ := r
            have w := cons_walk bn (by rw [ln]; exact okk) cons r1
            rw [bet_some si.calm ax r1]
            have e1 : sd ss x = u := by unfold sd; rw [List.getD_eq_getElem?_getD, eu]; rfl
            have e2 : sd ss y = v := by unfold sd; rw [List.getD_eq_getElem?_getD, ev']; rfl
            have b1 := bn u (List.mem_of_getElem? eu)
            have b2 := bn v (List.mem_of_getElem? ev')
            unfold one? at w
            rw [e1, e2] at w
            subst w
            rcases b1 with rfl | rfl <;> rcases b2 with rfl | rfl <;> rfl
          · have ez : zs = [] := iz.mpr fun P hP h => r (pb.mp ⟨P, hP, h⟩)
            subst ez
            refine ⟨y9, ?_, (s6.trans s7).trans sY⟩
            rw [bet_none r]
            rfl
      · rintro σ' H5 ⟨y9, rfl, s7⟩
        have S5 := S.same (s3.trans s7)
        have fin : ∀ H6, Same H5 H6 → ∃ (y5 y6 y7 y8 z9 : Option V), [some (.ref p), some (.ref wa), some (.int k), some (.ref Pa), some (.ref sa), some (.int (i : Nat)), some (.int x), some (.int y), some (betV (bet (kt ts fl) x y)), y9] = [some (.ref p), some (.ref wa), some (.int k), some (.ref Pa), some (.ref sa), y5, y6, y7, y8, z9] ∧ Same H2 H6 := fun H6 s8 => ⟨_, _, _, _, _, rfl, s7.trans s8⟩
        refine ⟨.ref p, rfl, p, dx, _, rfl, (s3.trans s7) _ _ ob, stF_no _ _ _ _ (by decide +kernel) (by decide +kernel) (by decide +kernel) (by decide +kernel), .int x, rfl, .int y, rfl, p, Ti, Kk, Lo, n, ts, fl, x, y, rfl, S5, si, ax, fun H6 nr s8 => ⟨_, rfl, ?_⟩, fun b H6 r s8 => ⟨betV (bet (kt ts fl) x y), rfl, ?_⟩⟩
        · have e : betV (bet (kt ts fl) x y) = .non := by rw [bet_none nr]; rfl
          refine ⟨by rw [e]; rfl, _, rfl, ?_⟩
          rw [show decide (V.non = betV (bet (kt ts fl) x y)) = true from decide_eq_true e.symm]
          exact fin _ s8
        · have e : betV (bet (kt ts fl) x y) = .str (if b = true then "apart" else "together") := by rw [bet_some si.calm ax r]; rfl
          refine ⟨by rw [e]; rfl, _, rfl, ?_⟩
          rw [show decide (V.str (if b = true then "apart" else "together") = betV (bet (kt ts fl) x y)) = true from decide_eq_true e.symm]
          exact fin _ s8
    · rintro σ' H3 ⟨y5, y6, y7, y8, y9, rfl, s4⟩
      exact q H3 (s3.trans s4)
end
def spKeptR (C : Addr) : Sp := fun vs H Q _ => ∃ (p T Kk Lo : Addr) (n : Nat) (ts : List Tie) (fl : List Bool) (L : Addr) (rv : List V) (k : Int), vs = [.ref p, .ref L, .int k] ∧ StA C H p T Kk Lo n ts fl ∧ SI n ts fl ∧ Rt ts fl ∧ H L = some (.lst rv) ∧ Rgs H n ts fl rv ∧ 0 ≤ k ∧ k ≤ 300 ∧ ∀ H', Same H H' → Q (.bl true) H'
section
variable {P : Program} {w : World} {K : PySem.W.Frag} {mg : Str → Option Value} {base : Heap}
set_option maxHeartbeats 4000000 in
theorem ok_l_kept_right {f C : Addr} {fd : FuncData} (F : Fun K "_law_kept_right" "_law_kept_right" s_l_kept_right f fd) (M : Free mg) (T : STx K C) (m_enumerate : mg "enumerate" = none) (D_l_between_right : Df P w K mg base 5 "_law_between_right" ["_law_stand", "_law_kept_web", "_law_k"] (spBetR C)) (D_sides_of : Df P w K mg base 3 "sides_of" ["web"] spFixed) (D_first_broken : Df P w K mg base 3 "first_broken" ["web"] spFB) (D_broken : DfM P w K mg base 1 C "broken" ["self"] (spSBroken C)) (D_sides : DfM P w K mg base 4 C "sides" ["self"] (spSSides C)) (D_web : DfM P w K mg base 1 C "web" ["self"] (spSWeb C)) : FnOk P w K mg base CX0 6 f fd ["_law_stand", "_law_rings", "_law_k"] (spKeptR C) := by
  obtain ⟨f_broken, fd_broken, G_broken, m_broken, b_broken⟩ := D_broken
  obtain ⟨f_sides, fd_sides, G_sides, m_sides, b_sides⟩ := D_sides
  obtain ⟨f_web, fd_web, G_web, m_web, b_web⟩ := D_web
  obtain ⟨f_l_between_right, fd_l_between_right, G_l_between_right, g_l_between_right, k_l_between_right, b_l_between_right⟩ := D_l_between_right
  obtain ⟨f_sides_of, fd_sides_of, G_sides_of, g_sides_of, k_sides_of, b_sides_of⟩ := D_sides_of
  obtain ⟨f_first_broken, fd_first_broken, G_first_broken, g_first_broken, k_first_broken, b_first_broken⟩ := D_first_broken
  refine F.ok sc_l_kept_right (fun vs H Q E h => ?_) (fun cdv A outer s H vs Q E hr h => ?_)
  · obtain ⟨p, Ti, Kk, Lo, n, ts, fl, L, rv, k, rfl, _⟩ := h
    rfl
  · obtain ⟨p, Ti, Kk, Lo, n, ts, fl, L, rv, k, rfl, S, si, rt, hL, rg, k0, k1, q⟩ := h
    refine ⟨_, (pss_cons (ps_set (i := 3) sc_l_kept_right.nd rfl (.inl rfl) (pe_meth0 (pv 0) T.cl m_web G_web (hr.mono (by decide)) b_web .nil pass0))
      (pss_cons (ps_set (i := 4) sc_l_kept_right.nd rfl (.inr rfl) (pe_meth0 (pv 0) T.cl m_broken G_broken (hr.mono (by decide)) b_broken .nil pass0))
      (Evl.pss_cut (ps_if (pt_cmpR (op_neD hr.units) (pe_callTy call_list_of (by rfl) M.list (by decide +kernel) (pa_cons (pv 4) pa_nil)) (pe_lc (own := [("_law_number", 5)]) (g := (gName 5)) (te := tVar 5) rfl sc_l_kept_right.nd (pi_range1 (by rfl) M.range (pa_cons (pe_callB call_len_seq (by rfl) M.len PySem.boot_len (pa_cons (pv 1) pa_nil)) pa_nil)) (blkOk_by (N := N_l_kept_right) (sc := defScope s_l_kept_right) (own := [("_law_number", 5)]) (by decide +kernel)) (fun _ _ _ _ _ => (pg_name (i := 5) sc_l_kept_right.nd rfl (.inl rfl))) (fun _ _ _ _ _ => (pts_one (pt_cmpR op_notN (pe_ix (r := rIxL K) ix_list (pv 1) (pv 5) (fun _ _ => rfl)) pe_non (nomark _)))) (fun _ _ _ _ _ => (pv 5))) (nomark _))
        (pss_one (ps_ret pe_bl))
        pss_nil)
      (Evl.pss_cut (ps_setLc (i := 6) (own := [("_law_number", 5), ("_law_tie", 7)]) (g := (gTup K 2 (gCons (gName 5) (gCons (gName 7) gNil)))) (te := tVar 7) rfl sc_l_kept_right.nd rfl rfl (sw_true rfl rfl rfl (by decide +kernel)) (pi_enumT (by rfl) m_enumerate (pa_cons (pe_ix ix_tup (pv 3) pe_int (fun _ _ => rfl)) pa_nil)) (blkOk_by (N := N_l_kept_right) (sc := defScope s_l_kept_right) (own := [("_law_number", 5), ("_law_tie", 7)]) (by decide +kernel)) (fun _ _ _ _ _ => (pg_tup rfl (pgs_cons (pg_name (i := 5) sc_l_kept_right.nd rfl (.inl rfl)) (pgs_cons (pg_name (i := 7) sc_l_kept_right.nd rfl (.inl rfl)) pgs_nil)))) (fun _ _ _ _ _ => (pts_one (pt_cmpR (r := rIn K true) op_notIn_seq (pv 5) (pv 4) rfl))) (fun _ _ _ _ _ => (pv 7)))
      (pss_cons (ps_set (i := 8) sc_l_kept_right.nd rfl (.inl rfl) (pe_tup (pa_cons (pe_ix ix_tup (pv 3) pe_int (fun _ _ => rfl)) (pa_cons (pe_callTy call_tuple_of (by rfl) M.tuple (by decide +kernel) (pa_cons (pv 6) pa_nil)) pa_nil))))
      (pss_cons (ps_if (PW.pt (pw_or (pt_cmpR (op_neD hr.units) (pe_call G_sides_of (hr.mono (by decide)) (by rfl) g_sides_of k_sides_of b_sides_of .nil pass0 (pa_cons (pv 8) pa_nil)) (pe_meth0 (pv 0) T.cl m_sides G_sides (hr.mono (by decide)) b_sides .nil pass0) (nomark _)) (pw_or1 (pt_not (pt_val (pe_call G_l_between_right (hr.mono (by decide)) (by rfl) g_l_between_right k_l_between_right b_l_between_right .nil pass0 (pa_cons (pv 0) (pa_cons (pv 8) (pa_cons (pv 2) pa_nil)))))))))
        (pss_one (ps_ret pe_bl))
        pss_nil)
      (pss_cons (ps_if (pt_cmpR (op_eqD hr.units) (pv 4) (pe_tup pa_nil) (nomark _))
        (pss_one (ps_ret (pe_and (pe_cmpR  (op_eqD hr.units) (pe_call G_sides_of (hr.mono (by decide)) (by rfl) g_sides_of k_sides_of b_sides_of .nil pass0 (pa_cons (pv 3) pa_nil)) (pe_meth0 (pv 0) T.cl m_sides G_sides (hr.mono (by decide)) b_sides .nil pass0) (nomark _)) (pe_one (pe_cmpR op_isN (pe_call G_first_broken (hr.mono (by decide)) (by rfl) g_first_broken k_first_broken b_first_broken .nil pass0 (pa_cons (pv 3) pa_nil)) pe_non (nomark _))))))
        pss_nil)
      (pss_one (ps_ret (pe_and (pe_cmpR op_isN (pe_call G_sides_of (hr.mono (by decide)) (by rfl) g_sides_of k_sides_of b_sides_of .nil pass0 (pa_cons (pv 3) pa_nil)) pe_non (nomark _)) (pe_one (pe_cmpR op_eq (pe_ix ix_tup (pe_call G_first_broken (hr.mono (by decide)) (by rfl) g_first_broken k_first_broken b_first_broken .nil pass0 (pa_cons (pv 3) pa_nil)) pe_int (fun _ _ => rfl)) (pe_ix ix_tup (pv 4) pe_int (fun _ _ => rfl)) (nomark _))))))))))))), ?_⟩
    have n1 := si.n1
    have n40 := si.n40
    have okk := si.okk
    have few := si.few
    have lf := si.len
    have lr := rg.len
    have okw : WebOk n ts := ⟨by omega, by omega, few, si.ok⟩
    obtain ⟨dx, ob⟩ := id S.ob
    refine ⟨.ref p, rfl, p, dx, _, rfl, ob, stF_no _ _ _ _ (by decide +kernel) (by decide +kernel) (by decide +kernel) (by decide +kernel), p, Ti, Kk, Lo, n, ts, fl, rfl, S, fun wv H1 s1 hW => ?_⟩
    obtain ⟨wa, wb, us, rfl, hwa, hwb, hp⟩ := id hW
    have lu : us.length = ts.length := Paired.length hp
    refine ⟨.ref p, rfl, p, dx, _, rfl, s1 _ _ ob, stF_no _ _ _ _ (by decide +kernel) (by decide +kernel) (by decide +kernel) (by decide +kernel), p, Ti, Kk, Lo, n, ts, fl, rfl, S.same s1, fun ba H2 s2 hba => ?_⟩
    have s3 := s1.trans s2
    have hL2 := s3 _ _ hL
    refine ⟨fun σ' H' => ∃ y5, σ' = [some (.ref p), some (.ref L), some (.int k), some (.ref wa), some (.ref ba), y5, none, none, none] ∧ Same H2 H', ?_, ?_⟩
    · refine ⟨.ref ba, rfl, ba, _, rfl, .inr (SqT.of hba), fun B nB => ?_⟩
      have sB := same_new (o := .lst ((knT fl false).map V.int)) nB
      have hB := upd_same (H := H2) (a := B) (o := .lst ((knT fl false).map V.int))
      have hL3 := sB _ _ hL2
      generalize upd H2 B (.lst ((knT fl false).map V.int)) = H3 at sB hB hL3
      refine ⟨.ref L, rfl, L, _, rfl, .inl (SqL.of hL3), rv.length, rfl, by omega, by omega, fun Z nZ => ?_⟩
      have rg3 := rg.tk (Same.tk (s3.trans sB))
      have lk : ∀ j : Nat, j ≤ rv.length → ((rng j).filter fun i => fl.getD i.toNat false == false).length ≤ 120 := fun j hj => by
        have := List.length_filter_le (fun i : Int => fl.getD i.toNat false == false) (rng j)
        rw [rng_length] at this
        omega
      refine lc_range (lo := 0) (n := rv.length) (fun j H' => H' Z = some (.lst (((rng j).filter fun i => fl.getD i.toNat false == false).map V.int)) ∧ Same H3 H') ⟨upd_same, same_new nZ⟩ ?_ ?_
      · rintro j H4 hj ⟨hZ, s4⟩
        rw [show (0 : Int) + (j : Nat) = j from by omega]
        obtain ⟨v, ev⟩ : ∃ v, rv[j]? = some v := ⟨_, List.getElem?_eq_getElem hj⟩
        refine ⟨rfl, .ref L, rfl, .int (j : Nat), rfl, L, rv, (j : Nat), v, rfl, rfl, SqL.of (s4 _ _ hL3), atI_of (by omega) (by simpa using ev), rfl, _, rfl, ?_⟩
        have lj := lk j (by omega)
        rw [rng_succ, List.filter_append]
        rcases rg3.each j v ev with ⟨hf, rfl⟩ | ⟨hf, r, a, b, qs, ms, t, rfl, _⟩
        · rw [show decide (V.non = V.non) = true from decide_eq_true rfl]
          rw [show List.filter (fun i : Int => fl.getD i.toNat false == false) [(j : Int)] = [] from List.filter_cons_of_neg (by show ¬ ((fl.getD (j : Int).toNat false == false) = true); rw [List.getD_eq_getElem?_getD, show ((j : Nat) : Int).toNat = j from by omega, hf]; decide), List.append_nil]
          exact ⟨hZ, s4⟩
        · rw [show decide (V.ref r = V.non) = false from decide_eq_false (by intro z; cases z)]
          rw [show List.filter (fun i : Int => fl.getD i.toNat false == false) [(j : Int)] = [(j : Int)] from List.filter_cons_of_pos (by show (fl.getD (j : Int).toNat false == false) = true; rw [List.getD_eq_getElem?_getD, show ((j : Nat) : Int).toNat = j from by omega, hf]; decide)]
          refine ⟨.int (j : Nat), rfl, _, hZ, by rw [List.length_map]; exact small1000 (by omega), ?_, Same.mut s4 nZ⟩
          rw [upd_same, List.map_append]
          rfl
      · rintro H4 ⟨hZ, s4⟩
        have ekn : ((rng rv.length).filter fun i => fl.getD i.toNat false == false) = knT fl false := by rw [lr]; rfl
        rw [ekn] at hZ
        refine ⟨lstD (knT fl false), lstD (knT fl false), dp_lstD (s4 _ _ hB), dp_lstD hZ, shaped_lstD _, shaped_lstD _, _, rfl, ?_⟩
        rw [SeqAt.eqv_refl _ (lay_lstD _)]
        exact ⟨_, rfl, sB.trans s4⟩
    rintro σ' H3 ⟨y5, rfl, s4⟩
    have hwa3 := (s2.trans s4) _ _ hwa
    have hwb3 := (s2.trans s4) _ _ hwb
    have hba3 := s4 _ _ hba
    have hp3 := ties_tk (Same.tk (s2.trans s4)) hp
    refine ⟨fun σ' H' => ∃ (y5 y7 : Option V) (Z : Addr) (zs : List V), σ' = [some (.ref p), some (.ref L), some (.int k), some (.ref wa), some (.ref ba), y5, some (.ref Z), y7, none] ∧ H' Z = some (.lst zs) ∧ Paired (TieV H') zs (kt ts fl) ∧ Same H3 H', ?_, ?_⟩
    · refine ⟨.ref wa, rfl, wa, _, 1, .ref wb, rfl, rfl, SqT.of hwa3, rfl, wb, us, rfl, SqT.of hwb3, fun Z nZ => ?_⟩
      refine lc_it (walk_enumT (xs := us)) (fun j H' => ∃ zs, H' Z = some (.lst zs) ∧ zs.length ≤ j ∧ Paired (TieV H') zs (kt (ts.take j) (fl.take j)) ∧ Same H3 H') ⟨[], upd_same, Nat.le_refl _, by simp [kt]; exact .nil, same_new nZ⟩ (fun j H' _ ⟨_, _, _, _, h⟩ => SqT.of (h _ _ hwb3)) ?_ ?_
      · rintro j x H4 H5 hj ⟨zs, hZ, lz, hzs, s5⟩ ⟨T', x1, y, rfl, nT, rfl, e1, e2⟩
        obtain rfl : V.int (j : Nat) = x1 := Option.some.inj e1
        obtain ⟨t, et, c, rfl, hc⟩ := Paired.at hp3 e2
        have sT := same_new (o := .tup [.int (j : Nat), .ref c]) nT
        have s6 := s5.trans sT
        have hZ2 := sT _ _ hZ
        refine ⟨T', _, rfl, SqT.of upd_same, rfl, _, _, rfl, _, _, rfl, rfl, rfl, .int (j : Nat), rfl, .ref ba, rfl, ba, _, rfl, .inr (SqT.of (s6 _ _ hba3)), rfl, flat83 _, _, rfl, ?_⟩
        have hj2 : j < ts.length := (List.getElem?_eq_some_iff.mp et).1
        obtain ⟨b, eb⟩ : ∃ b, fl[j]? = some b := ⟨_, List.getElem?_eq_getElem (by omega)⟩
        have ek : kt (ts.take (j + 1)) (fl.take (j + 1)) = kt (ts.take j) (fl.take j) ++ (if b = true then [t] else []) := by
          rw [take_snoc et, take_snoc eb]
          exact kt_snoc (by rw [List.length_take, List.length_take]; omega)
        rw [if_pos rfl, in83, ek]
        have hin : ((j : Nat) : Int) ∈ knT fl false ↔ b = false := by
          rw [mem_knT]
          rw [show ((j : Nat) : Int).toNat = j from by omega, eb]
          refine ⟨fun h => Option.some.inj h.2, fun h => ⟨⟨by omega, by omega⟩, by rw [h]⟩⟩
        have hzs2 := ties_tk (Same.tk sT) hzs
        cases b with
        | true =>
          rw [decide_eq_false (fun z => by have := hin.mp z; cases this), if_pos rfl]
          have s7 := Same.mut (o := .lst (zs ++ [.ref c])) s6 nZ
          have tk7 : Tk _ _ := tk_lst (ys := zs ++ [.ref c]) hZ2
          exact ⟨.ref c, rfl, zs, hZ2, small1000 (by omega), zs ++ [.ref c], upd_same, by rw [List.length_append]; show zs.length + 1 ≤ _; omega, Paired.snoc (ties_tk tk7 hzs2) ⟨c, rfl, s7 _ _ hc⟩, s7⟩
        | false =>
          rw [decide_eq_true (hin.mpr rfl), if_neg (by decide), List.append_nil]
          exact ⟨zs, hZ2, by omega, hzs2, s6⟩
      · rintro H4 ⟨zs, hZ, lz, hzs, s5⟩
        rw [lu, List.take_length, lf, List.take_length] at hzs
        exact ⟨_, _, Z, zs, rfl, hZ, hzs, s5⟩
    rintro σ' H4 ⟨y5, y7, Z, zs, rfl, hZ, hzs, s5⟩
    have s6 := s4.trans s5
    have hwa4 := s5 _ _ hwa3
    refine ⟨.ref wa, rfl, wa, _, 0, .int n, rfl, rfl, SqT.of hwa4, rfl, .ref Z, rfl, Z, zs, rfl, .inl ⟨SqL.of hZ, fun tb ntb => ⟨by show 2 ≤ sizeLine; decide, fun pa npa => ?_⟩⟩⟩
    have s7 := (same_new (o := .tup zs) ntb).trans (same_new (o := .tup [.int n, .ref tb]) npa)
    have htb := same_new (o := .tup [.int n, .ref tb]) npa _ _ (upd_same (H := H4) (a := tb) (o := .tup zs))
    have hpa := upd_same (H := upd H4 tb (.tup zs)) (a := pa) (o := .tup [.int n, .ref tb])
    generalize upd (upd H4 tb (.tup zs)) pa (.tup [.int n, .ref tb]) = H5 at s7 htb hpa
    have hWk : WebAt H5 (.ref pa) n (kt ts fl) := ⟨pa, tb, zs, rfl, hpa, htb, ties_tk (Same.tk s7) hzs⟩
    have s57 := (s3.trans s6).trans s7
    have okk := si.webOk
    refine ⟨.ref pa, rfl, .ref pa, n, _, rfl, hWk, okk, fun ss r H6 told cons s8 hr6 => ?_, fun H' o _ => absurd o si.calm⟩
    refine ⟨.ref p, rfl, p, dx, _, rfl, (s57.trans s8) _ _ ob, stF_no _ _ _ _ (by decide +kernel) (by decide +kernel) (by decide +kernel) (by decide +kernel), p, Ti, Kk, Lo, n, ts, fl, rfl, S.same (s57.trans s8), si, fun ss2 r2 H7 told2 cons2 s9 hr7 => ?_⟩
    obtain rfl := told_unique si.okk told told2 cons
    refine ⟨intsD ss, intsD ss, .tup (SqT.of (s9 _ _ hr6)) (dp_ints _), .tup (SqT.of hr7) (dp_ints _), shaped_intsD _, shaped_intsD _, _, rfl, ?_⟩
    rw [SeqAt.eqv_refl _ (lay_intsD _)]
    have s79 := (s57.trans s8).trans s9
    refine ⟨.ref p, rfl, .ref pa, rfl, .int k, rfl, p, Ti, Kk, Lo, n, ts, fl, .ref pa, k, rfl, S.same s79, si, hWk.tk (Same.tk (s8.trans s9)), k0, k1, fun H8 s10 => ⟨_, rfl, ?_⟩⟩
    have s8A := s79.trans s10
    have hba8 := (((((s4.trans s5).trans s7).trans s8).trans s9).trans s10) _ _ hba
    have hW8 := hW.tk (Same.tk ((((((s2.trans s4).trans s5).trans s7).trans s8).trans s9).trans s10))
    refine ⟨.ref ba, rfl, by show 0 ≤ sizeLine; decide, fun te nte => ⟨intsD (knT fl false), intsD [], .tup (SqT.of (same_new nte _ _ hba8)) (dp_ints _), .tup (SqT.of upd_same) .nil, shaped_intsD _, shaped_intsD _, _, rfl, ?_⟩⟩
    have sE := same_new (o := .tup []) nte
    have s9A := s8A.trans sE
    have hba9 := sE _ _ hba8
    have hW9 := hW8.tk (Same.tk sE)
    generalize upd H8 te (.tup []) = H9 at s9A hba9 hW9
    rw [eqv_nil]
    have S9 := S.same s9A
    have ob9 := s9A _ _ ob
    cases ekn : knT fl false with
    | nil =>
      have efl := knT_false_nil ekn
      have ek : kt ts fl = ts := by rw [efl, ← lf]; exact kt_all ts
      have calm : ¬ Odd ts n := by have := si.calm; rwa [ek] at this
      refine ⟨.ref wa, rfl, .ref wa, n, ts, rfl, hW9, okw, fun ss3 r3 H10 told3 cons3 s11 hr3 => ?_, fun H' o _ => absurd o calm⟩
      refine ⟨.ref p, rfl, p, dx, _, rfl, s11 _ _ ob9, stF_no _ _ _ _ (by decide +kernel) (by decide +kernel) (by decide +kernel) (by decide +kernel), p, Ti, Kk, Lo, n, ts, fl, rfl, S9.same s11, si, fun ss4 r4 H11 told4 cons4 s12 hr4 => ?_⟩
      rw [ek] at told4 cons4
      obtain rfl := told_unique si.ok told3 told4 cons3
      refine ⟨intsD ss3, intsD ss3, .tup (SqT.of (s12 _ _ hr3)) (dp_ints _), .tup (SqT.of hr4) (dp_ints _), shaped_intsD _, shaped_intsD _, ?_⟩
      rw [SeqAt.eqv_refl _ (lay_intsD _)]
      have s13 := s11.trans s12
      refine ⟨true, rfl, ?_⟩
      refine ⟨.ref wa, rfl, .ref wa, n, ts, rfl, hW9.tk (Same.tk s13), okw, fun H12 _ s14 => ⟨rfl, ?_⟩, fun k1 t r rr a b qs ms H' f _ _ _ _ _ _ _ => absurd f.odd calm⟩
      rw [show decide (V.non = V.non) = true from decide_eq_true rfl]
      exact q _ ((s9A.trans s13).trans s14)
    | cons x xs =>
      obtain ⟨i, rfl, hi, hb⟩ := knT_head ekn
      have fa := first_at si rt hi hb
      refine ⟨.ref wa, rfl, .ref wa, n, ts, rfl, hW9, okw, fun ss3 r3 H10 told3 cons3 s11 hr3 => absurd fa.odd (cons_no_odd told3.bin (by rw [told3.len]; exact si.ok) cons3), fun H10 o s11 => ⟨rfl, ?_⟩⟩
      rw [show decide (V.non = V.non) = true from decide_eq_true rfl]
      refine ⟨true, rfl, ?_⟩
      refine ⟨.ref wa, rfl, .ref wa, n, ts, rfl, hW9.tk (Same.tk s11), okw, fun H12 c _ => absurd fa.odd c, fun k1 t r rr a b qs ms H12 f et R s12 hr hrr ha hb' => ?_⟩
      obtain rfl := fa.one f
      rw [ekn] at hba9
      refine ⟨r, _, 0, .int (i : Nat), rfl, rfl, SqT.of hr, rfl, .ref ba, rfl, ba, _, 0, .int (i : Nat), rfl, rfl, SqT.of ((s11.trans s12) _ _ hba9), atI_nat (j := 0) rfl, rfl, ?_⟩
      rw [show decide (V.int (i : Nat) = V.int (i : Nat)) = true from decide_eq_true rfl]
      exact q _ ((s9A.trans s11).trans s12)
end
def spTurnR (K : PySem.W.Frag) (C : Addr) : Sp := fun vs H Q _ => ∃ (sc : Addr) (ns : List Int) (p T Kk Lo : Addr) (n : Nat) (ts : List Tie) (fl : List Bool) (k : Int), vs = [.ref sc, .ref p, .int k] ∧ SqL K H sc (ns.map V.int) ∧ StA C H p T Kk Lo n ts fl ∧ SI n ts fl ∧ Rt ts fl ∧ 0 ≤ k ∧ k ≤ 300 ∧ ∀ H', Same H H' → Q (.bl true) H'
section
variable {P : Program} {w : World} {K : PySem.W.Frag} {mg : Str → Option Value} {base : Heap}
set_option maxHeartbeats 4000000 in
theorem ok_l_turned_right {f C : Addr} {fd : FuncData} (F : Fun K "_law_turned_right" "_law_turned_right" s_l_turned_right f fd) (M : Free mg) (T : STx K C) (D_l_cell_at : Df P w K mg base 1 "_law_cell_at" ["_law_script", "_law_k"] (spCell K)) (D_l_draw : Df P w K mg base 1 "_law_draw" ["_law_well", "_law_many"] spDraw) (D_turned : Df P w K mg base 2 "turned" ["web", "places"] (spTurned K)) (D_l_made : Df P w K mg base 3 "_law_made" ["_law_web"] (spMade C)) (D_broken : DfM P w K mg base 1 C "broken" ["self"] (spSBroken C)) (D_web : DfM P w K mg base 1 C "web" ["self"] (spSWeb C)) : FnOk P w K mg base CX0 4 f fd ["_law_script", "_law_stand", "_law_k"] (spTurnR K C) := by
  obtain ⟨f_broken, fd_broken, G_broken, m_broken, b_broken⟩ := D_broken
  obtain ⟨f_web, fd_web, G_web, m_web, b_web⟩ := D_web
  obtain ⟨f_l_cell_at, fd_l_cell_at, G_l_cell_at, g_l_cell_at, k_l_cell_at, b_l_cell_at⟩ := D_l_cell_at
  obtain ⟨f_l_draw, fd_l_draw, G_l_draw, g_l_draw, k_l_draw, b_l_draw⟩ := D_l_draw
  obtain ⟨f_turned, fd_turned, G_turned, g_turned, k_turned, b_turned⟩ := D_turned
  obtain ⟨f_l_made, fd_l_made, G_l_made, g_l_made, k_l_made, b_l_made⟩ := D_l_made
  refine F.ok sc_l_turned_right (fun vs H Q E h => ?_) (fun cdv A outer s H vs Q E hr h => ?_)
  · obtain ⟨sc, ns, p, Ti, Kk, Lo, n, ts, fl, k, rfl, _⟩ := h
    rfl
  · obtain ⟨sc, ns, p, Ti, Kk, Lo, n, ts, fl, k, rfl, hS, S, si, rt, k0, k1, q⟩ := h
    refine ⟨_, (pss_cons (ps_set (i := 3) sc_l_turned_right.nd rfl (.inl rfl) (pe_meth0 (pv 1) T.cl m_web G_web (hr.mono (by decide)) b_web .nil pass0))
      (pss_cons (ps_set (i := 4) sc_l_turned_right.nd rfl (.inr rfl) (pe_lst (pa_cons (pe_op op_add (pe_call G_l_cell_at (hr.mono (by decide)) (by rfl) g_l_cell_at k_l_cell_at b_l_cell_at .nil pass0 (pa_cons (pv 0) (pa_cons (pe_op op_add pe_int (pe_op op_mod (pv 2) pe_int)) pa_nil))) (pv 2)) (pa_cons (pe_op op_add pe_int (pv 2)) pa_nil))))
      (Evl.pss_cut (ps_set (i := 5) sc_l_turned_right.nd rfl (.inl rfl) (pe_callTy call_tuple_of (by rfl) M.tuple (by decide +kernel) (pa_cons (pe_lc (own := [("_law_place", 6)]) (g := (gName 6)) (te := tVar 6) rfl sc_l_turned_right.nd (pi_range1 (by rfl) M.range (pa_cons (pe_ix ix_tup (pv 3) pe_int (fun _ _ => rfl)) pa_nil)) (blkOk_by (N := N_l_turned_right) (sc := defScope s_l_turned_right) (own := [("_law_place", 6)]) (by decide +kernel)) (fun _ _ _ _ _ => (pg_name (i := 6) sc_l_turned_right.nd rfl (.inl rfl))) (fun _ _ _ _ _ => (pts_one (pt_cmpR op_eq (pe_call G_l_draw (hr.mono (by decide)) (by rfl) g_l_draw k_l_draw b_l_draw .nil pass0 (pa_cons (pv 4) (pa_cons pe_int pa_nil))) pe_int (nomark _)))) (fun _ _ _ _ _ => (pv 6))) pa_nil)))
      (pss_one (ps_ret (pe_cmpR  (op_eqD hr.units) (pe_meth0 (pe_call G_l_made (hr.mono (by decide)) (by rfl) g_l_made k_l_made b_l_made .nil pass0 (pa_cons (pe_call G_turned (hr.mono (by decide)) (by rfl) g_turned k_turned b_turned .nil pass0 (pa_cons (pv 3) (pa_cons (pv 5) pa_nil))) pa_nil)) T.cl m_broken G_broken (hr.mono (by decide)) b_broken .nil pass0) (pe_meth0 (pv 1) T.cl m_broken G_broken (hr.mono (by decide)) b_broken .nil pass0) (nomark _))))))), ?_⟩
    have n1 := si.n1
    have n40 := si.n40
    have few := si.few
    obtain ⟨dx, ob⟩ := id S.ob
    refine ⟨.ref p, rfl, p, dx, _, rfl, ob, stF_no _ _ _ _ (by decide +kernel) (by decide +kernel) (by decide +kernel) (by decide +kernel), p, Ti, Kk, Lo, n, ts, fl, rfl, S, fun wv H1 s1 hW => ?_⟩
    obtain ⟨wa, wb, us, rfl, hwa, hwb, hp⟩ := id hW
    have mk := mod_rng (a := k) (m := 62) (by decide)
    refine ⟨.ref sc, rfl, .int k, rfl, k, 62, rfl, rfl, (show (0 : Int) < 62 by decide), 1, _, rfl, rfl, sc, ns, 1 + k % 62, rfl, Same.seq s1 hS, by omega, fun v => ⟨.int k, rfl, _, _, rfl, rfl, .int k, rfl, 500, k, rfl, rfl, by show 2 ≤ sizeLine; decide, fun d nd => ?_⟩⟩
    have D2 : Well (upd H1 d (.lst [.int (v + k), .int (500 + k)])) d 1000 := ⟨_, _, upd_same, by omega, by omega⟩
    have s2 := s1.trans (same_new (o := .lst [.int (v + k), .int (500 + k)]) nd)
    have hW2 := hW.tk (Same.tk (same_new (o := .lst [.int (v + k), .int (500 + k)]) nd))
    have hwa2 := same_new (o := .lst [.int (v + k), .int (500 + k)]) nd _ _ hwa
    generalize upd H1 d (.lst [.int (v + k), .int (500 + k)]) = H2 at D2 s2 hW2 hwa2
    refine ⟨fun σ' H' => ∃ (y6 : Option V) (e : Addr) (ps : List Int), σ' = [some (.ref sc), some (.ref p), some (.int k), some (.ref wa), some (.ref d), some (.ref e), y6] ∧ H' e = some (.tup (ps.map V.int)) ∧ ps.length ≤ 40 ∧ KW d H2 H', ?_, ?_⟩
    · refine ⟨.ref wa, rfl, wa, _, 0, .int n, rfl, rfl, SqT.of hwa2, rfl, (n : Nat), rfl, by omega, by omega, fun Z nZ => ?_⟩
      have nZd : Z ≠ d := by
        obtain ⟨x, c, h, _⟩ := D2
        exact (ne_of_none h nZ).symm
      refine lc_range (lo := 0) (n := n) (fun j H' => ∃ ps : List Int, H' Z = some (.lst (ps.map V.int)) ∧ ps.length ≤ j ∧ Well H' d (1000 + j) ∧ KW d H2 H') ⟨[], upd_same, Nat.le_refl _, D2.same (same_new nZ), Same.kw (same_new nZ)⟩ ?_ ?_
      · rintro j H3 hj ⟨ps, hZ, lp, D3, k3⟩
        refine ⟨rfl, .ref d, rfl, d, 1000 + j, 2, rfl, D3, by omega, by decide, by decide, fun x H4 x0 x1 D4 k4 => ⟨rfl, _, rfl, ?_⟩⟩
        have hZ4 := k4 _ _ nZd hZ
        have D5 : Well H4 d (1000 + ((j + 1 : Nat) : Int)) := by
          rw [show (1000 + ((j + 1 : Nat) : Int)) = 1000 + (j : Int) + 1 from by omega]
          exact D4
        have k5 := k3.trans k4
        cases hx : decide (V.int x = V.int 1) with
        | true =>
          refine ⟨.int (0 + (j : Nat)), rfl, ps.map V.int, hZ4, by rw [List.length_map]; exact small1000 (by omega), ps ++ [0 + (j : Int)], ?_, by rw [List.length_append]; show ps.length + 1 ≤ _; omega, ?_, ?_⟩
          · rw [upd_same, List.map_append]
            rfl
          · obtain ⟨a, c, h, h1⟩ := D5
            exact ⟨a, c, by rw [upd_ne (Ne.symm nZd)]; exact h, h1⟩
          · intro b o hb e
            by_cases z : b = Z
            · subst z
              rw [nZ] at e
              cases e
            · rw [upd_ne z]
              exact k5 b o hb e
        | false => exact ⟨ps, hZ4, by omega, D5, k5⟩
      · rintro H3 ⟨ps, hZ, lp, D3, k3⟩
        refine ⟨Z, _, rfl, .inl ⟨SqL.of hZ, fun e ne => ⟨_, e, ps, rfl, upd_same, by omega, k3.trans (Same.kw (same_new ne))⟩⟩⟩
    rintro σ' H3 ⟨y6, e, ps, rfl, he, lp, k3⟩
    have s3 : Same H H3 := k3.same s2 (s1.free nd)
    have tk3 : Tk H2 H3 := fun b xs e => k3 b _ (by
      obtain ⟨x, c, h, _⟩ := D2
      exact ne_of e h (by intro z; cases z)) e
    have hW3 := hW2.tk tk3
    have okT : WebOk n (ts.map (turnT ps)) := ⟨by omega, by omega, by rw [List.length_map]; exact few, fun t ht => by
      obtain ⟨u, hu, rfl⟩ := List.mem_map.mp ht
      exact turn_ok83 (si.ok u hu)⟩
    refine ⟨.ref wa, rfl, .ref e, rfl, .ref wa, e, n, ts, ps, rfl, hW3, few, SqT.of he, lp, fun u H4 s4 hu => ⟨u, n, _, rfl, hu, okT, fun p2 T2 K2 L2 fl2 H5 _ _ _ _ S5 si5 rt5 s5 => ?_⟩⟩
    obtain rfl := (rt.turn (ps := ps)).one rt5
    obtain ⟨dx5, ob5⟩ := id S5.ob
    refine ⟨p2, dx5, _, rfl, ob5, stF_no _ _ _ _ (by decide +kernel) (by decide +kernel) (by decide +kernel) (by decide +kernel), p2, T2, K2, L2, n, _, fl, rfl, S5, fun r5 H6 s6 hr6 => ?_⟩
    have s36 := ((s3.trans s4).trans s5).trans s6
    refine ⟨.ref p, rfl, p, dx, _, rfl, s36 _ _ ob, stF_no _ _ _ _ (by decide +kernel) (by decide +kernel) (by decide +kernel) (by decide +kernel), p, Ti, Kk, Lo, n, ts, fl, rfl, S.same s36, fun r7 H7 s7 hr7 => ?_⟩
    refine ⟨intsD (knT fl false), intsD (knT fl false), .tup (SqT.of (s7 _ _ hr6)) (dp_ints _), .tup (SqT.of hr7) (dp_ints _), shaped_intsD _, shaped_intsD _, ?_⟩
    rw [SeqAt.eqv_refl _ (lay_intsD _)]
    exact q _ (s36.trans s7)
end
/-! ### the script stays -/
theorem Kt.seq {Ps : List Addr} {K : PySem.W.Frag} {H H' : Hp} {a : Addr} {xs : List V} (k : Kt Ps H H') (t : Tabs Ps H) (h : SqL K H a xs) : SqL K H' a xs := by
  rcases h with (h | ⟨o, h⟩) | h
  · exact .inl (.inl (k.lst t h))
  · exact .inl (.inr ⟨o, k.keep _ _ (t.out h fun _ z => by cases z) h⟩)
  · exact .inr h
theorem sql_ne {K : PySem.W.Frag} {H : Hp} {a d : Addr} {xs : List V} (h : SqL K H a xs) (nd : H d = none) : a ≠ d ∨ ∀ H', SqL K H' a xs := by
  rcases h with (h | ⟨o, h⟩) | h
  · exact .inl (ne_of_none h nd)
  · exact .inl (ne_of_none h nd)
  · exact .inr fun _ => .inr h
theorem sql_well {K : PySem.W.Frag} {H H' : Hp} {a d : Addr} {xs : List V} (h : SqL K H a xs) (ne : a ≠ d ∨ ∀ H', SqL K H' a xs) (k : Kp d d H H') : SqL K H' a xs := by
  rcases ne with ne | f
  · rcases h with (h | ⟨o, h⟩) | h
    · exact .inl (.inl (k _ _ ne ne h))
    · exact .inl (.inr ⟨o, k _ _ ne ne h⟩)
    · exact .inr h
  · exact f H'
theorem map_take_snoc {α β : Type} {f : α → β} {xs : List α} {i : Nat} {x : α} (h : xs[i]? = some x) : (xs.take (i + 1)).map f = (xs.take i).map f ++ [f x] := by
  rw [List.take_add_one, h, List.map_append]
  rfl
/-! ### k83: the law -/
def spLaw (K : PySem.W.Frag) (Ps : List Addr) : Sp := fun vs H Q _ => ∃ (a : Addr) (ns : List Int), vs = [.ref a] ∧ SqL K H a (ns.map V.int) ∧ ns.length ≤ 63 ∧ Tabs Ps H ∧ ∀ H', Q (.bl true) H'
theorem pt_weak {X : Cx} {e : Expr} {t t' : TT} (h : PT X e t) (w : ∀ σ H Q, t' σ H Q → t σ H Q) : PT X e t' := ⟨fun pins s σ H Q I hw => h.run pins s σ H Q I (w σ H Q hw)⟩
structure Ap2 (T Kk Lo Lt Lr : Addr) : Prop where
  t1 : Lt ≠ T
  t2 : Lt ≠ Kk
  t3 : Lt ≠ Lo
  r1 : Lr ≠ T
  r2 : Lr ≠ Kk
  r3 : Lr ≠ Lo
  rt : Lt ≠ Lr
structure Nw (H : Hp) (p T Kk Lo Lt Lr : Addr) : Prop where
  p : H p = none
  t : H T = none
  k : H Kk = none
  l : H Lo = none
  lt : H Lt = none
  lr : H Lr = none
/-- the stand, and the law's lists beside it -/
structure J (C : Addr) (H : Hp) (p T Kk Lo Lt Lr : Addr) (n : Nat) (us rv : List V) (ts : List Tie) (fl : List Bool) : Prop where
  S : StA C H p T Kk Lo n ts fl
  si : SI n ts fl
  rt : Rt ts fl
  hU : H Lt = some (.lst us)
  hp : Paired (TieV H) us ts
  hR : H Lr = some (.lst rv)
  rg : Rgs H n ts fl rv
theorem StA.kt {C : Addr} {Ps : List Addr} {H H' : Hp} {p T Kk Lo : Addr} {n : Nat} {ts : List Tie} {fl : List Bool} (h : StA C H p T Kk Lo n ts fl) (k : Kt Ps H H') (t : Tabs Ps H) : StA C H' p T Kk Lo n ts fl := by
  obtain ⟨dx, e⟩ := h.ob
  obtain ⟨us, e1, e2⟩ := h.hT
  exact ⟨⟨dx, k.keep _ _ (t.out e fun _ z => by cases z) e⟩, ⟨us, k.lst t e1, ties_tk (k.tk t) e2⟩, k.lst t h.hK, k.lst t h.hL, h.n1, h.n2, h.n3⟩
theorem J.kt {C : Addr} {Ps : List Addr} {H H' : Hp} {p T Kk Lo Lt Lr : Addr} {n : Nat} {us rv : List V} {ts : List Tie} {fl : List Bool} (h : J C H p T Kk Lo Lt Lr n us rv ts fl) (k : Kt Ps H H') (t : Tabs Ps H) : J C H' p T Kk Lo Lt Lr n us rv ts fl :=
  ⟨h.S.kt k t, h.si, h.rt, k.lst t h.hU, ties_tk (k.tk t) h.hp, k.lst t h.hR, h.rg.tk (k.tk t)⟩
theorem J.same {C : Addr} {H H' : Hp} {p T Kk Lo Lt Lr : Addr} {n : Nat} {us rv : List V} {ts : List Tie} {fl : List Bool} (h : J C H p T Kk Lo Lt Lr n us rv ts fl) (s : Same H H') : J C H' p T Kk Lo Lt Lr n us rv ts fl :=
  ⟨h.S.same s, h.si, h.rt, s _ _ h.hU, ties_tk (Same.tk s) h.hp, s _ _ h.hR, h.rg.tk (Same.tk s)⟩
theorem Tabs.ks {C : Addr} {Ps : List Addr} {H H' : Hp} {p T Kk Lo : Addr} {n : Nat} {ts : List Tie} {fl : List Bool} (t : Tabs Ps H) (h : StA C H p T Kk Lo n ts fl) (k : KS p T Kk Lo H H') : Tabs Ps H' := fun P hP => by
  obtain ⟨ps, e, x⟩ := t P hP
  obtain ⟨dx, e0⟩ := h.ob
  obtain ⟨us, e1, _⟩ := h.hT
  exact ⟨ps, k _ _ (ne_of e e0 (by intro z; cases z)) (ne_of e e1 (by intro z; cases z)) (ne_of e h.hK (by intro z; cases z)) (ne_of e h.hL (by intro z; cases z)) e, x⟩
theorem Kt.ks {C : Addr} {Ps : List Addr} {H0 H H' : Hp} {p T Kk Lo : Addr} {n : Nat} {ts : List Tie} {fl : List Bool} (k0 : Kt Ps H0 H) (h : StA C H p T Kk Lo n ts fl) (k : KS p T Kk Lo H H') (n0 : H0 p = none) (n1 : H0 T = none) (n2 : H0 Kk = none) (n3 : H0 Lo = none) : Kt Ps H0 H' :=
  ⟨Tabs.ks k0.tab h k, fun b o hb e => k b o (ne_of_none e n0) (ne_of_none e n1) (ne_of_none e n2) (ne_of_none e n3) (k0.keep b o hb e)⟩
theorem Kt.put {Ps : List Addr} {H0 H : Hp} {a : Addr} {xs ys : List V} (k0 : Kt Ps H0 H) (h : H a = some (.lst xs)) (n0 : H0 a = none) : Kt Ps H0 (upd H a (.lst ys)) :=
  ⟨fun P hP => by
    obtain ⟨ps, e, x⟩ := k0.tab P hP
    exact ⟨ps, by rw [upd_ne (ne_of e h (by intro z; cases z))]; exact e, x⟩, fun b o hb e => by rw [upd_ne (ne_of_none e n0)]; exact k0.keep b o hb e⟩
section
variable {P : Program} {w : World} {K : PySem.W.Frag} {mg : Str → Option Value} {base : Heap}
set_option maxHeartbeats 4000000 in
theorem ok_law {f C fI : Addr} {fd fdI : FuncData} (F : Fun K "law" "law" s_law f fd) (M : Free mg) (T : STx K C) (D_l_size : Df P w K mg base 2 "_law_size" ["_law_script"] (spSize K)) (D_l_deed : Df P w K mg base 2 "_law_deed" ["_law_script", "_law_k", "_law_many", "_law_ties", "_law_goes_round"] (spDeed K)) (D_l_made : Df P w K mg base 3 "_law_made" ["_law_web"] (spMade C)) (D_l_told : Df P w K mg base 5 "_law_told" ["_law_stand", "_law_many", "_law_k"] (spState C)) (D_l_rings_right : Df P w K mg base 7 "_law_rings_right" ["_law_web", "_law_broken", "_law_rings"] (spRingsR Ps)) (D_l_kept_right : Df P w K mg base 6 "_law_kept_right" ["_law_stand", "_law_rings", "_law_k"] (spKeptR C)) (D_l_turned_right : Df P w K mg base 4 "_law_turned_right" ["_law_script", "_law_stand", "_law_k"] (spTurnR K C)) (mgC : mg "Stand" = some (.ref C)) (MK : Mk K C fI) (GI : FnOk P w K mg base CX0 1 fI fdI ["self", "many"] (spSInit C)) (bI : Binds K fdI ["self", "many"] []) (D_back : DfM P w K mg base 1 C "back" ["self"] (spSBack C)) (D_broken : DfM P w K mg base 1 C "broken" ["self"] (spSBroken C)) (D_come : DfM P w K mg base 2 C "come" ["self", "one", "other", "kind"] (spSCome C)) (D_web : DfM P w K mg base 1 C "web" ["self"] (spSWeb C)) : FnOk P w K mg base CX0 8 f fd ["_law_script"] (spLaw K Ps) := by
  obtain ⟨f_back, fd_back, G_back, m_back, b_back⟩ := D_back
  obtain ⟨f_broken, fd_broken, G_broken, m_broken, b_broken⟩ := D_broken
  obtain ⟨f_come, fd_come, G_come, m_come, b_come⟩ := D_come
  obtain ⟨f_web, fd_web, G_web, m_web, b_web⟩ := D_web
  obtain ⟨f_l_size, fd_l_size, G_l_size, g_l_size, k_l_size, b_l_size⟩ := D_l_size
  obtain ⟨f_l_deed, fd_l_deed, G_l_deed, g_l_deed, k_l_deed, b_l_deed⟩ := D_l_deed
  obtain ⟨f_l_made, fd_l_made, G_l_made, g_l_made, k_l_made, b_l_made⟩ := D_l_made
  obtain ⟨f_l_told, fd_l_told, G_l_told, g_l_told, k_l_told, b_l_told⟩ := D_l_told
  obtain ⟨f_l_rings_right, fd_l_rings_right, G_l_rings_right, g_l_rings_right, k_l_rings_right, b_l_rings_right⟩ := D_l_rings_right
  obtain ⟨f_l_kept_right, fd_l_kept_right, G_l_kept_right, g_l_kept_right, k_l_kept_right, b_l_kept_right⟩ := D_l_kept_right
  obtain ⟨f_l_turned_right, fd_l_turned_right, G_l_turned_right, g_l_turned_right, k_l_turned_right, b_l_turned_right⟩ := D_l_turned_right
  refine F.ok sc_law (fun vs H Q E h => ?_) (fun cdv A outer s H vs Q E hr h => ?_)
  · obtain ⟨sc, ns, rfl, _⟩ := h
    rfl
  · obtain ⟨sc, ns, rfl, hS, few63, hT, q⟩ := h
    refine ⟨_, (pss_cons (ps_asg (pe_call G_l_size (hr.mono (by decide)) (by rfl) g_l_size k_l_size b_l_size .nil pass0 (pa_cons (pv 0) pa_nil)) (pg_tup rfl (pgs_cons (pg_name (i := 1) sc_law.nd rfl (.inl rfl)) (pgs_cons (pg_name (i := 2) sc_law.nd rfl (.inl rfl)) (pgs_cons (pg_name (i := 3) sc_law.nd rfl (.inl rfl)) pgs_nil)))))
      (pss_cons (ps_set (i := 4) sc_law.nd rfl (.inl rfl) (pe_make MK GI (hr.mono (by decide)) (by rfl) mgC bI .nil pass0 (pa_cons (pv 1) pa_nil)))
      (pss_cons (ps_set (i := 5) sc_law.nd rfl (.inl rfl) (pe_lst pa_nil))
      (pss_cons (ps_set (i := 6) sc_law.nd rfl (.inl rfl) (pe_lst pa_nil))
      (pss_cons (ps_for PassesOwn.never rfl (pi_range1 (by rfl) M.range (pa_cons (pv 2) pa_nil)) (pg_name (i := 7) sc_law.nd rfl (.inl rfl))
        (Evl.pss_cut (ps_set (i := 8) sc_law.nd rfl (.inl rfl) (pe_call G_l_deed (hr.mono (by decide)) (by rfl) g_l_deed k_l_deed b_l_deed .nil pass0 (pa_cons (pv 0) (pa_cons (pv 7) (pa_cons (pv 1) (pa_cons (pv 5) (pa_cons (pv 3) pa_nil)))))))
        (Evl.pss_cut (ps_if (pt_cmpR op_notN (pv 8) pe_non (nomark _))
          (pss_cons (ps_expr (pe_bm PySem.F.plainAttrs_list PySem.F.slot_list_append PySem.F.type_list_append mt_append (pv 6) (pa_cons (pe_meth (pv 4) T.cl m_come G_come (hr.mono (by decide)) b_come .nil pass0 (pa_cons (pe_ix ix_tup (pv 8) pe_int (fun _ _ => rfl)) (pa_cons (pe_ix ix_tup (pv 8) pe_int (fun _ _ => rfl)) (pa_cons (pe_ix ix_tup (pv 8) pe_int (fun _ _ => rfl)) pa_nil)))) pa_nil)))
          (pss_one (ps_expr (pe_bm PySem.F.plainAttrs_list PySem.F.slot_list_append PySem.F.type_list_append mt_append (pv 5) (pa_cons (pv 8) pa_nil)))))
          (pss_one (ps_if (pt_cmpR (op_neE hr.units0) (pv 5) (pe_lst pa_nil) (nomark _))
            (pss_cons (ps_expr (pe_meth0 (pv 4) T.cl m_back G_back (hr.mono (by decide)) b_back .nil pass0))
            (pss_cons (ps_expr (pe_bm0 PySem.F.plainAttrs_list PySem.F.slot_list_pop PySem.F.type_list_pop mt_pop (pv 6)))
            (pss_one (ps_expr (pe_bm0 PySem.F.plainAttrs_list PySem.F.slot_list_pop PySem.F.type_list_pop mt_pop (pv 5))))))
            pss_nil)))
        (pss_one (ps_if (pt_weak (t' := fun σ H Q => ∃ k de : Int, σ[7]? = some (some (.int k)) ∧ σ[2]? = some (some (.int de)) ∧ ∀ b, Q b H) (PW.pt (pw_or (pt_cmpR op_lt (pv 2) pe_int (nomark _)) (pw_or (pt_cmpR op_eq (pe_op op_mod (pv 7) pe_int) pe_int (nomark _)) (pw_or1 (pt_cmpR op_eq (pe_op op_add (pv 7) pe_int) (pv 2) (nomark _)))))) (fun σ H Q ⟨k, de, e7, e2, q⟩ => ⟨.int de, e2, de, 26, rfl, rfl, _, rfl, ite2 (fun _ => q _) (fun _ => ⟨.int k, e7, k, 100, rfl, rfl, (show (0 : Int) < 100 by decide), rfl, _, rfl, ite2 (fun _ => q _) (fun _ => ⟨.int k, e7, k, 1, rfl, rfl, .int de, e2, rfl, _, rfl, q _⟩)⟩)⟩))
          (pss_cons (ps_if (pt_cmpR (op_neD hr.units) (pe_call G_l_told (hr.mono (by decide)) (by rfl) g_l_told k_l_told b_l_told .nil pass0 (pa_cons (pe_call G_l_made (hr.mono (by decide)) (by rfl) g_l_made k_l_made b_l_made .nil pass0 (pa_cons (pe_meth0 (pv 4) T.cl m_web G_web (hr.mono (by decide)) b_web .nil pass0) pa_nil)) (pa_cons (pv 1) (pa_cons (pv 7) pa_nil)))) (pe_call G_l_told (hr.mono (by decide)) (by rfl) g_l_told k_l_told b_l_told .nil pass0 (pa_cons (pv 4) (pa_cons (pv 1) (pa_cons (pv 7) pa_nil)))) (nomark _))
            (pss_one (ps_ret pe_bl))
            pss_nil)
          (pss_cons (ps_if (PW.pt (pw_or (pt_not (pt_val (pe_call G_l_kept_right (hr.mono (by decide)) (by rfl) g_l_kept_right k_l_kept_right b_l_kept_right .nil pass0 (pa_cons (pv 4) (pa_cons (pv 6) (pa_cons (pv 7) pa_nil)))))) (pw_or1 (pt_not (pt_val (pe_call G_l_rings_right (hr.mono (by decide)) (by rfl) g_l_rings_right k_l_rings_right b_l_rings_right .nil pass0 (pa_cons (pe_meth0 (pv 4) T.cl m_web G_web (hr.mono (by decide)) b_web .nil pass0) (pa_cons (pe_meth0 (pv 4) T.cl m_broken G_broken (hr.mono (by decide)) b_broken .nil pass0) (pa_cons (pv 6) pa_nil)))))))))
            (pss_one (ps_ret pe_bl))
            pss_nil)
          (pss_one (ps_if (pt_not (pt_val (pe_call G_l_turned_right (hr.mono (by decide)) (by rfl) g_l_turned_right k_l_turned_right b_l_turned_right .nil pass0 (pa_cons (pv 0) (pa_cons (pv 4) (pa_cons (pv 7) pa_nil))))))
            (pss_one (ps_ret pe_bl))
            pss_nil))))
          pss_nil)))))
      (pss_one (ps_ret pe_bl))))))), ?_⟩
    have no : ∀ {n : Int} {Ti Kk Lo : Addr} (m : Str), ¬ m = "lost" → ¬ m = "kept" → ¬ m = "ties" → ¬ m = "many" → (stF n Ti Kk Lo).lookup m = none := fun m a b c d => stF_no _ _ _ _ a b c d
    refine ⟨.ref sc, rfl, sc, ns, rfl, hS, fun r n de gb H0 s0 hr0 n1 n40 d4 d203 => ⟨r, _, rfl, SqT.of hr0, rfl, _, _, rfl, _, _, rfl, _, _, rfl, rfl, ?_⟩⟩
    have hT0 := hT.same s0
    have hS0 := Same.seq s0 hS
    clear hS hT hr0 s0
    refine ⟨.int n, rfl, fun p dx np ndx nex => ⟨p, dx, n, rfl, upd_same, fun Ti Kk Lo H1 nT nK nL S1 k1 => ⟨rfl, ?_⟩⟩⟩
    have e0 := (same_new (o := .own p) ndx).trans (same_new (p := p) (o := .ins C dx []) (by rw [upd_ne (Ne.symm nex)]; exact np))
    have nT0 := e0.free nT
    have nK0 := e0.free nK
    have nL0 := e0.free nL
    have s1 : Same H0 H1 := fun b o e => k1 b o (e0 _ _ e) (ne_of_none e np)
    clear k1
    refine ⟨by show 0 ≤ sizeLine; decide, fun Lt nLt => ⟨by show 0 ≤ sizeLine; decide, fun Lr nLr => ?_⟩⟩
    have eT := same_new (o := .lst []) nLt
    have eR := same_new (o := .lst []) nLr
    have nLt0 := s1.free nLt
    have nLr0 := (s1.trans eT).free nLr
    obtain ⟨us0, hT0', _⟩ := id S1.hT
    have nR1 : H1 Lr = none := eT.free nLr
    have ap : Ap2 Ti Kk Lo Lt Lr := ⟨(ne_of_none hT0' nLt).symm, (ne_of_none S1.hK nLt).symm, (ne_of_none S1.hL nLt).symm, (ne_of_none hT0' nR1).symm, (ne_of_none S1.hK nR1).symm, (ne_of_none S1.hL nR1).symm, ne_of_none (upd_same (H := H1) (a := Lt) (o := .lst [])) nLr⟩
    have nw : Nw H0 p Ti Kk Lo Lt Lr := ⟨np, nT0, nK0, nL0, nLt0, nLr0⟩
    have J2 : J C (upd (upd H1 Lt (.lst [])) Lr (.lst [])) p Ti Kk Lo Lt Lr n [] [] [] [] := ⟨S1.same (eT.trans eR), SI.nil n1 n40, .nil, eR _ _ upd_same, .nil, upd_same, ⟨rfl, fun i v e => by simp at e⟩⟩
    have K2 : Kt Ps H0 (upd (upd H1 Lt (.lst [])) Lr (.lst [])) := Kt.same hT0 ((s1.trans eT).trans eR)
    generalize upd (upd H1 Lt (.lst [])) Lr (.lst []) = H2 at J2 K2
    clear eT eR nR1 hT0' S1 s1
    refine ⟨.int de, rfl, de, rfl, by omega, by omega, ?_⟩
    refine for_range (lo := 0) (n := de.toNat) (fun i σ' H' => ∃ (y7 y8 : Option V) (us rv : List V) (ts : List Tie) (fl : List Bool), σ' = [some (.ref sc), some (.int n), some (.int de), some (.bl gb), some (.ref p), some (.ref Lt), some (.ref Lr), y7, y8] ∧ J C H' p Ti Kk Lo Lt Lr n us rv ts fl ∧ Kt Ps H0 H') ⟨none, none, [], [], [], [], rfl, J2, K2⟩ ?_ ?_
    · clear J2 K2
      rintro i σ' H3 hi ⟨y7, y8, us, rv, ts, fl, rfl, j3, k3⟩
      rw [show (0 : Int) + (i : Nat) = i from by omega]
      refine ⟨fun σ' H' => ∃ v8 : V, σ' = [some (.ref sc), some (.int n), some (.int de), some (.bl gb), some (.ref p), some (.ref Lt), some (.ref Lr), some (.int i), some v8] ∧ Same H3 H' ∧ (v8 = .non ∨ ∃ (c : Addr) (t : Tie), v8 = .ref c ∧ H' c = some (.tup [.int t.one, .int t.other, .str (kindS t.foe)]) ∧ TieOk n t ∧ ts.length ≤ 119), ?_, ?_⟩
      · exact ⟨.ref sc, rfl, .int i, rfl, .int n, rfl, .ref Lt, rfl, .bl gb, rfl, sc, Lt, ns, i, n, us, ts, gb, rfl, k3.seq hT0 hS0, by omega, by omega, n1, n40, j3.hU, j3.hp, j3.si.ok, j3.si.few, fun H4 s4 => ⟨_, rfl, s4, .inl rfl⟩, fun c t H4 s4 hc ok few => ⟨_, rfl, s4, .inr ⟨c, t, rfl, hc, ok, few⟩⟩⟩
      rintro σ' H4 ⟨v8, rfl, s34, h8⟩
      have j4 := j3.same s34
      have k4 := k3.trans (Kt.same k3.tab s34)
      clear j3 k3 s34
      refine ⟨fun σ' H' => ∃ (us rv : List V) (ts : List Tie) (fl : List Bool), σ' = [some (.ref sc), some (.int n), some (.int de), some (.bl gb), some (.ref p), some (.ref Lt), some (.ref Lr), some (.int i), some v8] ∧ J C H' p Ti Kk Lo Lt Lr n us rv ts fl ∧ Kt Ps H0 H', ?_, ?_⟩
      · refine ⟨v8, rfl, rfl, _, rfl, ?_⟩
        rcases h8 with rfl | ⟨c, t, rfl, hc, okt, few⟩
        · rw [show decide (V.non = V.non) = true from decide_eq_true rfl]
          refine ⟨.ref Lt, rfl, by show 0 ≤ sizeLine; decide, fun Z nZ => ⟨Lt, Z, us, rfl, rfl, SqL.of (same_new nZ _ _ j4.hU), SqL.of upd_same, _, rfl, ?_⟩⟩
          have eZ := same_new (o := .lst []) nZ
          have j5 := j4.same eZ
          have k5 := k4.trans (Kt.same k4.tab eZ)
          clear j4 k4
          generalize upd H4 Z (.lst []) = H5 at j5 k5
          clear nZ eZ
          by_cases hu : us = []
          · subst hu
            exact ⟨[], rv, ts, fl, rfl, j5, k5⟩
          · rw [show (!us.isEmpty) = true from by cases us; exact absurd rfl hu; rfl]
            have lu : us.length = ts.length := Paired.length j5.hp
            have lf := j5.si.len
            have lr := j5.rg.len
            obtain ⟨us0, u, rfl⟩ := unsnoc hu
            obtain ⟨ts0, t, rfl⟩ := unsnoc (l := ts) (fun z => hu (List.length_eq_zero_iff.mp (by rw [lu, z]; rfl)))
            obtain ⟨fl0, f, rfl⟩ := unsnoc (l := fl) (fun z => by rw [z] at lf; simp at lf)
            obtain ⟨rv0, v, rfl⟩ := unsnoc (l := rv) (fun z => by rw [z] at lr; simp at lr)
            obtain ⟨us1, u1, eu, hp0, _⟩ := Paired.unsnoc j5.hp
            obtain ⟨rfl, _⟩ := List.append_inj' eu rfl
            obtain ⟨dx5, ob5⟩ := id j5.S.ob
            have len0 : ts0.length = fl0.length := by simpa using lf
            refine ⟨.ref p, rfl, p, dx5, _, rfl, ob5, no _ (by decide +kernel) (by decide +kernel) (by decide +kernel) (by decide +kernel), p, Ti, Kk, Lo, n, ts0, fl0, t, f, rfl, j5.S, len0, fun H6 k6 S6 => ?_⟩
            have pT : Lt ≠ p := ne_of j5.hU ob5 (by intro z; cases z)
            have pR : Lr ≠ p := ne_of j5.hR ob5 (by intro z; cases z)
            have hU6 := k6 _ _ pT ap.t1 ap.t2 ap.t3 j5.hU
            have hR6 := k6 _ _ pR ap.r1 ap.r2 ap.r3 j5.hR
            have K6 := k5.ks j5.S k6 nw.p nw.t nw.k nw.l
            have tk6 := j5.S.tk k6
            refine ⟨.ref Lr, rfl, .inl ⟨rfl, _, SqL.of hR6⟩, Lr, _, v, rfl, rfl, hR6, by simp, ?_⟩
            rw [List.dropLast_concat]
            have K7 := K6.put (ys := rv0) hR6 nw.lr
            have tk7 := tk_lst (ys := rv0) hR6
            have S7 := S6.put (ys := rv0) hR6 ap.r1 ap.r2 ap.r3
            have hR7 : (upd H6 Lr (.lst rv0)) Lr = some (.lst rv0) := upd_same
            have hU7 : (upd H6 Lr (.lst rv0)) Lt = some (.lst (us0 ++ [u])) := by rw [upd_ne ap.rt]; exact hU6
            generalize upd H6 Lr (.lst rv0) = H7 at K7 tk7 S7 hR7 hU7
            refine ⟨.ref Lt, rfl, .inl ⟨rfl, _, SqL.of hU7⟩, Lt, _, u, rfl, rfl, hU7, by simp, ?_⟩
            rw [List.dropLast_concat]
            have tk8 := tk_lst (ys := us0) hU7
            have tk58 := (tk6.trans tk7).trans tk8
            exact ⟨us0, rv0, ts0, fl0, rfl, ⟨S7.put (ys := us0) hU7 ap.t1 ap.t2 ap.t3, j5.si.less, (j5.rt.inv rfl rfl).1, upd_same, ties_tk tk58 hp0, by rw [upd_ne (Ne.symm ap.rt)]; exact hR7, (j5.rg.less len0).tk tk58⟩, K7.put (ys := us0) hU7 nw.lt⟩
        · rw [show decide (V.ref c = V.non) = false from decide_eq_false (by intro z; cases z)]
          have lu : us.length = ts.length := Paired.length j4.hp
          have lf := j4.si.len
          have lr := j4.rg.len
          obtain ⟨dx4, ob4⟩ := id j4.S.ob
          have pT : Lt ≠ p := ne_of j4.hU ob4 (by intro z; cases z)
          have pR : Lr ≠ p := ne_of j4.hR ob4 (by intro z; cases z)
          have fin : ∀ (f : Bool) (v : V) H5, KS p Ti Kk Lo H4 H5 → StA C H5 p Ti Kk Lo n (ts ++ [t]) (fl ++ [f]) → (f = true ↔ Kps (kt ts fl) t) → RgV H5 n (ts ++ [t]) (fl ++ [f]) v ts.length → H5 Lr = some (.lst rv) ∧ ∃ (us2 rv2 : List V) (ts2 : List Tie) (fl2 : List Bool), us2 = us ++ [.ref c] ∧ J C (upd (upd H5 Lr (.lst (rv ++ [v]))) Lt (.lst us2)) p Ti Kk Lo Lt Lr n us2 rv2 ts2 fl2 ∧ Kt Ps H0 (upd (upd H5 Lr (.lst (rv ++ [v]))) Lt (.lst us2)) := fun f v H5 k5 S5 hf hv => by
            have hU5 := k5 _ _ pT ap.t1 ap.t2 ap.t3 j4.hU
            have hR5 := k5 _ _ pR ap.r1 ap.r2 ap.r3 j4.hR
            have K5 := k4.ks j4.S k5 nw.p nw.t nw.k nw.l
            have tk5 := j4.S.tk k5
            refine ⟨hR5, us ++ [.ref c], rv ++ [v], ts ++ [t], fl ++ [f], rfl, ?_⟩
            have K6 := K5.put (ys := rv ++ [v]) hR5 nw.lr
            have tk6 := tk_lst (ys := rv ++ [v]) hR5
            have S6 := S5.put (ys := rv ++ [v]) hR5 ap.r1 ap.r2 ap.r3
            have hR6 : (upd H5 Lr (.lst (rv ++ [v]))) Lr = some (.lst (rv ++ [v])) := upd_same
            have hU6 : (upd H5 Lr (.lst (rv ++ [v]))) Lt = some (.lst us) := by rw [upd_ne ap.rt]; exact hU5
            generalize upd H5 Lr (.lst (rv ++ [v])) = H6 at K6 tk6 S6 hR6 hU6
            have tk7 := tk_lst (ys := us ++ [.ref c]) hU6
            have tk47 := (tk5.trans tk6).trans tk7
            exact ⟨⟨S6.put (ys := us ++ [.ref c]) hU6 ap.t1 ap.t2 ap.t3, j4.si.step okt few hf.mp, .snoc j4.rt hf, upd_same, Paired.snoc (ties_tk tk47 j4.hp) ⟨c, rfl, tk47 _ _ hc⟩, by rw [upd_ne (Ne.symm ap.rt)]; exact hR6, ((j4.rg.tk tk5).more lf hv).tk (tk6.trans tk7)⟩, K6.put (ys := us ++ [.ref c]) hU6 nw.lt⟩
          refine ⟨.ref Lr, rfl, .inl ⟨rfl, _, SqL.of j4.hR⟩, .ref p, rfl, p, dx4, _, rfl, ob4, no _ (by decide +kernel) (by decide +kernel) (by decide +kernel) (by decide +kernel), .ref c, rfl, c, _, 0, _, rfl, rfl, SqT.of hc, rfl, .ref c, rfl, c, _, 1, _, rfl, rfl, SqT.of hc, rfl, .ref c, rfl, c, _, 2, _, rfl, rfl, SqT.of hc, rfl, p, Ti, Kk, Lo, n, ts, fl, t, rfl, j4.S, j4.si, okt, fun hk H5 k5 S5 => ?_, fun hk rr a b qs ms H5 k5 S5 hrr ha hb way par => ?_⟩
          · obtain ⟨hR5, us2, rv2, ts2, fl2, rfl, j7, K7⟩ := fin true .non H5 k5 S5 (by simp [hk]) (.inl ⟨by rw [lf, List.getElem?_append_right (Nat.le_refl _)]; simp, rfl⟩)
            refine ⟨Lr, rv, .non, rfl, rfl, hR5, small1000 (by omega), ?_⟩
            have hU6 : (upd H5 Lr (.lst (rv ++ [.non]))) Lt = some (.lst us) := by
              rw [upd_ne ap.rt]
              exact k5 _ _ pT ap.t1 ap.t2 ap.t3 j4.hU
            exact ⟨.ref Lt, rfl, .inl ⟨rfl, _, SqL.of hU6⟩, .ref c, rfl, Lt, us, .ref c, rfl, rfl, hU6, small1000 (by omega), _, rv2, ts2, fl2, rfl, j7, K7⟩
          · have R := way.ring lf (by omega) j4.si.ok okt par
            obtain ⟨hR5, us2, rv2, ts2, fl2, rfl, j7, K7⟩ := fin false (.ref rr) H5 k5 S5 (by simp [hk]) (.inr ⟨by rw [lf, List.getElem?_append_right (Nat.le_refl _)]; simp, rr, a, b, qs, _, t, rfl, hrr, ha, hb, by rw [List.getElem?_append_right (Nat.le_refl _)]; simp, by rw [List.take_append_of_le_length (Nat.le_refl _), List.take_length, lf, List.take_append_of_le_length (Nat.le_refl _), List.take_length, ← lf]; exact R⟩)
            refine ⟨Lr, rv, .ref rr, rfl, rfl, hR5, small1000 (by omega), ?_⟩
            have hU6 : (upd H5 Lr (.lst (rv ++ [.ref rr]))) Lt = some (.lst us) := by
              rw [upd_ne ap.rt]
              exact k5 _ _ pT ap.t1 ap.t2 ap.t3 j4.hU
            exact ⟨.ref Lt, rfl, .inl ⟨rfl, _, SqL.of hU6⟩, .ref c, rfl, Lt, us, .ref c, rfl, rfl, hU6, small1000 (by omega), _, rv2, ts2, fl2, rfl, j7, K7⟩
      clear h8 j4 k4
      rintro σ' H5 ⟨us, rv, ts, fl, rfl, j5, k5⟩
      refine ⟨i, de, rfl, rfl, fun b => ?_⟩
      cases b with
      | false => exact ⟨_, _, us, rv, ts, fl, rfl, j5, k5⟩
      | true => 
        have i203 : (i : Int) ≤ 300 := by omega
        have okw : WebOk n ts := ⟨by omega, by omega, j5.si.few, j5.si.ok⟩
        obtain ⟨dx5, ob5⟩ := id j5.S.ob
        refine ⟨.ref p, rfl, p, dx5, _, rfl, ob5, no _ (by decide +kernel) (by decide +kernel) (by decide +kernel) (by decide +kernel), p, Ti, Kk, Lo, n, ts, fl, rfl, j5.S, fun wv H6 s6 hW => ⟨wv, n, ts, rfl, hW, okw, fun p2 T2 K2 L2 fl2 H7 _ _ _ _ S7 si7 rt7 s7 => ?_⟩⟩
        obtain rfl := j5.rt.one rt7
        refine ⟨.int n, rfl, .int i, rfl, p2, T2, K2, L2, n, ts, fl, i, [], rfl, S7, si7, fun a ha => (by cases ha), fun v8 H8 s8 st8 => ?_⟩
        have s58 := (s6.trans s7).trans s8
        have j8 := j5.same s58
        refine ⟨.ref p, rfl, .int n, rfl, .int i, rfl, p, Ti, Kk, Lo, n, ts, fl, i, [], rfl, j8.S, j8.si, fun a ha => (by cases ha), fun v9 H9 s9 st9 => ?_⟩
        obtain ⟨d, d1, d2, d3, d4⟩ := StateAt.two (K := K) j5.si.okk (st8.same s9) st9
        refine ⟨d, d, d1, d2, d3, d3, _, rfl, ?_⟩
        rw [SeqAt.eqv_refl _ d4]
        have j9 := j8.same s9
        have k9 := k5.trans (Kt.same k5.tab (s58.trans s9))
        refine ⟨.ref p, rfl, .ref Lr, rfl, .int i, rfl, p, Ti, Kk, Lo, n, ts, fl, Lr, rv, i, rfl, j9.S, j9.si, j9.rt, j9.hR, j9.rg, by omega, i203, fun H10 s10 => ⟨_, rfl, ?_⟩⟩
        have j10 := j9.same s10
        have k10 := k9.trans (Kt.same k9.tab s10)
        obtain ⟨dx10, ob10⟩ := id j10.S.ob
        refine ⟨.ref p, rfl, p, dx10, _, rfl, ob10, no _ (by decide +kernel) (by decide +kernel) (by decide +kernel) (by decide +kernel), p, Ti, Kk, Lo, n, ts, fl, rfl, j10.S, fun wv2 H11 s11 hW2 => ?_⟩
        have j11 := j10.same s11
        refine ⟨.ref p, rfl, p, dx10, _, rfl, s11 _ _ ob10, no _ (by decide +kernel) (by decide +kernel) (by decide +kernel) (by decide +kernel), p, Ti, Kk, Lo, n, ts, fl, rfl, j11.S, fun ba H12 s12 hba => ?_⟩
        have j12 := j11.same s12
        have k12 := k10.trans (Kt.same k10.tab (s11.trans s12))
        refine ⟨.ref Lr, rfl, wv2, ba, Lr, n, ts, fl, rv, rfl, hW2.tk (Same.tk s12), okw, j12.si.len, hba, j12.hR, j12.rg, k12.tab, fun H13 k13 => ⟨_, rfl, ?_⟩⟩
        have j13 := j12.kt k13 k12.tab
        have k13 := k12.trans k13
        refine ⟨.ref sc, rfl, .ref p, rfl, .int i, rfl, sc, ns, p, Ti, Kk, Lo, n, ts, fl, i, rfl, k13.seq hT0 hS0, j13.S, j13.si, j13.rt, by omega, i203, fun H14 s14 => ⟨_, rfl, ?_⟩⟩
        exact ⟨_, _, us, rv, ts, fl, rfl, j13.same s14, k13.trans (Kt.same k13.tab s14)⟩
    · rintro σ' H3 ⟨y7, y8, us, rv, ts, fl, rfl, _, _⟩
      exact q _
end
theorem foesIn83 {P : Program} {w : World} {K : PySem.W.Frag} {mg : Str → Option Value} {base : Heap} (D : Df P w K mg base 1 "foes_in" ["web", "ring"] spFoes) : Df P w K mg base 1 "foes_in" ["web", "ring"] spFoesIn := by
  obtain ⟨f, fd, G, g, k, b⟩ := D
  refine ⟨f, fd, G.imp ?_, g, k, b⟩
  rintro vs H Q E ⟨wv, r, b, x, n, ts, ms, rfl, hW, hr, hb, l3, hm, q⟩
  exact ⟨wv, n, ts, r, b, x, ms, rfl, hW, hr, hb, hm, by omega, q⟩
/-! ### the end of a law whose defs hold generator expressions: their tables are empty behind the top -/
theorem walk_tabs {l : PySem.W.OpenLaw} {n k : Nat} {q : Program} {loose : List Str} {XP : (Str → Option Value) → Heap → Prop} {YP : World → Heap → Prop} {d : DefRec} {K : Params → PySem.W.Frag} {x : Str}
    (hn : l.most = some n) (hn2 : n ≤ sizeLine) (hdf : d.params.defaults = []) (hr : Room k callerA) (hY : ∀ (w : World) (h : Heap), YP w h → (K w.params).In h)
    (F : ∀ (w : World) (mg : Str → Option Value) (fa : Addr) (h : Heap), (K w.params).In h → h.Ns mainGlobals mg → mg d.name = some (.ref fa) →
      (∀ (y : Str) (fy : Addr), ((recsOf q).any fun e => e.name == y) = true → mg y = some (.ref fy) → LamX.OwnTab (K w.params) fy h) → LamX.LawAtS l w (K w.params) CX0 k n x mg fa h) :
    PySem.W.WalkO q loose XP YP l.row.toRowW d [] (fun f vs => PySem.call f vs) := by
  refine Att.attach_callB hn hdf fun w s₀ s₁ mg mb fa o pm cd doc a vs ns G Y ho hd hcd hmg hobj hints hlen hbits hg => ?_
  have KX := hY w _ Y
  have tabs : ∀ (y : Str) (fy : Addr), ((recsOf q).any fun e => e.name == y) = true → mg y = some (.ref fy) → LamX.OwnTab (K w.params) fy s₁.heap := fun y fy hy hm c P o1 fd1 e dd vs1 sl k1 k2 k3 k4 k5 => by
    obtain ⟨dL, hmem, hnm⟩ := List.any_eq_true.mp hy
    have hnm : dL.name = y := beq_iff_eq.mp hnm
    obtain ⟨a', o', fd', c', P', h1, h2, h3, h4, h5, h6⟩ := G.T.tab dL hmem
    rw [hnm, hm] at h1
    cases h1
    rw [KX _ _ k1] at h2
    cases h2
    rw [k2] at h3
    cases h3
    rw [k3] at h4
    cases h4
    obtain ⟨⟨oc, vc, e1, _, e3, e4⟩, hP⟩ := h6
    rw [KX _ _ k4] at e1
    cases e1
    cases e3
    rw [k5] at e4
    cases e4
    exact hP
  obtain ⟨fd, cs, sp, hT, nT, C, hb, hsp, hF⟩ := F w mg fa _ KX G.T.g hmg tabs
  exact LamX.law_callTs KX G.T.g G.T.b G.T.builtins G.T.nolimit hg hT nT C G.T.bmain hobj hints (Nat.le_trans hlen hn2) hr hF hb (fun H hH hS => hsp H a ns hlen hbits hH hS) fun H e s' z => z
/-- where a def stands, and where its code object does -/
structure At (K : PySem.W.Frag) (x : Str) (st : Stmt) (f : Addr) : Prop where
  ns : PySem.W.nsIn K mainGlobals x = some (some (.ref f))
  ex : ∃ (oc : Value) (od : Option Addr) (kV doc pm : Value) (an : Option Addr) (cdv ct : Value) (osl : Array (Option Value)),
    K.lookup f = some ⟨oc, od, .func (PySem.W.fnOf x x (defArgs st) (defBody st) (defScope st) .none kV doc pm an cdv ct), osl⟩ ∧ PySem.W.codeIn K cdv x = true
  kp : PySem.W.keepIn K (.ref f) = true
theorem at_mk {K : PySem.W.Frag} {x : Str} {st : Stmt} {f : Addr} {oc : Value} {od an : Option Addr} {osl : Array (Option Value)} {kV doc pm cdv ct : Value} (a : PySem.W.nsIn K mainGlobals x = some (some (.ref f)))
    (l : K.lookup f = some ⟨oc, od, .func (PySem.W.fnOf x x (defArgs st) (defBody st) (defScope st) .none kV doc pm an cdv ct), osl⟩) (c : PySem.W.codeIn K cdv x = true) (k : PySem.W.keepIn K (.ref f) = true) : At K x st f := ⟨a, ⟨oc, od, kV, doc, pm, an, cdv, ct, osl, l, c⟩, k⟩
theorem At.fn {K : PySem.W.Frag} {x : Str} {st : Stmt} {f : Addr} (h : At K x st f) : ∃ fd, Fun K x x st f fd := by
  obtain ⟨oc, od, kV, doc, pm, an, cdv, ct, osl, l, c⟩ := h.ex
  exact ⟨_, fun_mk l c h.kp⟩
structure AtC (K : PySem.W.Frag) (x : Str) (st : Stmt) (f c Pt : Addr) : Prop where
  ns : PySem.W.nsIn K mainGlobals x = some (some (.ref f))
  ex : ∃ (oc : Value) (od : Option Addr) (kV doc pm : Value) (an : Option Addr) (ct : Value) (osl : Array (Option Value)),
    K.lookup f = some ⟨oc, od, .func (PySem.W.fnOf x x (defArgs st) (defBody st) (defScope st) .none kV doc pm an (.ref c) ct), osl⟩ ∧ PySem.W.codeIn K (.ref c) x = true
  kp : PySem.W.keepIn K (.ref f) = true
  co : ∃ (dd : Option Addr) (vs : Array Value) (sl : Array (Option Value)) (file : Str) (tf : Tok) (flags : Int) (tg : Tok) (inF : Bool) (text : Int) (tt : Tok), K.lookup c = some ⟨.type "code", dd, .fields vs, sl⟩ ∧ vs[11]? = some (.ref Pt) ∧ vs.getD 11 .none = .ref Pt ∧ vs.getD 18 .none = .str file tf ∧
    vs.getD 7 .none = .int flags tg ∧ vs.getD 9 .none = .bool inF ∧ vs.getD 10 .none = .int text tt ∧ c ≠ Pt
  nP : K.lookup Pt = none
theorem atC_mk {K : PySem.W.Frag} {x : Str} {st : Stmt} {f c Pt : Addr} {oc : Value} {od an dd : Option Addr} {osl sl : Array (Option Value)} {kV doc pm ct : Value} {vs : Array Value} {file : Str} {tf tg tt : Tok} {flags text : Int} {inF : Bool} (a : PySem.W.nsIn K mainGlobals x = some (some (.ref f)))
    (l : K.lookup f = some ⟨oc, od, .func (PySem.W.fnOf x x (defArgs st) (defBody st) (defScope st) .none kV doc pm an (.ref c) ct), osl⟩) (cc : PySem.W.codeIn K (.ref c) x = true) (k : PySem.W.keepIn K (.ref f) = true)
    (lc : K.lookup c = some ⟨.type "code", dd, .fields vs, sl⟩) (v11 : vs[11]? = some (.ref Pt)) (w11 : vs.getD 11 .none = .ref Pt) (v18 : vs.getD 18 .none = .str file tf) (v7 : vs.getD 7 .none = .int flags tg) (v9 : vs.getD 9 .none = .bool inF) (v10 : vs.getD 10 .none = .int text tt) (ne : c ≠ Pt)
    (nP : K.lookup Pt = none) : AtC K x st f c Pt := ⟨a, ⟨oc, od, kV, doc, pm, an, ct, osl, l, cc⟩, k, ⟨dd, vs, sl, file, tf, flags, tg, inF, text, tt, lc, v11, w11, v18, v7, v9, v10, ne⟩, nP⟩
theorem AtC.fn {K : PySem.W.Frag} {x : Str} {st : Stmt} {f c Pt : Addr} (h : AtC K x st f c Pt) : ∃ fd, FunC K x x st f fd c := by
  obtain ⟨oc, od, kV, doc, pm, an, ct, osl, l, cc⟩ := h.ex
  exact ⟨_, ⟨oc, od, kV, doc, pm, an, ct, osl, rfl, l, cc⟩, h.kp⟩
theorem AtC.hd {K : PySem.W.Frag} {h : Heap} {x : Str} {st : Stmt} {f c Pt : Addr} (a : AtC K x st f c Pt) (X : K.In h) : PySem.W.CodeHd h c Pt := by
  obtain ⟨dd, vs, sl, file, tf, flags, tg, inF, text, tt, lc, v11, w11, v18, v7, v9, v10, ne⟩ := a.co
  exact ⟨_, vs, file, tf, flags, tg, inF, text, tt, X _ _ lc, rfl, rfl, v11, w11, v18, v7, v9, v10, ne⟩
theorem AtC.tab {K : PySem.W.Frag} {h : Heap} {x : Str} {st : Stmt} {f c Pt : Addr} (a : AtC K x st f c Pt) (o : LamX.OwnTab K f h) : h.get? Pt = some { cls := .none, data := .fields #[] } := by
  obtain ⟨oc, od, kV, doc, pm, an, ct, osl, l, cc⟩ := a.ex
  obtain ⟨dd, vs, sl, file, tf, flags, tg, inF, text, tt, lc, v11, w11, v18, v7, v9, v10, ne⟩ := a.co
  exact o c Pt _ _ _ _ _ _ l rfl rfl lc v11
section
variable {P : Program} {w : World} {K : PySem.W.Frag} {mg : Str → Option Value} {base : Heap}
theorem Df.of {x : Str} {st : Stmt} {f : Addr} {fd : FuncData} {k : Nat} {ps : List Str} {sp : Sp} (g : mg x = some (.ref f)) (F : Fun K x x st f fd) (G : FnOk P w K mg base CX0 k f fd ps sp)
    (h : ∀ (kV doc pm : Value) (an : Option Addr) (cdv ct : Value) (us : List Value), us.length = ps.length → bindArgs (PySem.W.fnOf x x (defArgs st) (defBody st) (defScope st) .none kV doc pm an cdv ct) ⟨us, []⟩ = pure (ps.zip us)) : Df P w K mg base k x ps sp :=
  ⟨f, fd, G, g, F.kp, F.binds h⟩
end
/-! ### a class at the top: its methods, itself -/
structure AtM (K : PySem.W.Frag) (C : Addr) (m q : Str) (st : Stmt) (f : Addr) : Prop where
  me : Meth K C m f
  ex : ∃ (oc : Value) (od : Option Addr) (kV doc pm : Value) (an : Option Addr) (cdv ct : Value) (osl : Array (Option Value)),
    K.lookup f = some ⟨oc, od, .func (PySem.W.fnOf m q (defArgs st) (defBody st) (defScope st) .none kV doc pm an cdv ct), osl⟩ ∧ PySem.W.codeIn K cdv q = true
theorem atM_mk {K : PySem.W.Frag} {C : Addr} {m q : Str} {st : Stmt} {f : Addr} {oc : Value} {od an : Option Addr} {osl : Array (Option Value)} {kV doc pm cdv ct : Value} (a : PySem.W.findIn K (.ref C) m = some (some (.ref f))) (i : PySem.W.isFn K (.ref f) = true)
    (l : K.lookup f = some ⟨oc, od, .func (PySem.W.fnOf m q (defArgs st) (defBody st) (defScope st) .none kV doc pm an cdv ct), osl⟩) (c : PySem.W.codeIn K cdv q = true) (k : PySem.W.keepIn K (.ref f) = true) : AtM K C m q st f := ⟨⟨a, i, k⟩, ⟨oc, od, kV, doc, pm, an, cdv, ct, osl, l, c⟩⟩
theorem AtM.fn {K : PySem.W.Frag} {C : Addr} {m q : Str} {st : Stmt} {f : Addr} (h : AtM K C m q st f) : ∃ fd, Fun K m q st f fd := by
  obtain ⟨oc, od, kV, doc, pm, an, cdv, ct, osl, l, c⟩ := h.ex
  exact ⟨_, fun_mk l c h.me.kp⟩
structure AtCl (K : PySem.W.Frag) (x : Str) (C : Addr) : Prop where
  ns : PySem.W.nsIn K mainGlobals x = some (some (.ref C))
  cl : Cls K C
  mks : PySem.W.makesIn K C = true
  kc : PySem.W.keepIn K (.ref C) = true
theorem atCl_mk {K : PySem.W.Frag} {x : Str} {C : Addr} (a : PySem.W.nsIn K mainGlobals x = some (some (.ref C))) (pg : PySem.W.plainGet K C Str.empty = true) (hd : PySem.W.hasDictIn K C = true) (po : PySem.W.plainOver K C = true) (sa : PySem.W.findIn K (.ref C) "__setattr__" = some (some (.builtin "object.__setattr__"))) (mk : PySem.W.makesIn K C = true) (kc : PySem.W.keepIn K (.ref C) = true) : AtCl K x C := ⟨a, ⟨pg, hd, po, sa⟩, mk, kc⟩
/-! ### what the top has written -/
section
variable {P : Program} {w : World} {K : PySem.W.Frag} {mg : Str → Option Value} {base : Heap}
set_option maxHeartbeats 0 in
theorem law_at {l : PySem.W.OpenLaw} {w : World} {K : PySem.W.Frag} {h : Heap} {mg : Str → Option Value} {fa f0 f1 f2 f3 f4 f5 f6 f7 f8 f9 f10 f11 f12 f13 f14 f15 f16 f17 f18 f19 f20 f21 f22 f23 f24 f25 f26 f27 f28 f29 f30 c6 P6 c8 P8 C0 m0_0 m0_1 m0_2 m0_3 m0_4 m0_5 m0_6 m0_7 : Addr} (X : K.In h) (G : h.Ns mainGlobals mg) (hfa : mg "law" = some (.ref fa))
    (t6 : ∀ (fy : Addr), mg "are_unlike_below" = some (.ref fy) → LamX.OwnTab K fy h)
    (t8 : ∀ (fy : Addr), mg "ring_holds" = some (.ref fy) → LamX.OwnTab K fy h)
    (a0 : At K "neighbours" s_neighbours f0)
    (a1 : At K "sides_from" s_sides_from f1)
    (a2 : At K "parts_of" s_parts_of f2)
    (a3 : At K "is_whole" s_is_whole f3)
    (a4 : At K "is_whole_below" s_is_whole_below f4)
    (a5 : At K "is_tuple_of" s_is_tuple_of f5)
    (a6 : AtC K "are_unlike_below" s_are_unlike_below f6 c6 P6)
    (a7 : At K "joins" s_joins f7)
    (a8 : AtC K "ring_holds" s_ring_holds f8 c8 P8)
    (a9 : At K "foes_in" s_foes_in f9)
    (a10 : At K "odd_ring_holds" s_odd_ring_holds f10)
    (a11 : At K "breaks" s_breaks f11)
    (a12 : At K "broken_by" s_broken_by f12)
    (a13 : At K "sides_of" s_sides_of f13)
    (a14 : At K "ties_around" s_ties_around f14)
    (a15 : At K "walk_from" s_walk_from f15)
    (a16 : At K "way_to" s_way_to f16)
    (a17 : At K "turned_tie" s_turned_tie f17)
    (a18 : At K "turned" s_turned f18)
    (a19 : At K "first_broken" s_first_broken f19)
    (a20 : At K "_law_cell_at" s_l_cell_at f20)
    (a21 : At K "_law_draw" s_l_draw f21)
    (a22 : At K "_law_size" s_l_size f22)
    (a23 : At K "_law_deed" s_l_deed f23)
    (a24 : At K "_law_made" s_l_made f24)
    (a25 : At K "_law_told" s_l_told f25)
    (a26 : At K "_law_between_right" s_l_between_right f26)
    (a27 : At K "_law_kept_right" s_l_kept_right f27)
    (a28 : At K "_law_rings_right" s_l_rings_right f28)
    (a29 : At K "_law_turned_right" s_l_turned_right f29)
    (a30 : At K "law" s_law f30)
    (z0 : PySem.W.nsIn K mainGlobals "len" = some none)
    (z1 : PySem.W.nsIn K mainGlobals "int" = some none)
    (z2 : PySem.W.nsIn K mainGlobals "bool" = some none)
    (z3 : PySem.W.nsIn K mainGlobals "str" = some none)
    (z4 : PySem.W.nsIn K mainGlobals "list" = some none)
    (z5 : PySem.W.nsIn K mainGlobals "tuple" = some none)
    (z6 : PySem.W.nsIn K mainGlobals "range" = some none)
    (z7 : PySem.W.nsIn K mainGlobals "isinstance" = some none)
    (z8 : PySem.W.nsIn K mainGlobals "sum" = some none)
    (z9 : PySem.W.nsIn K mainGlobals "abs" = some none)
    (z10 : PySem.W.nsIn K mainGlobals "all" = some none)
    (z11 : PySem.W.nsIn K mainGlobals "enumerate" = some none)
    (z12 : PySem.W.nsIn K mainGlobals "min" = some none)
    (z13 : PySem.W.nsIn K mainGlobals "set" = some none)
    (z14 : PySem.W.nsIn K mainGlobals "sorted" = some none)
    (z15 : PySem.W.nsIn K mainGlobals "zip" = some none)
    (cl0 : AtCl K "Stand" C0)
    (na0_many : PySem.W.findIn K (.ref C0) "many" = some none)
    (na0_ties : PySem.W.findIn K (.ref C0) "ties" = some none)
    (na0_kept : PySem.W.findIn K (.ref C0) "kept" = some none)
    (na0_lost : PySem.W.findIn K (.ref C0) "lost" = some none)
    (am0_0 : AtM K C0 "__init__" "Stand.__init__" s_Stand_init m0_0)
    (am0_1 : AtM K C0 "web" "Stand.web" s_Stand_web m0_1)
    (am0_2 : AtM K C0 "broken" "Stand.broken" s_Stand_broken m0_2)
    (am0_3 : AtM K C0 "back" "Stand.back" s_Stand_back m0_3)
    (am0_4 : AtM K C0 "come" "Stand.come" s_Stand_come m0_4)
    (am0_5 : AtM K C0 "kept_web" "Stand.kept_web" s_Stand_kept_web m0_5)
    (am0_6 : AtM K C0 "sides" "Stand.sides" s_Stand_sides m0_6)
    (am0_7 : AtM K C0 "between" "Stand.between" s_Stand_between m0_7) :
    LamX.LawAtS l w K CX0 8 63 "_law_script" mg fa h := by
  have efa := hfa.symm.trans (PySem.W.mg_of X G a30.ns)
  cases efa
  have M : Free mg := ⟨PySem.W.mg_none_of X G z0, PySem.W.mg_none_of X G z1, PySem.W.mg_none_of X G z2, PySem.W.mg_none_of X G z3, PySem.W.mg_none_of X G z4, PySem.W.mg_none_of X G z5, PySem.W.mg_none_of X G z6, PySem.W.mg_none_of X G z7, PySem.W.mg_none_of X G z8⟩
  have m_abs := PySem.W.mg_none_of X G z9
  have m_all := PySem.W.mg_none_of X G z10
  have m_enumerate := PySem.W.mg_none_of X G z11
  have m_min := PySem.W.mg_none_of X G z12
  have m_set := PySem.W.mg_none_of X G z13
  have m_sorted := PySem.W.mg_none_of X G z14
  have m_zip := PySem.W.mg_none_of X G z15
  obtain ⟨d0, F0⟩ := a0.fn
  obtain ⟨d1, F1⟩ := a1.fn
  obtain ⟨d2, F2⟩ := a2.fn
  obtain ⟨d3, F3⟩ := a3.fn
  obtain ⟨d4, F4⟩ := a4.fn
  obtain ⟨d5, F5⟩ := a5.fn
  obtain ⟨d6, F6⟩ := a6.fn
  obtain ⟨d7, F7⟩ := a7.fn
  obtain ⟨d8, F8⟩ := a8.fn
  obtain ⟨d9, F9⟩ := a9.fn
  obtain ⟨d10, F10⟩ := a10.fn
  obtain ⟨d11, F11⟩ := a11.fn
  obtain ⟨d12, F12⟩ := a12.fn
  obtain ⟨d13, F13⟩ := a13.fn
  obtain ⟨d14, F14⟩ := a14.fn
  obtain ⟨d15, F15⟩ := a15.fn
  obtain ⟨d16, F16⟩ := a16.fn
  obtain ⟨d17, F17⟩ := a17.fn
  obtain ⟨d18, F18⟩ := a18.fn
  obtain ⟨d19, F19⟩ := a19.fn
  obtain ⟨d20, F20⟩ := a20.fn
  obtain ⟨d21, F21⟩ := a21.fn
  obtain ⟨d22, F22⟩ := a22.fn
  obtain ⟨d23, F23⟩ := a23.fn
  obtain ⟨d24, F24⟩ := a24.fn
  obtain ⟨d25, F25⟩ := a25.fn
  obtain ⟨d26, F26⟩ := a26.fn
  obtain ⟨d27, F27⟩ := a27.fn
  obtain ⟨d28, F28⟩ := a28.fn
  obtain ⟨d29, F29⟩ := a29.fn
  obtain ⟨d30, F30⟩ := a30.fn
  have g0 := PySem.W.mg_of X G a0.ns
  have g1 := PySem.W.mg_of X G a1.ns
  have g2 := PySem.W.mg_of X G a2.ns
  have g3 := PySem.W.mg_of X G a3.ns
  have g4 := PySem.W.mg_of X G a4.ns
  have g5 := PySem.W.mg_of X G a5.ns
  have g6 := PySem.W.mg_of X G a6.ns
  have g7 := PySem.W.mg_of X G a7.ns
  have g8 := PySem.W.mg_of X G a8.ns
  have g9 := PySem.W.mg_of X G a9.ns
  have g10 := PySem.W.mg_of X G a10.ns
  have g11 := PySem.W.mg_of X G a11.ns
  have g12 := PySem.W.mg_of X G a12.ns
  have g13 := PySem.W.mg_of X G a13.ns
  have g14 := PySem.W.mg_of X G a14.ns
  have g15 := PySem.W.mg_of X G a15.ns
  have g16 := PySem.W.mg_of X G a16.ns
  have g17 := PySem.W.mg_of X G a17.ns
  have g18 := PySem.W.mg_of X G a18.ns
  have g19 := PySem.W.mg_of X G a19.ns
  have g20 := PySem.W.mg_of X G a20.ns
  have g21 := PySem.W.mg_of X G a21.ns
  have g22 := PySem.W.mg_of X G a22.ns
  have g23 := PySem.W.mg_of X G a23.ns
  have g24 := PySem.W.mg_of X G a24.ns
  have g25 := PySem.W.mg_of X G a25.ns
  have g26 := PySem.W.mg_of X G a26.ns
  have g27 := PySem.W.mg_of X G a27.ns
  have g28 := PySem.W.mg_of X G a28.ns
  have g29 := PySem.W.mg_of X G a29.ns
  have hb0 : ∀ (s : Shared) (u : Value), BindsTo s d30 ⟨[u], []⟩ [("_law_script", u)] := by
    obtain ⟨oc, od, kV, doc, pm, an, cdv, ct, osl, rfl, _⟩ := F30.ex
    exact fun s u => .of_eq rfl
  refine ⟨d30, [(c6, P6), (c8, P8)], (spLaw K [P6, P8]), (List.forall_mem_cons.mpr ⟨a6.tab (t6 _ g6), (List.forall_mem_cons.mpr ⟨a8.tab (t8 _ g8), (fun p hp => by simp at hp)⟩)⟩), (List.forall_mem_cons.mpr ⟨a6.nP, (List.forall_mem_cons.mpr ⟨a8.nP, (fun p hp => by simp at hp)⟩)⟩), (List.forall_mem_cons.mpr ⟨a6.hd X, (List.forall_mem_cons.mpr ⟨a8.hd X, (fun p hp => by simp at hp)⟩)⟩), hb0, fun H a ns hl _ hT hS => ⟨a, ns, rfl, hS, hl, (List.forall_mem_cons.mpr ⟨⟨#[], hT (c6, P6) (by simp), by trivial⟩, (List.forall_mem_cons.mpr ⟨⟨#[], hT (c8, P8) (by simp), by trivial⟩, (fun p hp => by simp at hp)⟩)⟩), fun _ => rfl⟩, fun base KB GB TB => ?_⟩
  have tb6 := TB (c6, P6) (by simp)
  have tb8 := TB (c8, P8) (by simp)
  have TC0 : STx K C0 := ⟨cl0.cl, na0_many, na0_ties, na0_kept, na0_lost⟩
  obtain ⟨dm0_0, Fm0_0⟩ := am0_0.fn
  obtain ⟨dm0_1, Fm0_1⟩ := am0_1.fn
  obtain ⟨dm0_2, Fm0_2⟩ := am0_2.fn
  obtain ⟨dm0_3, Fm0_3⟩ := am0_3.fn
  obtain ⟨dm0_4, Fm0_4⟩ := am0_4.fn
  obtain ⟨dm0_5, Fm0_5⟩ := am0_5.fn
  obtain ⟨dm0_6, Fm0_6⟩ := am0_6.fn
  obtain ⟨dm0_7, Fm0_7⟩ := am0_7.fn
  have D0 : Df l.prog w K mg base 1 "neighbours" ["web"] spNeighbours := .of g0 F0 (ok_neighbours F0 M) fun _ _ _ _ _ _ us hl => match us, hl with | [_], _ => rfl
  have D1 : Df l.prog w K mg base 1 "sides_from" ["start", "around"] spSidesFrom := .of g1 F1 (ok_sides_from F1 M) fun _ _ _ _ _ _ us hl => match us, hl with | [_, _], _ => rfl
  have D2 : Df l.prog w K mg base 2 "parts_of" ["web"] spPartsOf := .of g2 F2 (ok_parts_of F2 M m_sorted D0 D1) fun _ _ _ _ _ _ us hl => match us, hl with | [_], _ => rfl
  have D3 : Df l.prog w K mg base 1 "is_whole" ["thing"] spWhole := .of g3 F3 (ok_is_whole F3 M) fun _ _ _ _ _ _ us hl => match us, hl with | [_], _ => rfl
  have D4 : Df l.prog w K mg base 2 "is_whole_below" ["limit", "thing"] spBelow := .of g4 F4 (ok_is_whole_below F4 D3) fun _ _ _ _ _ _ us hl => match us, hl with | [_, _], _ => rfl
  have D5 : Df l.prog w K mg base 1 "is_tuple_of" ["length", "thing"] spTupleOf := .of g5 F5 (ok_is_tuple_of F5 M) fun _ _ _ _ _ _ us hl => match us, hl with | [_, _], _ => rfl
  have D6 : Df l.prog w K mg base 4 "are_unlike_below" ["limit", "thing"] (spUnlike [P6, P8]) := .of g6 F6.fn (ok_are_unlike F6 ⟨tb6.code, tb6.bm, tb6.gP⟩ (show P6 ∈ [P6, P8] by simp) M m_all m_set D4) fun _ _ _ _ _ _ us hl => match us, hl with | [_, _], _ => rfl
  have D7 : Df l.prog w K mg base 1 "joins" ["tie", "one", "other"] spJoins := .of g7 F7 (ok_joins F7) fun _ _ _ _ _ _ us hl => match us, hl with | [_, _, _], _ => rfl
  have D8 : Df l.prog w K mg base 5 "ring_holds" ["web", "thing"] (spRing [P6, P8]) := .of g8 F8.fn (ok_ring_holds F8 ⟨tb8.code, tb8.bm, tb8.gP⟩ (show P8 ∈ [P6, P8] by simp) M m_all m_zip D5 D6 D7) fun _ _ _ _ _ _ us hl => match us, hl with | [_, _], _ => rfl
  have D9 : Df l.prog w K mg base 1 "foes_in" ["web", "ring"] spFoes := .of g9 F9 (ok_foes_in F9 M) fun _ _ _ _ _ _ us hl => match us, hl with | [_, _], _ => rfl
  have D10 : Df l.prog w K mg base 6 "odd_ring_holds" ["web", "thing"] (spOdd [P6, P8]) := .of g10 F10 (ok_odd_ring F10 D8 D9) fun _ _ _ _ _ _ us hl => match us, hl with | [_, _], _ => rfl
  have D11 : Df l.prog w K mg base 1 "breaks" ["sides", "tie"] spBreaks := .of g11 F11 (ok_breaks F11) fun _ _ _ _ _ _ us hl => match us, hl with | [_, _], _ => rfl
  have D12 : Df l.prog w K mg base 2 "broken_by" ["web", "sides"] spBroken := .of g12 F12 (ok_broken_by F12 M m_enumerate D11) fun _ _ _ _ _ _ us hl => match us, hl with | [_, _], _ => rfl
  have D13 : Df l.prog w K mg base 3 "sides_of" ["web"] spFixed := .of g13 F13 (ok_sides_of F13 M D0 D1 D12) fun _ _ _ _ _ _ us hl => match us, hl with | [_], _ => rfl
  have D14 : Df l.prog w K mg base 1 "ties_around" ["web", "numbers"] spAround := .of g14 F14 (ok_ties_around F14) fun _ _ _ _ _ _ us hl => match us, hl with | [_, _], _ => rfl
  have D15 : Df l.prog w K mg base 1 "walk_from" ["start", "around"] spWalkFrom := .of g15 F15 (ok_walk_from F15) fun _ _ _ _ _ _ us hl => match us, hl with | [_, _], _ => rfl
  have D16 : Df l.prog w K mg base 1 "way_to" ["end", "walk"] spWayTo := .of g16 F16 (ok_way_to F16 M) fun _ _ _ _ _ _ us hl => match us, hl with | [_, _], _ => rfl
  have D17 : Df l.prog w K mg base 1 "turned_tie" ["tie", "among"] spTurnedTie := .of g17 F17 (ok_turned_tie F17) fun _ _ _ _ _ _ us hl => match us, hl with | [_, _], _ => rfl
  have D18 : Df l.prog w K mg base 2 "turned" ["web", "places"] (spTurned K) := .of g18 F18 (ok_turned F18 M D17) fun _ _ _ _ _ _ us hl => match us, hl with | [_, _], _ => rfl
  have Gi0 : FnOk l.prog w K mg base CX0 1 m0_0 dm0_0 ["self", "many"] (spSInit C0) := ok_S_init Fm0_0 TC0
  have bi0 : Binds K dm0_0 ["self", "many"] [] := Fm0_0.binds (ps := ["self", "many"]) fun _ _ _ _ _ _ us hl => match us, hl with | [_, _], _ => rfl
  have E_web : DfM l.prog w K mg base 1 C0 "web" ["self"] (spSWeb C0) := ⟨m0_1, dm0_1, ok_S_web Fm0_1 TC0 M, am0_1.me, Fm0_1.binds (ps := ["self"]) fun _ _ _ _ _ _ us hl => match us, hl with | [_], _ => rfl⟩
  have E_broken : DfM l.prog w K mg base 1 C0 "broken" ["self"] (spSBroken C0) := ⟨m0_2, dm0_2, ok_S_broken Fm0_2 TC0 M, am0_2.me, Fm0_2.binds (ps := ["self"]) fun _ _ _ _ _ _ us hl => match us, hl with | [_], _ => rfl⟩
  have E_back : DfM l.prog w K mg base 1 C0 "back" ["self"] (spSBack C0) := ⟨m0_3, dm0_3, ok_S_back Fm0_3 TC0 M, am0_3.me, Fm0_3.binds (ps := ["self"]) fun _ _ _ _ _ _ us hl => match us, hl with | [_], _ => rfl⟩
  have E_come : DfM l.prog w K mg base 2 C0 "come" ["self", "one", "other", "kind"] (spSCome C0) := ⟨m0_4, dm0_4, ok_S_come Fm0_4 TC0 M E_web D14 D15 D16 (foesIn83 D9), am0_4.me, Fm0_4.binds (ps := ["self", "one", "other", "kind"]) fun _ _ _ _ _ _ us hl => match us, hl with | [_, _, _, _], _ => rfl⟩
  have E_kept_web : DfM l.prog w K mg base 1 C0 "kept_web" ["self"] (spSKept C0) := ⟨m0_5, dm0_5, ok_S_kept Fm0_5 TC0 M, am0_5.me, Fm0_5.binds (ps := ["self"]) fun _ _ _ _ _ _ us hl => match us, hl with | [_], _ => rfl⟩
  have E_sides : DfM l.prog w K mg base 4 C0 "sides" ["self"] (spSSides C0) := ⟨m0_6, dm0_6, ok_S_sides Fm0_6 TC0 E_kept_web D13, am0_6.me, Fm0_6.binds (ps := ["self"]) fun _ _ _ _ _ _ us hl => match us, hl with | [_], _ => rfl⟩
  have E_between : DfM l.prog w K mg base 2 C0 "between" ["self", "one", "other"] (spSBetween C0) := ⟨m0_7, dm0_7, ok_S_between Fm0_7 TC0 E_kept_web D0 D1, am0_7.me, Fm0_7.binds (ps := ["self", "one", "other"]) fun _ _ _ _ _ _ us hl => match us, hl with | [_, _, _], _ => rfl⟩
  have D19 : Df l.prog w K mg base 3 "first_broken" ["web"] spFB := .of g19 F19 (ok_first_broken F19 TC0 m_enumerate (PySem.W.mg_of X G cl0.ns) ⟨cl0.mks, am0_0.me.at_, am0_0.me.fn, cl0.kc⟩ Gi0 bi0 E_come) fun _ _ _ _ _ _ us hl => match us, hl with | [_], _ => rfl
  have D20 : Df l.prog w K mg base 1 "_law_cell_at" ["_law_script", "_law_k"] (spCell K) := .of g20 F20 (ok_l_cell_at F20 M) fun _ _ _ _ _ _ us hl => match us, hl with | [_, _], _ => rfl
  have D21 : Df l.prog w K mg base 1 "_law_draw" ["_law_well", "_law_many"] spDraw := .of g21 F21 (ok_l_draw F21 m_abs) fun _ _ _ _ _ _ us hl => match us, hl with | [_, _], _ => rfl
  have D22 : Df l.prog w K mg base 2 "_law_size" ["_law_script"] (spSize K) := .of g22 F22 (ok_l_size F22 M D20 D21) fun _ _ _ _ _ _ us hl => match us, hl with | [_], _ => rfl
  have D23 : Df l.prog w K mg base 2 "_law_deed" ["_law_script", "_law_k", "_law_many", "_law_ties", "_law_goes_round"] (spDeed K) := .of g23 F23 (ok_l_deed F23 M D20 D21) fun _ _ _ _ _ _ us hl => match us, hl with | [_, _, _, _, _], _ => rfl
  have D24 : Df l.prog w K mg base 3 "_law_made" ["_law_web"] (spMade C0) := .of g24 F24 (ok_l_made F24 TC0 (PySem.W.mg_of X G cl0.ns) ⟨cl0.mks, am0_0.me.at_, am0_0.me.fn, cl0.kc⟩ Gi0 bi0 E_come) fun _ _ _ _ _ _ us hl => match us, hl with | [_], _ => rfl
  have D25 : Df l.prog w K mg base 5 "_law_told" ["_law_stand", "_law_many", "_law_k"] (spState C0) := .of g25 F25 (ok_l_told F25 M TC0 m_min E_between E_broken E_sides E_web) fun _ _ _ _ _ _ us hl => match us, hl with | [_, _, _], _ => rfl
  have D26 : Df l.prog w K mg base 5 "_law_between_right" ["_law_stand", "_law_kept_web", "_law_k"] (spBetR C0) := .of g26 F26 (ok_l_between_right F26 M TC0 D2 E_between E_sides) fun _ _ _ _ _ _ us hl => match us, hl with | [_, _, _], _ => rfl
  have D27 : Df l.prog w K mg base 6 "_law_kept_right" ["_law_stand", "_law_rings", "_law_k"] (spKeptR C0) := .of g27 F27 (ok_l_kept_right F27 M TC0 m_enumerate D26 D13 D19 E_broken E_sides E_web) fun _ _ _ _ _ _ us hl => match us, hl with | [_, _, _], _ => rfl
  have D28 : Df l.prog w K mg base 7 "_law_rings_right" ["_law_web", "_law_broken", "_law_rings"] (spRingsR [P6, P8]) := .of g28 F28 (ok_l_rings_right F28 D10) fun _ _ _ _ _ _ us hl => match us, hl with | [_, _, _], _ => rfl
  have D29 : Df l.prog w K mg base 4 "_law_turned_right" ["_law_script", "_law_stand", "_law_k"] (spTurnR K C0) := .of g29 F29 (ok_l_turned_right F29 M TC0 D20 D21 D18 D24 E_broken E_web) fun _ _ _ _ _ _ us hl => match us, hl with | [_, _, _], _ => rfl
  exact ok_law F30 M TC0 D22 D23 D24 D25 D28 D27 D29 (PySem.W.mg_of X G cl0.ns) ⟨cl0.mks, am0_0.me.at_, am0_0.me.fn, cl0.kc⟩ Gi0 bi0 E_back E_broken E_come E_web
end
end FF
open PySem PySem.W PyProof.Rows
set_option maxRecDepth 100000 in
set_option maxHeartbeats 0 in
theorem PySem.Challenge.cw_friendfoe_k83_whole_a_stand_played_holds : PySem.Challenge.rw_friendfoe_k83_whole_a_stand_played.Holds := by
  w_on; o_law; k_head; (case hw => w_witness2)
  k_fill
  refine FF.walk_tabs (l := PySem.Challenge.rw_friendfoe_k83_whole_a_stand_played) (n := 63) (k := 8) (x := "_law_script") rfl (by decide) rfl ⟨rfl, by decide, by decide⟩ (fun w h Y => PySem.W.kIn_of Y) ?F
  case F =>
    intro w mg fa h KX G hmg tabs
    refine' FF.law_at KX G hmg (fun fy => tabs "are_unlike_below" fy ?r6) (fun fy => tabs "ring_holds" fy ?r8) ?a0 ?a1 ?a2 ?a3 ?a4 ?a5 ?a6 ?a7 ?a8 ?a9 ?a10 ?a11 ?a12 ?a13 ?a14 ?a15 ?a16 ?a17 ?a18 ?a19 ?a20 ?a21 ?a22 ?a23 ?a24 ?a25 ?a26 ?a27 ?a28 ?a29 ?a30 ?z0 ?z1 ?z2 ?z3 ?z4 ?z5 ?z6 ?z7 ?z8 ?z9 ?z10 ?z11 ?z12 ?z13 ?z14 ?z15 ?cl0 ?na0_many ?na0_ties ?na0_kept ?na0_lost ?am0_0 ?am0_1 ?am0_2 ?am0_3 ?am0_4 ?am0_5 ?am0_6 ?am0_7
    (case r6 => rfl)
    (case r8 => rfl)
    (case a0 => refine' FF.at_mk ?p1 ?p2 ?p3 ?p4; (case p1 => k_is); (case p2 => k_is); (case p3 => k_is); (case p4 => k_is))
    (case a1 => refine' FF.at_mk ?p1 ?p2 ?p3 ?p4; (case p1 => k_is); (case p2 => k_is); (case p3 => k_is); (case p4 => k_is))
    (case a2 => refine' FF.at_mk ?p1 ?p2 ?p3 ?p4; (case p1 => k_is); (case p2 => k_is); (case p3 => k_is); (case p4 => k_is))
    (case a3 => refine' FF.at_mk ?p1 ?p2 ?p3 ?p4; (case p1 => k_is); (case p2 => k_is); (case p3 => k_is); (case p4 => k_is))
    (case a4 => refine' FF.at_mk ?p1 ?p2 ?p3 ?p4; (case p1 => k_is); (case p2 => k_is); (case p3 => k_is); (case p4 => k_is))
    (case a5 => refine' FF.at_mk ?p1 ?p2 ?p3 ?p4; (case p1 => k_is); (case p2 => k_is); (case p3 => k_is); (case p4 => k_is))
    (case a6 => refine' FF.atC_mk ?p1 ?p2 ?p3 ?p4 ?p5 ?p6 ?p7 ?p8 ?p9 ?p10 ?p11 ?p12 ?p13; (case p1 => k_is); (case p2 => k_is); (case p3 => k_is); (case p4 => k_is); (case p5 => k_is); (case p6 => rfl); (case p7 => rfl); (case p8 => rfl); (case p9 => rfl); (case p10 => rfl); (case p11 => rfl); (case p12 => decide); (case p13 => rfl))
    (case a7 => refine' FF.at_mk ?p1 ?p2 ?p3 ?p4; (case p1 => k_is); (case p2 => k_is); (case p3 => k_is); (case p4 => k_is))
    (case a8 => refine' FF.atC_mk ?p1 ?p2 ?p3 ?p4 ?p5 ?p6 ?p7 ?p8 ?p9 ?p10 ?p11 ?p12 ?p13; (case p1 => k_is); (case p2 => k_is); (case p3 => k_is); (case p4 => k_is); (case p5 => k_is); (case p6 => rfl); (case p7 => rfl); (case p8 => rfl); (case p9 => rfl); (case p10 => rfl); (case p11 => rfl); (case p12 => decide); (case p13 => rfl))
    (case a9 => refine' FF.at_mk ?p1 ?p2 ?p3 ?p4; (case p1 => k_is); (case p2 => k_is); (case p3 => k_is); (case p4 => k_is))
    (case a10 => refine' FF.at_mk ?p1 ?p2 ?p3 ?p4; (case p1 => k_is); (case p2 => k_is); (case p3 => k_is); (case p4 => k_is))
    (case a11 => refine' FF.at_mk ?p1 ?p2 ?p3 ?p4; (case p1 => k_is); (case p2 => k_is); (case p3 => k_is); (case p4 => k_is))
    (case a12 => refine' FF.at_mk ?p1 ?p2 ?p3 ?p4; (case p1 => k_is); (case p2 => k_is); (case p3 => k_is); (case p4 => k_is))
    (case a13 => refine' FF.at_mk ?p1 ?p2 ?p3 ?p4; (case p1 => k_is); (case p2 => k_is); (case p3 => k_is); (case p4 => k_is))
    (case a14 => refine' FF.at_mk ?p1 ?p2 ?p3 ?p4; (case p1 => k_is); (case p2 => k_is); (case p3 => k_is); (case p4 => k_is))
    (case a15 => refine' FF.at_mk ?p1 ?p2 ?p3 ?p4; (case p1 => k_is); (case p2 => k_is); (case p3 => k_is); (case p4 => k_is))
    (case a16 => refine' FF.at_mk ?p1 ?p2 ?p3 ?p4; (case p1 => k_is); (case p2 => k_is); (case p3 => k_is); (case p4 => k_is))
    (case a17 => refine' FF.at_mk ?p1 ?p2 ?p3 ?p4; (case p1 => k_is); (case p2 => k_is); (case p3 => k_is); (case p4 => k_is))
    (case a18 => refine' FF.at_mk ?p1 ?p2 ?p3 ?p4; (case p1 => k_is); (case p2 => k_is); (case p3 => k_is); (case p4 => k_is))
    (case a19 => refine' FF.at_mk ?p1 ?p2 ?p3 ?p4; (case p1 => k_is); (case p2 => k_is); (case p3 => k_is); (case p4 => k_is))
    (case a20 => refine' FF.at_mk ?p1 ?p2 ?p3 ?p4; (case p1 => k_is); (case p2 => k_is); (case p3 => k_is); (case p4 => k_is))
    (case a21 => refine' FF.at_mk ?p1 ?p2 ?p3 ?p4; (case p1 => k_is); (case p2 => k_is); (case p3 => k_is); (case p4 => k_is))
    (case a22 => refine' FF.at_mk ?p1 ?p2 ?p3 ?p4; (case p1 => k_is); (case p2 => k_is); (case p3 => k_is); (case p4 => k_is))
    (case a23 => refine' FF.at_mk ?p1 ?p2 ?p3 ?p4; (case p1 => k_is); (case p2 => k_is); (case p3 => k_is); (case p4 => k_is))
    (case a24 => refine' FF.at_mk ?p1 ?p2 ?p3 ?p4; (case p1 => k_is); (case p2 => k_is); (case p3 => k_is); (case p4 => k_is))
    (case a25 => refine' FF.at_mk ?p1 ?p2 ?p3 ?p4; (case p1 => k_is); (case p2 => k_is); (case p3 => k_is); (case p4 => k_is))
    (case a26 => refine' FF.at_mk ?p1 ?p2 ?p3 ?p4; (case p1 => k_is); (case p2 => k_is); (case p3 => k_is); (case p4 => k_is))
    (case a27 => refine' FF.at_mk ?p1 ?p2 ?p3 ?p4; (case p1 => k_is); (case p2 => k_is); (case p3 => k_is); (case p4 => k_is))
    (case a28 => refine' FF.at_mk ?p1 ?p2 ?p3 ?p4; (case p1 => k_is); (case p2 => k_is); (case p3 => k_is); (case p4 => k_is))
    (case a29 => refine' FF.at_mk ?p1 ?p2 ?p3 ?p4; (case p1 => k_is); (case p2 => k_is); (case p3 => k_is); (case p4 => k_is))
    (case a30 => refine' FF.at_mk ?p1 ?p2 ?p3 ?p4; (case p1 => k_is); (case p2 => k_is); (case p3 => k_is); (case p4 => k_is))
    (case z0 => k_is)
    (case z1 => k_is)
    (case z2 => k_is)
    (case z3 => k_is)
    (case z4 => k_is)
    (case z5 => k_is)
    (case z6 => k_is)
    (case z7 => k_is)
    (case z8 => k_is)
    (case z9 => k_is)
    (case z10 => k_is)
    (case z11 => k_is)
    (case z12 => k_is)
    (case z13 => k_is)
    (case z14 => k_is)
    (case z15 => k_is)
    (case cl0 => refine' FF.atCl_mk ?q1 ?q2 ?q3 ?q4 ?q5 ?q6 ?q7; (case q1 => k_is); (case q2 => k_is); (case q3 => k_is); (case q4 => k_is); (case q5 => k_is); (case q6 => k_is); (case q7 => k_is))
    (case na0_many => k_is)
    (case na0_ties => k_is)
    (case na0_kept => k_is)
    (case na0_lost => k_is)
    (case am0_0 => refine' FF.atM_mk ?q1 ?q2 ?q3 ?q4 ?q5; (case q1 => k_is); (case q2 => k_is); (case q3 => k_is); (case q4 => k_is); (case q5 => k_is))
    (case am0_1 => refine' FF.atM_mk ?q1 ?q2 ?q3 ?q4 ?q5; (case q1 => k_is); (case q2 => k_is); (case q3 => k_is); (case q4 => k_is); (case q5 => k_is))
    (case am0_2 => refine' FF.atM_mk ?q1 ?q2 ?q3 ?q4 ?q5; (case q1 => k_is); (case q2 => k_is); (case q3 => k_is); (case q4 => k_is); (case q5 => k_is))
    (case am0_3 => refine' FF.atM_mk ?q1 ?q2 ?q3 ?q4 ?q5; (case q1 => k_is); (case q2 => k_is); (case q3 => k_is); (case q4 => k_is); (case q5 => k_is))
    (case am0_4 => refine' FF.atM_mk ?q1 ?q2 ?q3 ?q4 ?q5; (case q1 => k_is); (case q2 => k_is); (case q3 => k_is); (case q4 => k_is); (case q5 => k_is))
    (case am0_5 => refine' FF.atM_mk ?q1 ?q2 ?q3 ?q4 ?q5; (case q1 => k_is); (case q2 => k_is); (case q3 => k_is); (case q4 => k_is); (case q5 => k_is))
    (case am0_6 => refine' FF.atM_mk ?q1 ?q2 ?q3 ?q4 ?q5; (case q1 => k_is); (case q2 => k_is); (case q3 => k_is); (case q4 => k_is); (case q5 => k_is))
    (case am0_7 => refine' FF.atM_mk ?q1 ?q2 ?q3 ?q4 ?q5; (case q1 => k_is); (case q2 => k_is); (case q3 => k_is); (case q4 => k_is); (case q5 => k_is))
