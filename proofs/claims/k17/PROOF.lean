import PyProof.Rows.All
import Wide.All
import OpenK.AllK
import Wide.FinOn
import HandS.ForMost
import HandS.IsInst
import HandS.TupAny
import HandS.TupLe
import HandS.Wide
import HandS.Style
import HandS.SortInts
import HandS.Conv
import HandS.More
import HandS.EndTab
import HandS.EndOwn
import HandS.AnyAll
import HandS.GenOver
import HandS.Evl
import HandS.Walk
import HandS.NoneIn
import HandS.Zip
import HandS.DictComp
import HandS.SetFor
import KE.GoesEnum
import HandS.TupMul
import HandS.Strs
import KE.DataMinMax
import HandS.ForExc
import HandS.ExcIs
import HandS.SetKeys
import PySem.Challenge.RW_friendfoe_k17_things_that_are_no_layers
set_option Elab.async false
set_option linter.all false
set_option maxRecDepth 100000
namespace FF
open PySem PySem.Spec PyProof.Rows L2
/-! ### heaps: what is kept -/
/-- all that is tracked, but at d and c, is as it was -/
def Kp (d c : Addr) (H H' : Hp) : Prop := ∀ b o, b ≠ d → b ≠ c → H b = some o → H' b = some o
theorem Kp.refl {d c : Addr} {H : Hp} : Kp d c H H := fun _ _ _ _ h => h
theorem Kp.trans {d c : Addr} {H H1 H2 : Hp} (a : Kp d c H H1) (b : Kp d c H1 H2) : Kp d c H H2 := fun x o h1 h2 h => b x o h1 h2 (a x o h1 h2 h)
theorem Kp.at_d {d c : Addr} {H : Hp} {o : HO} : Kp d c H (upd H d o) := fun b u h1 _ h => by rw [upd_ne h1]; exact h
theorem Kp.at_c {d c : Addr} {H : Hp} {o : HO} : Kp d c H (upd H c o) := fun b u _ h2 h => by rw [upd_ne h2]; exact h
theorem Kp.new {d c p : Addr} {H : Hp} {o : HO} (hp : H p = none) : Kp d c H (upd H p o) := fun b u _ _ h => by rw [upd_ne (ne_of_none h hp)]; exact h
theorem same_new {H : Hp} {p : Addr} {o : HO} (h : H p = none) : Same H (upd H p o) := fun b x e => by
  rw [upd_ne (ne_of_none e h)]
  exact e
theorem Same.kp {d c : Addr} {H H' : Hp} (s : Same H H') : Kp d c H H' := fun b o _ _ h => s b o h
/-! ### defs as they are called -/
def Df (P : Program) (w : World) (K : PySem.W.Frag) (mg : Str → Option Value) (base : Heap) (k : Nat) (x : Str) (ps : List Str) (sp : Sp) : Prop :=
  ∃ (f : Addr) (fd : FuncData), FnOk P w K mg base CX0 k f fd ps sp ∧ mg x = some (.ref f) ∧ PySem.W.keepIn K (.ref f) = true ∧ Binds K fd ps []
/-- built-in names that the module has not taken -/
structure Free (mg : Str → Option Value) : Prop where
  len : mg "len" = none
  int : mg "int" = none
  bool : mg "bool" = none
  str : mg "str" = none
  list : mg "list" = none
  tuple : mg "tuple" = none
  range : mg "range" = none
  isinstance : mg "isinstance" = none
  sum : mg "sum" = none
/-! ### the well -/
structure Well (H : Hp) (d : Addr) (b : Nat) : Prop where
  ex : ∃ (g st : Int) (k : Nat), H d = some (.lst [.int g, .int st, .int k]) ∧ k ≤ b
theorem Well.same {H H' : Hp} {d : Addr} {b : Nat} (h : Well H d b) (s : Same H H') : Well H' d b := by
  obtain ⟨g, st, k, h1, h2⟩ := h
  exact ⟨g, st, k, s _ _ h1, h2⟩
theorem Well.mono {H : Hp} {d : Addr} {b b' : Nat} (h : Well H d b) (s : b ≤ b') : Well H d b' := by
  obtain ⟨g, st, k, h1, h2⟩ := h
  exact ⟨g, st, k, h1, Nat.le_trans h2 s⟩
theorem Well.mut {H : Hp} {d l : Addr} {o : HO} {b : Nat} (D : Well H d b) (h1 : l ≠ d) : Well (upd H l o) d b := by
  obtain ⟨g, st, k, e1, e2⟩ := D
  exact ⟨g, st, k, by rw [upd_ne (Ne.symm h1)]; exact e1, e2⟩
theorem Well.new {H : Hp} {d l : Addr} {o : HO} {b : Nat} (D : Well H d b) (h : H l = none) : Well (upd H l o) d b := D.same (same_new h)
theorem Well.ned {H : Hp} {d l : Addr} {b : Nat} (D : Well H d b) (h : H l = none) : l ≠ d := by
  obtain ⟨g, st, k, e1, e2⟩ := D
  exact (ne_of_none e1 h).symm
theorem mod_rng {a m : Int} (h : 0 < m) : 0 ≤ a % m ∧ a % m < m := ⟨Int.emod_nonneg a (by omega), Int.emod_lt_of_pos a h⟩
/-- a draw below m: any number from 0 on, less than m; one draw more -/
def spDraw : Sp := fun vs H Q _ => ∃ (d : Addr) (b : Nat) (m : Int), vs = [.ref d, .int m] ∧ Well H d b ∧ b < 2 ^ 60 ∧ 0 < m ∧ m.natAbs < 2 ^ 120 ∧
  ∀ v H', 0 ≤ v → v < m → Well H' d (b + 1) → Kp d d H H' → Q (.int v) H'
/-! ### a generator expression's own frame -/
/-- the context of a generator's turns: its frame cenv stands over the def's -/
abbrev gX (X : Cx) (s : Shared) (H : Hp) (A' : Around) (cenv : Env) (fp : List Addr) : Cx :=
  { X with A := A', s_0 := s, H_0 := H, env := cenv, outer := X.stack, stack := cenv :: X.stack, ex := fp, fn := fun _ => false, pn := [], xe := fun _ _ => False }
/-- what is asked of the expression's own scope -/
structure GnOk (scope : Scope) : Prop where
  co : scope.isCoroutine = false
  nocell : ∀ y ∈ scope.names, y.2 ≠ .cell
  dot : scope.names.lookup (".0" : Str) = some NameKind.local
section
variable {X : Cx} {pins : List (Addr × Obj)} {σ : L2.St} {H : Hp} {s : Shared}
theorem gen_start {scope : Scope} {own : List (Str × Nat)} {fp : List Addr} {A' : Around} {code : Value} {m0 : Str → Option Value} {h5 : Heap} {g5 : Array GenState} {t5 : Nat} {a : Addr} {go : Obj}
    (I : Inv X pins σ H s) (ok : BlkOk X.N X.env.scope scope own) (gk : GnOk scope) (hN : X.N.Nodup) (hfp : ∀ b ∈ fp, FpOk X pins H b ∧ b < s.heap.objs.size)
    (hA : A'.handled = none) (hF : A'.frames = some (genEnv scope (cloFrom X.env.cells scope.names []) s.heap.objs.size code builtinsNs X.env :: X.stack))
    (kp : ∀ b o, s.heap.get? b = some o → h5.get? b = some o) (hn : h5.Ns s.heap.objs.size m0) (hm0 : ∀ x, x ≠ (".0" : Str) → m0 x = none) (hdN : (".0" : Str) ∉ X.N) (hb5 : AllBare g5)
    (ha : s.heap.objs.size < a) (hgo : h5.get? a = some go) (hgd : ∀ v, go.data ≠ .cell v) :
    Inv (gX X s H A' (genEnv scope (cloFrom X.env.cells scope.names []) s.heap.objs.size code builtinsNs X.env) fp) [(a, go)] (wipe σ (own.map (·.2))) H { s with heap := h5, gens := g5, toks := t5 } := by
  have hfree : ∀ y ∈ scope.names, y.2 = .free → ∃ c, X.env.cells.lookup y.1 = some c := fun y hy e =>
    (ok.free y hy e).elim (fun k => I.ok.has _ (.inl k)) fun k => I.ok.has _ (.inr k)
  have cm : ∀ {y c}, (y, c) ∈ cloFrom X.env.cells scope.names [] → X.env.cells.lookup y = some c ∧ c < s.heap.objs.size := fun {y c} q => by
    rcases cloFrom_mem q with q | ⟨h1, e1⟩
    · cases q
    · obtain ⟨c1, hc1⟩ := hfree _ h1 rfl
      rw [hc1] at e1
      cases e1
      obtain ⟨w1, z1⟩ := I.cell _ _ hc1
      exact ⟨hc1, z1.lt⟩
  have cl : ∀ {y c}, (cloFrom X.env.cells scope.names []).lookup y = some c → X.env.cells.lookup y = some c ∧ c < s.heap.objs.size := fun {y c} e => cm (PySem.mem_of_lookup e)
  have look : ∀ {y}, scope.names.lookup y = some .free → ∃ c, (cloFrom X.env.cells scope.names []).lookup y = some c := fun {y} e =>
    mem_lookup (cloFrom_has (cells := X.env.cells) (acc := []) (PySem.mem_of_lookup e))
  generalize hce : genEnv scope (cloFrom X.env.cells scope.names []) s.heap.objs.size code builtinsNs X.env = ce at hF
  have cL : ce.locals = s.heap.objs.size := by rw [← hce]; rfl
  have cC : ce.cells = cloFrom X.env.cells scope.names [] := by rw [← hce]; rfl
  have cS : ce.scope = scope := by rw [← hce]; rfl
  have cF : ce.frame = some ce.locals := by rw [← hce]; rfl
  have okG : (gX X s H A' ce fp).Ok := by
    refine ⟨I.ok.mod, ?_, ?_, ?_, ?_, fun y z c e1 e2 => ?_, fun y hy => ?_, fun y c z e => ?_, fun _ => hA, hF, .inr ⟨rfl, cF⟩, fun b hb => ⟨?_, fun y c e z => ?_⟩, I.bs, Nat.le_trans I.ok.bsz I.sz, fun b o e hb => ?_, fun b hb z => ?_, I.stack, I.stkFree⟩
    · show ce.scope.kind = _
      rw [cS]
      exact ok.kind
    · show ce.globals = _
      rw [← hce]
      exact I.ok.glob
    · show ce.builtins = _
      rw [← hce]
      rfl
    · show s.heap.objs.size ≤ ce.locals
      rw [cL]
      exact Nat.le_refl _
    · have e1 : ce.cells.lookup y = some c := e1
      have e2 : ce.cells.lookup z = some c := e2
      rw [cC] at e1 e2
      exact I.ok.inj y z c (cl e1).1 (cl e2).1
    · show ∃ c, ce.cells.lookup y = some c
      rw [cC]
      have hy : scope.names.lookup y = some .cell ∨ scope.names.lookup y = some .free := by
        have hy' : ce.scope.names.lookup y = some .cell ∨ ce.scope.names.lookup y = some .free := hy
        rw [cS] at hy'
        exact hy'
      rcases hy with k | k
      · exact absurd rfl (gk.nocell _ (PySem.mem_of_lookup k))
      · exact look k
    · exact absurd (show false = true from z) Bool.false_ne_true
    · show b ≠ ce.locals
      rw [cL]
      exact Nat.ne_of_lt (hfp b hb).2
    · have e : ce.cells.lookup y = some c := e
      rw [cC] at e
      exact (hfp b hb).1.2.2.2.2.1 y c (cl e).1 z
    · rcases (hfp b hb).1.2.2.2.1 with q | q
      · exact I.ok.noex b o e q
      · exact absurd (Nat.lt_of_lt_of_le (Heap.lt_size e) (Nat.le_trans I.ok.bsz q)) (Nat.lt_irrefl _)
    · rcases List.mem_cons.mp (I.stkSub b z) with q | q
      · exact (hfp b hb).1.2.1 q
      · exact (hfp b hb).1.2.2.1 q
  refine ⟨okG, rfl, hb5, Un.kept kp, ⟨m0, ?_, fun i y av e1 e2 e3 => ?_⟩, fun y c e => ?_, ?_, fun y c e => ?_, fun p hp => ?_, I.hok.kept kp, by rw [wipe_length]; exact I.len⟩
  · show Heap.Ns _ ce.locals _
    rw [cL]
    exact hn
  · obtain ⟨e2, hne⟩ := wipe_some e2
    have e3 : Vis ce.scope y := e3
    rw [cS] at e3
    have hfr : scope.names.lookup y = some .free := by
      have no : ∀ k, scope.names.lookup y = some k → ¬ (k = .local ∨ k = .cell) := fun k hk hh => by
        rcases ok.own _ (PySem.mem_of_lookup hk) hh with q | q
        · obtain ⟨p, hp, hpy⟩ := List.mem_map.mp q
          have e4 := ok.ix p hp
          have hpy : p.1 = y := hpy
          rw [hpy] at e4
          exact hne (List.mem_map.mpr ⟨p, hp, nodup_ix hN e4 e1⟩)
        · exact q (List.mem_of_getElem? e1)
      rcases e3 with e3 | e3 | e3
      · exact absurd (.inl rfl) (no _ e3)
      · exact absurd (.inr rfl) (no _ e3)
      · exact e3
    obtain ⟨m, _, hl⟩ := I.loc
    have hvis : Vis X.env.scope y := (ok.free _ (PySem.mem_of_lookup hfr) rfl).elim (fun k => .inr (.inl k)) fun k => .inr (.inr k)
    obtain ⟨w1, r1, q1⟩ := hl i y av e1 e2 hvis
    obtain ⟨c, hc⟩ := look hfr
    refine ⟨w1, r1, .inr ⟨.inr (by show ce.scope.names.lookup y = _; rw [cS]; exact hfr), c, by show ce.cells.lookup y = _; rw [cC]; exact hc, ?_⟩⟩
    rcases q1 with ⟨k, _⟩ | ⟨_, c', e', z⟩
    · have k : X.env.scope.names.lookup y = some .local := k
      rcases ok.free _ (PySem.mem_of_lookup hfr) rfl with k' | k' <;> (have k' : X.env.scope.names.lookup y = _ := k'; rw [k'] at k; cases k)
    · rw [(cl hc).1] at e'
      cases e'
      exact z.keeps kp
  · have e : ce.cells.lookup y = some c := e
    rw [cC] at e
    obtain ⟨w1, z1⟩ := I.cell y c (cl e).1
    exact ⟨w1, z1.keeps kp⟩
  · show H ce.locals = none
    rw [cL]
    exact I.hok.fresh (Nat.le_refl _)
  · have e : ce.cells.lookup y = some c := e
    rw [cC] at e
    exact I.freeC y c (cl e).1
  · have hp : p = (a, go) := by simpa using hp
    subst hp
    refine ⟨hgo, I.hok.fresh (Nat.le_of_lt ha), ?_, fun z => ?_, hgd⟩
    · show a ≠ ce.locals
      rw [cL]
      exact Nat.ne_of_gt ha
    · have z : a ∈ frs X.stack := z
      obtain ⟨_, o, ho, _⟩ := I.stack.mem z
      exact absurd (Nat.lt_trans (Heap.lt_size ho) ha) (Nat.lt_irrefl _)
end
/-! ### all(..), any(..) of a generator, told by what each turn does -/
/-- between a yield and the next turn -/
structure Rs (s s' : Shared) : Prop where
  heap : s'.heap = s.heap
  os : s'.os = s.os
  bare : AllBare s'.gens
  size : s.gens.size ≤ s'.gens.size
theorem inv_gens {X : Cx} {pins : List (Addr × Obj)} {σ : L2.St} {H : Hp} {s s' : Shared} (I : Inv X pins σ H s) (h1 : s'.heap = s.heap) (h2 : s'.os = s.os) (h3 : AllBare s'.gens) : Inv X pins σ H s' := by
  obtain ⟨hh, g, d, t, o⟩ := s'
  have e1 : hh = s.heap := h1
  have e2 : o = s.os := h2
  subst e1 e2
  exact ⟨I.ok, I.os, h3, I.base, I.loc, I.cell, I.free, I.freeC, I.pin, I.hok, I.len⟩
theorem Rs.inv {X : Cx} {pins : List (Addr × Obj)} {σ : L2.St} {H : Hp} {s s' : Shared} (r : Rs s s') (I : Inv X pins σ H s) : Inv X pins σ H s' := by
  obtain ⟨h1, h2, h3, _⟩ := r
  obtain ⟨hh, g, d, t, o⟩ := s'
  have e1 : hh = s.heap := h1
  have e2 : o = s.os := h2
  subst e1 e2
  exact ⟨I.ok, I.os, h3, I.base, I.loc, I.cell, I.free, I.freeC, I.pin, I.hok, I.len⟩
theorem bare_set {gens : Array GenState} (h : AllBare gens) {g : Nat} {x : GenState} (hx : x.bare = true) : AllBare (gens.setIfInBounds g x) := fun y hy => by
  obtain ⟨i, hi, rfl⟩ := Array.mem_iff_getElem.mp hy
  rw [Array.size_setIfInBounds] at hi
  rw [Array.getElem_setIfInBounds hi]
  split
  · exact hx
  · exact h _ (Array.getElem_mem hi)
theorem Rs.set {s : Shared} (hb : AllBare s.gens) {g : Nat} {x : GenState} (hx : x.bare = true) : Rs s (s.setGen g x) :=
  ⟨rfl, rfl, bare_set hb hx, Nat.le_of_eq (GenW.setGen_size s g x).symm⟩
theorem Rs.trans {s s1 s2 : Shared} (a : Rs s s1) (b : Rs s1 s2) : Rs s s2 := ⟨b.heap.trans a.heap, b.os.trans a.os, b.bare, Nat.le_trans a.size b.size⟩
/-- the protocol of a generator whose items are truths: T b: what holds where b comes out -/
def gY (gi : Nat) (a : Addr) (stop : Bool) (Fin : Shared → Prop) : Protocol := fun n s₀ v s kap =>
  ∃ b, v = .bool b ∧ s.heap.IsGen a gi ∧ s.heap.NoLimit ∧ AllBare s.gens ∧ gi < s.gens.size ∧ (b = stop → Fin s) ∧ (b ≠ stop → ∀ s', Rs s s' → kap (.send .none) s')
def gR (End : Shared → Prop) : Nat → Shared → Shared → Prop := fun _ _ s => AllBare s.gens ∧ End s
/-- the generator waits -/
def Waits (prog : Program) (w : World) (A : Around) (gi : Nat) (a : Addr) (stop : Bool) (End Fin : Shared → Prop) (n : Nat) (s : Shared) : Prop :=
  s.heap.IsGen a gi ∧ s.heap.NoLimit ∧ AllBare s.gens ∧ ∃ gs, s.gens[gi]? = some gs ∧
    ∀ s', Rs s s' → gs.Goes (model prog w) A.in1 (fun n s₀ r s₁ => r = .ok .next ∧ gR End n s₀ s₁) (gY gi a stop Fin) n (.send .none) s'
section
variable {prog : Program} {w : World} {A : Around} {gi : Nat} {a : Addr} {stop : Bool} {End Fin : Shared → Prop}
theorem waits_next {n : Nat} {s : Shared} {Q : Option Value → Shared → Prop} {E : Value → Shared → Prop} (hh : A.handled = none) (hroom : A.depth < recursionLimit)
    (hE : ∀ s s' : Shared, End s → s'.os = s.os → AllBare s'.gens → (∀ b o, s.heap.get? b = some o → s'.heap.get? b = some o) → End s')
    (hF : ∀ s s' : Shared, Fin s → s'.os = s.os → AllBare s'.gens → (∀ b o, s.heap.get? b = some o → s'.heap.get? b = some o) → Fin s')
    (W : Waits prog w A gi a stop End Fin n s) (hN : ∀ s', End s' → Q none s') (hS : ∀ s', Fin s' → Q (some (.bool stop)) s')
    (hG : ∀ s' m, m < n → Waits prog w A gi a stop End Fin m s' → Q (some (.bool (!stop))) s') : wpAny (model prog w) A (pyNext (.ref a)) Q E s := by
  obtain ⟨hg, hl, hb, gs, hgs, hgo⟩ := W
  refine wpAny_pyNext_genexpQ (P := gR End) (Y := gY gi a stop Fin) hh hl hroom hg hgs (hgo _ (Rs.set hb rfl)) (fun v s₁ gs' hb' hv => ?_) fun s₁ hp h' hk => ?_
  · obtain ⟨b, rfl, g1, l1, b1, z1, f1, k1⟩ := hv
    by_cases e : b = stop
    · subst e
      exact hS _ (hF _ _ (f1 rfl) rfl (bare_set b1 hb') fun _ _ q => q)
    · have eb : b = !stop := by cases b <;> cases stop <;> first | rfl | exact absurd rfl e
      subst eb
      cases n with
      | zero => exact False.elim (k1 e s₁ ⟨rfl, rfl, b1, Nat.le_refl _⟩)
      | succ m =>
        refine hG _ m (Nat.lt_succ_self m) ⟨g1, l1, bare_set b1 hb', gs', ?_, fun s' r => k1 e s' ((Rs.set b1 hb').trans r)⟩
        show (s₁.gens.setIfInBounds gi gs')[gi]? = some gs'
        rw [Array.getElem?_setIfInBounds_self_of_lt z1]
  · obtain ⟨b1, e1⟩ := hp
    exact hN _ (hE _ _ e1 rfl (bare_set b1 rfl) fun b o q => hk b o q)
end
section
variable {prog : Program} {w : World} {A : Around} {gi : Nat} {a : Addr} {End Fin : Shared → Prop}
theorem all_loop (hh : A.handled = none) (hroom : A.depth < recursionLimit)
    (hE : ∀ s s' : Shared, End s → s'.os = s.os → AllBare s'.gens → (∀ b o, s.heap.get? b = some o → s'.heap.get? b = some o) → End s')
    (hF : ∀ s s' : Shared, Fin s → s'.os = s.os → AllBare s'.gens → (∀ b o, s.heap.get? b = some o → s'.heap.get? b = some o) → Fin s') :
    ∀ (n : Nat) (s : Shared), Waits prog w A.in1 gi a false End Fin n s →
      codeAny (model prog w) A (.builtin "all.loop" ⟨[.ref a], []⟩) (fun r s' => (r = .ok (.ret (.bool true)) ∧ End s') ∨ (r = .ok (.ret (.bool false)) ∧ Fin s')) s := by
  intro n
  induction n using Nat.strongRecOn with
  | ind n ih =>
    intro s W
    refine codeAny_builtin PySem.F.entry_all_loop ?_
    rw [Around.under_plainId PySem.F.plain_all_loop]
    show wpAny (model prog w) A.in1 (pyNext (.ref a) >>= _) _ _ s
    refine wpAny_bind (waits_next (A := A.in1) hh hroom hE hF W (fun s' e => ?_) (fun s' e => ?_) fun s' m hm W' => ?_)
    · exact wpAny_bind (wpAny_rule (wpAny_pure (.inl ⟨rfl, e⟩)))
    · refine wpAny_bind (wpAny_holding (wpAny_truthy_bool ?_))
      refine wpAny_bind (wpAny_letGo ?_)
      exact wpAny_bind (wpAny_rule (wpAny_pure (.inr ⟨rfl, e⟩)))
    · refine wpAny_bind (wpAny_holding (wpAny_truthy_bool ?_))
      refine wpAny_bind (wpAny_letGo ?_)
      exact wpAny_pure ⟨plainId_quiet PySem.F.plain_all_loop _, ih m hm s' W'⟩
end
/-! ### all(elt for target in iter) -/
/-- the reading: W by the turn and a measure; P: the def's table, which may grow -/
def tAll (P : Addr) (wi : TI) (g : TG) (te : TE) (vs : List Nat) : TE := fun σ H Q => wi σ H fun J H1 => GxR.TabG H1 P ∧ ∃ W : Nat → Nat → Hp → Prop, (∀ H2, GxR.Tabbed P H1 H2 → ∃ m, W 0 m H2) ∧ ∀ i m H, W i m H →
  (J.stop i H ∧ Q (.bl true) H) ∨ (J.go i H ∧ ∃ Nx : Hp → Prop, (∀ H', Nx H' → ∃ m', m' < m ∧ W (i + 1) m' H') ∧ ∀ x H', J.yld i H x H' → g x (wipe σ vs) H' fun σ2 H2 => wipe σ2 vs = wipe σ vs ∧
    te σ2 H2 fun y H3 => ∃ b, y = .bl b ∧ if b = true then Nx H3 else Q (.bl false) H3)
section
variable {X : Cx}
theorem pe_all {k : Nat} {c P : Addr} {elt tg iter : Expr} {scope : Scope} {own : List (Str × Nat)} {p pos gpos : Pos} {wi : TI} {g : TG} {te : TE}
    (hr : Room (k + 1) X.A) (TB : GxR.TabB X.base X.mg c P) (hcode : X.env.code = .ref c) (hc : X.calm = true) (hN : X.N.Nodup) (hG : Gl X "all") (hM : X.mg "all" = none) (hi : PI X tg iter wi) (ok : BlkOk X.N X.env.scope scope own) (gk : GnOk scope) (hdN : (".0" : Str) ∉ X.N)
    (hg : ∀ (s : Shared) (H : Hp) (A' : Around) (C : Addr) (cl : List (Str × Addr)) (code : Value) (fp : List Addr), PG (gX X s H A' (genEnv scope cl C code builtinsNs X.env) fp) tg g)
    (he : ∀ (s : Shared) (H : Hp) (A' : Around) (C : Addr) (cl : List (Str × Addr)) (code : Value) (fp : List Addr), Room k A' → PE (gX X s H A' (genEnv scope cl C code builtinsNs X.env) fp) elt te)
    (hs : ∀ v, genFold iter X.env v = pure v := by intro _; rfl)
    (hst : starEach [.GeneratorExp elt [⟨tg, iter, [], 0⟩] scope gpos] X.env = (false, eval (.GeneratorExp elt [⟨tg, iter, [], 0⟩] scope gpos) X.env) :: starEach [] X.env := by rfl) :
    PE X (.Call (.Name "all" p) [.GeneratorExp elt [⟨tg, iter, [], 0⟩] scope gpos] [] pos) (tAll P wi g te (own.map (·.2))) := by
  refine ⟨fun pins s σ H Q I h => ?_⟩
  have hh : X.A.handled = none := hr.hd
  refine wpAny_Call_Name_kw (ld_blt I hG hM PyProof.Rows.boot_all ?_)
  refine PyProof.Rows.callWith_builtin1 ?_ hst (by rfl)
  rw [hst]
  show wpAny _ _ (spliced ((false, eval (.GeneratorExp elt [⟨tg, iter, [], 0⟩] scope gpos) X.env) :: backTo pos (starEach [] X.env))) _ _ s
  have hfree : ∀ y ∈ scope.names, y.2 = .free → ∃ c, X.env.cells.lookup y.1 = some c := fun y hy e =>
    (ok.free y hy e).elim (fun k => I.ok.has _ (.inl k)) fun k => I.ok.has _ (.inr k)
  refine Calls.spliced_cons (wpAny_GeneratorExp_make gk.co (closure_ok hfree) gk.nocell gk.dot ok.kind (by have := hr.dp; omega) (thn (hi.run pins s σ H _ I h) fun xv s1 hx => thn hx fun itv s2 h2 => ?_) hs)
  obtain ⟨it, fp, tn, J, H2, e, I2, T, st2, f2, ⟨ps, hP, ht⟩, W, w0, turn⟩ := h2
  subst e
  refine ⟨I2.nolimit, ?_⟩
  have hPs : s2.heap.get? P = some { cls := .none, data := .fields ps } := I2.hok P _ hP
  have cd : PySem.W.CodeHd s2.heap c P := TB.code.keeps fun b u e => I2.bk b u e
  have sz2 : ∀ b ∈ fp, b < s2.heap.objs.size := fun b hb => by
    obtain ⟨o, e, _⟩ := T.obj _ _ st2 b hb
    exact Heap.lt_size e
  have nfP : ∀ b ∈ fp, b ≠ P := fun b hb z => by
    have q := (f2 b hb).1
    rw [z, hP] at q
    cases q
  -- behind the table
  have cont : ∀ (code : Value) (h3 : Heap) (tk : Nat) (more : Array Value), s2.heap.objs.size ≤ h3.objs.size → (∀ b o, b ≠ P → s2.heap.get? b = some o → h3.get? b = some o) → h3.get? P = some { cls := .none, data := .fields (ps ++ more) } → TriplesOk (ps ++ more).toList →
      wpAny (model X.prog X.w) X.A (builtinsFor X.env.globals X.env.builtins) (fun bi s4 => ∀ h', h'.Ns s4.heap.objs.size (fun y => if y = ".0" then some (.ref it) else none) → Heap.SameBut s4.heap.objs.size (s4.heap.push { cls := .type "frame", data := .dict #[] }) h' →
        wpAny (model X.prog X.w) X.A (spliced (backTo pos (starEach [] X.env))) (fun vs s5 => wpAny (model X.prog X.w) X.A (call (.builtin "all") (.ref h'.objs.size :: vs)) (EP X pins σ Q) X.xe s5) X.xe { s4 with
            gens := s4.gens.push (.fresh (.compStart (.GeneratorExp elt [⟨tg, iter, [], 0⟩] scope gpos) 0 (.ref it) .none (genEnv scope (cloFrom X.env.cells scope.names []) s4.heap.objs.size code bi X.env))), toks := s4.toks + 1 + 1 + 1,
            heap := h'.push { cls := .type "generator", data := .fields #[.int s4.gens.size 0, .str "<genexpr>" (s4.toks + 1), .str (X.env.qual ++ "<genexpr>") (s4.toks + 1 + 1)] } }) X.xe { s2 with heap := h3, toks := tk } := by
    intro code h3 tk more hle3 hk3 hP3 ht3
    have I3 : Inv X pins σ (upd H2 P (.tbl (ps ++ more))) { s2 with heap := h3, gens := s2.gens, drawn := s2.drawn, toks := tk } := GxR.inv_tab I2 hP hk3 hP3 I2.bare
    have tab3 : GxR.Tabbed P H2 (upd H2 P (.tbl (ps ++ more))) := ⟨⟨_, upd_same, ht3⟩, fun b hb => upd_ne hb⟩
    have st3 : tn 0 h3 := T.keep _ _ _ st2 fun b hb o e => hk3 b o (nfP b hb) e
    have f3 : ∀ b ∈ fp, FpOk X pins (upd H2 P (.tbl (ps ++ more))) b := fun b hb => ⟨by rw [upd_ne (nfP b hb)]; exact (f2 b hb).1, (f2 b hb).2⟩
    generalize upd H2 P (.tbl (ps ++ more)) = H3 at I3 tab3 f3
    obtain ⟨m0, hw0⟩ := w0 H3 tab3
    have sz3 : ∀ b ∈ fp, b < h3.objs.size := fun b hb => Nat.lt_of_lt_of_le (sz2 b hb) hle3
    have hs3 : ({ s2 with heap := h3, gens := s2.gens, drawn := s2.drawn, toks := tk } : Shared) = { s2 with heap := h3, toks := tk } := rfl
    rw [hs3] at I3
    generalize hsh : ({ s2 with heap := h3, toks := tk } : Shared) = s3 at I3 ⊢
    have eh : h3 = s3.heap := by rw [← hsh]
    rw [eh] at st3 sz3
    clear hsh hs3 eh hP3 hk3 hle3
    obtain ⟨bm, ob, e1, e2, e3, e4, e5, e6, e7, e8⟩ := TB.bm
    refine wpAny_builtinsFor (m := X.mg) (by rw [I3.ok.glob]; exact I3.mod.glob.keeps I3.bk) e1 e2 (I3.bk _ _ e5) e6 e7 e8 ?_
    intro h' hn' hs'
    refine Calls.spliced_nil ?_
    have hsz : h'.objs.size = s3.heap.objs.size + 1 := by rw [hs'.1, Heap.size_push]
    generalize hgo : ({ cls := .type "generator", data := .fields #[.int s3.gens.size 0, .str "<genexpr>" (s3.toks + 1), .str (X.env.qual ++ "<genexpr>") (s3.toks + 1 + 1)] } : Obj) = go
    have kp5 : ∀ b o, s3.heap.get? b = some o → (h'.push go).get? b = some o := fun b o e => Heap.get?_push_of_some _ (hs'.extBut b o (Nat.ne_of_lt (Heap.lt_size e)) (Heap.get?_push_of_some _ e))
    generalize hce : genEnv scope (cloFrom X.env.cells scope.names []) s3.heap.objs.size code builtinsNs X.env = ce
    have hhA : (X.A.in1.in1.over (.compLoop (.GeneratorExp elt [⟨tg, iter, [], 0⟩] scope gpos) 0 (.ref it) .none ce) []).handled = none := hh
    have hFr : (X.A.in1.in1.over (.compLoop (.GeneratorExp elt [⟨tg, iter, [], 0⟩] scope gpos) 0 (.ref it) .none ce) []).frames = some (ce :: X.stack) := by
      show pushEnvs [ce] (pushEnvs [] X.A.frames) = _
      rw [I3.ok.frames]
      rfl
    have hRm : Room k (X.A.in1.in1.over (.compLoop (.GeneratorExp elt [⟨tg, iter, [], 0⟩] scope gpos) 0 (.ref it) .none ce) []) := by
      have z1 := hr.dp
      have z2 := hr.un
      refine ⟨hhA, ?_, ?_⟩
      · show X.A.depth + 0 + 1 + 3 * k + 5 < recursionLimit
        omega
      · show X.A.units + 1 + 1 + 0 + 3 + 16 * k + 200 < cLine
        omega
    generalize hAg : X.A.in1.in1.over (.compLoop (.GeneratorExp elt [⟨tg, iter, [], 0⟩] scope gpos) 0 (.ref it) .none ce) [] = Ag at hhA hFr hRm
    have I5 : Inv (gX X s3 H3 Ag ce fp) [(h'.objs.size, go)] (wipe σ (own.map (·.2))) H3 { s3 with heap := h'.push go, gens := s3.gens.push (.fresh (.compStart (.GeneratorExp elt [⟨tg, iter, [], 0⟩] scope gpos) 0 (.ref it) .none ce)), toks := s3.toks + 1 + 1 + 1 } := by
      have q := gen_start (code := code) (A' := Ag) (h5 := h'.push go) (g5 := s3.gens.push (.fresh (.compStart (.GeneratorExp elt [⟨tg, iter, [], 0⟩] scope gpos) 0 (.ref it) .none ce))) (t5 := s3.toks + 1 + 1 + 1) (go := go) I3 ok gk hN (fun b hb => ⟨f3 b hb, sz3 b hb⟩) hhA (by rw [hce]; exact hFr) kp5 (hn'.push _)
        (fun x hx => if_neg hx) hdN (I3.bare.push rfl) (a := h'.objs.size) (by omega) (Heap.get?_push_size _ (by rw [← hgo]; rfl)) (by rw [← hgo]; intro v z; cases z)
      rw [hce] at q
      exact q
    have st5 : tn 0 (h'.push go) := T.keep _ _ _ st3 fun b _ o e => kp5 b o e
    have nfp : ∀ b ∈ fp, H3 b = none := fun b hb => (f3 b hb).1
    have pg := hg s3 H3 Ag s3.heap.objs.size (cloFrom X.env.cells scope.names []) code fp
    have pe := he s3 H3 Ag s3.heap.objs.size (cloFrom X.env.cells scope.names []) code fp hRm
    rw [hce] at pg pe
    have cCo : ce.scope.isCoroutine = false := by rw [← hce]; exact gk.co
    clear hn' hs' kp5 w0 hce
    -- back in the def's context
    have back : ∀ {σ' : L2.St} {H' : Hp} {s' : Shared} {pl : List (Addr × Obj)}, Inv (gX X s3 H3 Ag ce fp) pl σ' H' s' → Inv X pins σ H' s' := fun {σ' H' s' pl} J => I3.call' (ch := fp) J.os J.base J.hok J.bare fun b hb =>
      ⟨(f3 b hb).2.2.2.1, (f3 b hb).2.1, (f3 b hb).2.2.2.2.1, (f3 b hb).2.2.2.2.2⟩
    have stat : ∀ {σ' : L2.St} {H' : Hp} {s' : Shared}, Inv (gX X s3 H3 Ag ce fp) [(h'.objs.size, go)] σ' H' s' → (∀ b ∈ fp, H' b = none) → ∀ b ∈ fp, FpOk (gX X s3 H3 Ag ce fp) [(h'.objs.size, go)] H' b := fun {σ' H' s'} J hn b hb =>
      ⟨hn b hb, (J.ok.exf b hb).1, J.ok.exfs b hb, .inl hb, fun x c e => (J.ok.exf b hb).2 x c e, fun p hp => by
        have hp : p = (h'.objs.size, go) := by simpa using hp
        rw [hp]
        exact Nat.ne_of_gt (Nat.lt_trans (sz3 b hb) (by rw [hsz]; exact Nat.lt_succ_self _))⟩
    have gen : ∀ {σ' : L2.St} {H' : Hp} {s' : Shared} {pl : List (Addr × Obj)}, Inv (gX X s3 H3 Ag ce fp) ([(h'.objs.size, go)] ++ pl) σ' H' s' → s'.heap.IsGen h'.objs.size s3.gens.size := fun {σ' H' s' pl} J => by
      have q := (J.pin (h'.objs.size, go) (by simp)).1
      exact ⟨go, _, _, q, by rw [← hgo], by rw [← hgo], by rw [← hgo]⟩
    -- the turns
    have loop : ∀ (m n i : Nat) (s₀ s : Shared) (H : Hp), m < n → W i m H → Inv (gX X s3 H3 Ag ce fp) [(h'.objs.size, go)] (wipe σ (own.map (·.2))) H s → tn i s.heap → (∀ b ∈ fp, H b = none) → s3.gens.size + 1 ≤ s.gens.size →
        Seg (model X.prog X.w) X.A.in1.in1 (fun n s₀ r s₁ => r = .ok .next ∧ gR (fun s => ∃ H', Inv X pins σ H' s ∧ Q (.bl true) H') n s₀ s₁) (gY s3.gens.size h'.objs.size false fun s => ∃ H', Inv X pins σ H' s ∧ Q (.bl false) H') n s₀
          (.compLoop (.GeneratorExp elt [⟨tg, iter, [], 0⟩] scope gpos) 0 (.ref it) .none ce) ((model X.prog X.w).den (.compLoop (.GeneratorExp elt [⟨tg, iter, [], 0⟩] scope gpos) 0 (.ref it) .none ce)) [] s := by
      intro m
      induction m using Nat.strongRecOn with
      | ind m ih =>
        intro n i s₀ s H hmn w J st nf hz
        show Seg (model X.prog X.w) _ _ _ n s₀ _ ((compTurn (.GeneratorExp elt [⟨tg, iter, [], 0⟩] scope gpos) 0 (.ref it) .none ce).onRaise (leaving ce)) [] s
        rw [compTurn_gen]
        rw [Sem.onRaise_eq_wrap]
        refine seg_bind_wrap (wpAny_standAt (seg_bind_wrap ?_))
        rw [hAg]
        rcases turn i m H w with ⟨stp, qq⟩ | ⟨go', Nx, hNx, step⟩
        · refine thnF (T.done (gX X s3 H3 Ag ce fp) rfl rfl rfl hc i _ s _ H (fun _ _ => False) J (stat J nf) st stp) fun r s6 ⟨hr6, J6⟩ => ?_
          subst hr6
          exact seg_end (.ok .next) ⟨rfl, J6.bare, H, back J6, qq⟩
        · refine GenW.wpAny_gsz hz (thnF (T.item (gX X s3 H3 Ag ce fp) rfl rfl rfl hc i _ s _ H (fun _ _ => False) J (stat J nf) st go') fun r s6 ⟨u, hr6, h6⟩ hz6 => ?_)
          subst hr6
          refine seg_bind_wrap ?_
          rw [hAg]
          refine GenW.wpAny_gsz hz6 (thnF h6 fun _ s7 ⟨x, H7, J7, r7, y7, st7, n7⟩ hz7 => ?_)
          have J7' := J7.pinned (stat J7 n7) (T.obj _ _ st7)
          refine seg_bind_wrap ?_
          rw [hAg]
          refine GenW.wpAny_gsz hz7 (thnF (pg.run _ s7 _ H7 x u _ J7' r7 (step x H7 y7)) fun _ s8 ⟨σ8, H8, J8, hw8, q8⟩ hz8 => ?_)
          simp only [List.forIn_nil]
          refine seg_bind_wrap (wpAny_pure ?_)
          simp only [if_true]
          have hy : ∀ v, yieldOut ce v = yieldValue v := fun v => by simp only [yieldOut, cCo, Bool.false_eq_true, if_false]
          simp only [hy]
          rw [Sem.bind_eq_wrap', Sem.bind_eq_wrap']
          rw [Sem.wrap_wrap, Sem.wrap_wrap]
          refine seg_wrap ?_
          rw [hAg]
          refine GenW.wpAny_gsz hz8 (thnF (pe.run _ s8 σ8 H8 _ J8 q8) fun z s9 ⟨yv, H9, J9, r9, b, eb, qb⟩ hz9 => ?_)
          subst eb
          obtain rfl : z = Value.bool b := r9
          obtain ⟨n', rfl⟩ : ∃ n', n = n' + 1 := ⟨n - 1, by omega⟩
          refine seg_at (seg_yield rfl rfl rfl ⟨b, rfl, gen J9, J9.nolimit, J9.bare, hz9, fun e => ?_, fun e s' r => ?_⟩)
          · subst e
            exact ⟨H9, back J9, qb⟩
          · have e : b = true := by
              cases b with
              | true => rfl
              | false => exact absurd rfl e
            subst e
            rw [if_pos rfl] at qb
            obtain ⟨m', hm', w'⟩ := hNx H9 qb
            have pin' : ∀ b ∈ fp, ∀ o, s7.heap.get? b = some o → s9.heap.get? b = some o ∧ H9 b = none := fun b hb o e =>
              let z := J9.pin (b, o) (List.mem_append_right _ (List.mem_append_right _ (mem_pinsAt hb e)))
              ⟨z.1, z.2.1⟩
            have hl : (wipe σ (own.map (·.2))).length = σ8.length := by rw [← hw8, wipe_length]
            have K9 : Inv (gX X s3 H3 Ag ce fp) [(h'.objs.size, go)] (wipe σ (own.map (·.2))) H9 s9 := J9.unpinned.weak hl fun j v e => by
              rw [← hw8] at e
              exact (wipe_some e).1
            refine seg_again rfl (ih m' hm' n' (i + 1) s' s' H9 (by omega) w' (r.inv K9) ?_ (fun b hb => ?_) (Nat.le_trans hz9 r.size))
            · rw [r.heap]
              exact T.keep _ _ _ st7 fun b hb o e => (pin' b hb o e).1
            · obtain ⟨o, e, _⟩ := T.obj _ _ st7 b hb
              exact (pin' b hb o e).2
    have mono : ∀ (b : Bool) (s s' : Shared), (∃ H', Inv X pins σ H' s ∧ Q (.bl b) H') → s'.os = s.os → AllBare s'.gens → (∀ b o, s.heap.get? b = some o → s'.heap.get? b = some o) → ∃ H', Inv X pins σ H' s' ∧ Q (.bl b) H' := fun b s s' ⟨H', J, q⟩ h1 h2 h3 =>
      ⟨H', inv_gens (J.kept (t' := s'.toks) h3) rfl h1 h2, q⟩
    generalize hs5 : ({ s3 with heap := h'.push go, gens := s3.gens.push (.fresh (.compStart (.GeneratorExp elt [⟨tg, iter, [], 0⟩] scope gpos) 0 (.ref it) .none ce)), toks := s3.toks + 1 + 1 + 1 } : Shared) = s5 at I5
    have hg5 : s5.gens[s3.gens.size]? = some (.fresh (.compStart (.GeneratorExp elt [⟨tg, iter, [], 0⟩] scope gpos) 0 (.ref it) .none ce)) := by
      rw [← hs5]
      exact Array.getElem?_push_size ..
    have hz5 : s3.gens.size + 1 ≤ s5.gens.size := by
      rw [← hs5]
      exact Nat.le_of_eq (Array.size_push ..).symm
    have ht5 : tn 0 s5.heap := by rw [← hs5]; exact st5
    have wt : Waits X.prog X.w X.A.in1 s3.gens.size h'.objs.size false (fun s => ∃ H', Inv X pins σ H' s ∧ Q (.bl true) H') (fun s => ∃ H', Inv X pins σ H' s ∧ Q (.bl false) H') (m0 + 1) s5 := by
      refine ⟨gen (pl := []) I5, I5.nolimit, I5.bare, _, hg5, fun s' r => ⟨rfl, ?_⟩⟩
      have lp := loop m0 (m0 + 1) 0 s' s' H3 (Nat.lt_succ_self _) hw0 (r.inv I5) (by rw [r.heap]; exact ht5) nfp (Nat.le_trans hz5 r.size)
      show Seg (model X.prog X.w) _ _ _ _ s' _ ((compStart (.GeneratorExp elt [⟨tg, iter, [], 0⟩] scope gpos) 0 (.ref it) .none ce).onRaise (leaving ce)) [] s'
      unfold compStart
      rw [Sem.onRaise_eq_wrap]
      show Seg (model X.prog X.w) _ _ _ _ s' _ ((ask >>= _).wrap _ _ _ _) [] s'
      refine seg_bind_wrap (wpAny_askSetting ?_)
      have ts : tn 0 s'.heap := by rw [r.heap]; exact ht5
      split
      · exact seg_again rfl lp
      · first
          | exact seg_bind_wrap (wpAny_rule (seg_bind_wrap (wpAny_standAt (seg_bind_wrap (T.self _ 0 s' _ _ ts (seg_again rfl lp))))))
          | (refine seg_bind_wrap (wpAny_rule ?_); show Seg (model X.prog X.w) _ _ _ _ s' _ ((standAt iter.pos >>= _).wrap _ _ _ _) [] s'; exact seg_bind_wrap (wpAny_standAt (seg_bind_wrap (T.self _ 0 s' _ _ ts (seg_again rfl lp)))))
    refine call_function_tree PySem.F.kind_all PySem.F.plain_all PySem.F.entry_all (PySem.F.args_all1 _) ?_
    unfold Builtin.«all»
    refine wpAny_bind (m := oneArg "all" _) (wpAny_pure ?_)
    refine wpAny_bind (wpAny_pyIter_gen (gen (pl := []) I5) ?_)
    refine wpAny_pure ⟨plainId_quiet PySem.F.plain_all_loop _, codeAny_mono (all_loop hh hr.depth (mono true) (mono false) (m0 + 1) s5 wt) fun r s' hq => ?_⟩
    rcases hq with ⟨rfl, H', J, q⟩ | ⟨rfl, H', J, q⟩
    · exact ⟨.bl true, H', J, rfl, q⟩
    · exact ⟨.bl false, H', J, rfl, q⟩
  cases hf : codeAmong gpos ps.toList with
  | none =>
    refine wpAny_genexprCodeX hcode (cd.code hPs ht) (cd.tab hPs) hf fun c' h' tk hx hge hlt hco' _ htab' _ => ?_
    obtain ⟨o1, vs, f1, tf, fl, tg1, inF, tx, tt, op, _, _, _, _, _, _, _, _, _, htr, _⟩ := hco'
    exact cont _ h' tk _ (Nat.le_trans hge (Nat.le_of_lt hlt)) (fun b o hb e => hx b o hb e) htab'.2 htr
  | some cv =>
    refine wpAny_genexprCode_hit hcode (cd.code hPs ht) hf ?_
    have := cont cv s2.heap s2.toks #[] (Nat.le_refl _) (fun _ _ _ e => e) (by rw [hPs]; simp) (by simpa using ht)
    exact this
end
def topS (i : Nat) : Stmt := PySem.Challenge.pw_friendfoe_k17_things_that_are_no_layers.main.body.getD i (.Pass ⟨0, 0, 0, 0⟩)
abbrev s_is_whole : Stmt := topS 1
abbrev N_is_whole : List Str := ["thing"]
theorem sc_is_whole : FnScope N_is_whole ["thing"] (defScope s_is_whole) := ⟨rfl, rfl, rfl, by decide +kernel, rfl, by decide +kernel, by decide +kernel⟩
abbrev s_is_whole_from : Stmt := topS 2
abbrev N_is_whole_from : List Str := ["low", "thing"]
theorem sc_is_whole_from : FnScope N_is_whole_from ["low", "thing"] (defScope s_is_whole_from) := ⟨rfl, rfl, rfl, by decide +kernel, rfl, by decide +kernel, by decide +kernel⟩
abbrev s_is_tuple_of : Stmt := topS 3
abbrev N_is_tuple_of : List Str := ["length", "thing"]
theorem sc_is_tuple_of : FnScope N_is_tuple_of ["length", "thing"] (defScope s_is_tuple_of) := ⟨rfl, rfl, rfl, by decide +kernel, rfl, by decide +kernel, by decide +kernel⟩
abbrev s_is_row : Stmt := topS 5
abbrev N_is_row : List Str := ["many", "thing", "number"]
theorem sc_is_row : FnScope N_is_row ["many", "thing"] (defScope s_is_row) := ⟨rfl, rfl, rfl, by decide +kernel, rfl, by decide +kernel, by decide +kernel⟩
abbrev s_are_near : Stmt := topS 6
abbrev N_are_near : List Str := ["one", "other"]
theorem sc_are_near : FnScope N_are_near ["one", "other"] (defScope s_are_near) := ⟨rfl, rfl, rfl, by decide +kernel, rfl, by decide +kernel, by decide +kernel⟩
abbrev s_near_along : Stmt := topS 7
abbrev N_near_along : List Str := ["row", "tie", "one", "other", "kind", "swap"]
theorem sc_near_along : FnScope N_near_along ["row", "tie"] (defScope s_near_along) := ⟨rfl, rfl, rfl, by decide +kernel, rfl, by decide +kernel, by decide +kernel⟩
abbrev s_row_holds : Stmt := topS 8
abbrev N_row_holds : List Str := ["web", "number", "start", "thing", "tie"]
theorem sc_row_holds : FnScope N_row_holds ["web", "number", "start", "thing"] (defScope s_row_holds) := ⟨rfl, rfl, rfl, by decide +kernel, rfl, by decide +kernel, by decide +kernel⟩
abbrev s_layers_hold : Stmt := topS 9
abbrev N_layers_hold : List Str := ["web", "number", "thing", "start", "row"]
theorem sc_layers_hold : FnScope N_layers_hold ["web", "number", "thing"] (defScope s_layers_hold) := ⟨rfl, rfl, rfl, by decide +kernel, rfl, by decide +kernel, by decide +kernel⟩
abbrev s_l_well : Stmt := topS 11
abbrev N_l_well : List Str := ["_law_script", "_law_k", "_law_cell", "_law_great"]
theorem sc_l_well : FnScope N_l_well ["_law_script", "_law_k"] (defScope s_l_well) := ⟨rfl, rfl, rfl, by decide +kernel, rfl, by decide +kernel, by decide +kernel⟩
abbrev s_l_draw : Stmt := topS 12
abbrev N_l_draw : List Str := ["_law_well_here", "_law_many", "_law_digit", "_law_number"]
theorem sc_l_draw : FnScope N_l_draw ["_law_well_here", "_law_many"] (defScope s_l_draw) := ⟨rfl, rfl, rfl, by decide +kernel, rfl, by decide +kernel, by decide +kernel⟩
abbrev s_l_kind : Stmt := topS 13
abbrev N_l_kind : List Str := ["_law_sides", "_law_one", "_law_other"]
theorem sc_l_kind : FnScope N_l_kind ["_law_sides", "_law_one", "_law_other"] (defScope s_l_kind) := ⟨rfl, rfl, rfl, by decide +kernel, rfl, by decide +kernel, by decide +kernel⟩
abbrev s_l_ends : Stmt := topS 14
abbrev N_l_ends : List Str := ["_law_well_here", "_law_many", "_law_ties", "_law_one", "_law_other"]
theorem sc_l_ends : FnScope N_l_ends ["_law_well_here", "_law_many", "_law_ties"] (defScope s_l_ends) := ⟨rfl, rfl, rfl, by decide +kernel, rfl, by decide +kernel, by decide +kernel⟩
abbrev s_l_web : Stmt := topS 15
abbrev N_l_web : List Str := ["_law_well_here", "_law_many", "_law_size", "_law_way", "_law_sides", "_law_place", "_law_ties", "_law_k", "_law_one", "_law_other", "_law_kind_here", "_law_at"]
theorem sc_l_web : FnScope N_l_web ["_law_well_here"] (defScope s_l_web) := ⟨rfl, rfl, rfl, by decide +kernel, rfl, by decide +kernel, by decide +kernel⟩
abbrev s_l_far : Stmt := topS 16
abbrev N_l_far : List Str := ["_law_web_here", "_law_place", "_law_beside", "_law_spot", "_law_one", "_law_other", "_law_kind_here", "_law_far_here", "_law_line", "_law_turn", "_law_here", "_law_odd", "_law_there", "_law_foe"]
theorem sc_l_far : FnScope N_l_far ["_law_web_here", "_law_place"] (defScope s_l_far) := ⟨rfl, rfl, rfl, by decide +kernel, rfl, by decide +kernel, by decide +kernel⟩
abbrev s_l_row : Stmt := topS 17
abbrev N_l_row : List Str := ["_law_web_here", "_law_place", "_law_beyond", "_law_cap", "_law_half", "_law_far_here", "_law_row_here", "_law_spot", "_law_odd", "_law_number"]
theorem sc_l_row : FnScope N_l_row ["_law_web_here", "_law_place", "_law_beyond", "_law_cap", "_law_half"] (defScope s_l_row) := ⟨rfl, rfl, rfl, by decide +kernel, rfl, by decide +kernel, by decide +kernel⟩
abbrev s_l_layers : Stmt := topS 18
abbrev N_l_layers : List Str := ["_law_well_here", "_law_web_here", "_law_rows", "_law_place", "_law_way", "_law_beyond", "_law_cap"]
theorem sc_l_layers : FnScope N_l_layers ["_law_well_here", "_law_web_here"] (defScope s_l_layers) := ⟨rfl, rfl, rfl, by decide +kernel, rfl, by decide +kernel, by decide +kernel⟩
abbrev s_l_is_row : Stmt := topS 19
abbrev N_l_is_row : List Str := ["_law_many", "_law_row_here", "_law_number"]
theorem sc_l_is_row : FnScope N_l_is_row ["_law_many", "_law_row_here"] (defScope s_l_is_row) := ⟨rfl, rfl, rfl, by decide +kernel, rfl, by decide +kernel, by decide +kernel⟩
abbrev s_l_near : Stmt := topS 20
abbrev N_l_near : List Str := ["_law_row_here", "_law_tie", "_law_one", "_law_other", "_law_kind_here", "_law_odd", "_law_there", "_law_gap"]
theorem sc_l_near : FnScope N_l_near ["_law_row_here", "_law_tie"] (defScope s_l_near) := ⟨rfl, rfl, rfl, by decide +kernel, rfl, by decide +kernel, by decide +kernel⟩
abbrev s_l_due : Stmt := topS 21
abbrev N_l_due : List Str := ["_law_web_here", "_law_number", "_law_thing", "_law_many", "_law_ties", "_law_place", "_law_row_here", "_law_tie"]
theorem sc_l_due : FnScope N_l_due ["_law_web_here", "_law_number", "_law_thing"] (defScope s_l_due) := ⟨rfl, rfl, rfl, by decide +kernel, rfl, by decide +kernel, by decide +kernel⟩
abbrev s_l_within : Stmt := topS 22
abbrev N_l_within : List Str := ["_law_well_here", "_law_thing", "_law_k"]
theorem sc_l_within : FnScope N_l_within ["_law_well_here", "_law_thing"] (defScope s_l_within) := ⟨rfl, rfl, rfl, by decide +kernel, rfl, by decide +kernel, by decide +kernel⟩
abbrev s_l_things : Stmt := topS 23
abbrev N_l_things : List Str := ["_law_well_here", "_law_web_here", "_law_layers_here", "_law_many", "_law_row_here", "_law_some", "_law_one", "_law_place", "_law_k"]
theorem sc_l_things : FnScope N_l_things ["_law_well_here", "_law_web_here", "_law_layers_here"] (defScope s_l_things) := ⟨rfl, rfl, rfl, by decide +kernel, rfl, by decide +kernel, by decide +kernel⟩
abbrev s_l_right : Stmt := topS 24
abbrev N_l_right : List Str := ["_law_web_here", "_law_number", "_law_thing", "_law_found"]
theorem sc_l_right : FnScope N_l_right ["_law_web_here", "_law_number", "_law_thing"] (defScope s_l_right) := ⟨rfl, rfl, rfl, by decide +kernel, rfl, by decide +kernel, by decide +kernel⟩
abbrev s_law : Stmt := topS 25
abbrev N_law : List Str := ["_law_script", "_law_web_here", "_law_well_here", "_law_layers_here", "_law_least", "_law_place", "_law_thing", "_law_number", "_law_many", "_law_bare", "_law_great", "_law_spot"]
theorem sc_law : FnScope N_law ["_law_script"] (defScope s_law) := ⟨rfl, rfl, rfl, by decide +kernel, rfl, by decide +kernel, by decide +kernel⟩
/-! ### own rules: a list against [] -/
section
variable {X : Cx}
def rEqE (K : PySem.W.Frag) : R2 := fun x y H Q => ∃ (a b : Addr) (xs : List V), x = .ref a ∧ y = .ref b ∧ SqL K H a xs ∧ SqL K H b [] ∧ Q (.bl xs.isEmpty) H
def rNeE (K : PySem.W.Frag) : R2 := fun x y H Q => ∃ (a b : Addr) (xs : List V), x = .ref a ∧ y = .ref b ∧ SqL K H a xs ∧ SqL K H b [] ∧ Q (.bl (!xs.isEmpty)) H
theorem op_eqE (hu : X.A.units < cLine) : OpR X (compareOp .Eq) (rEqE X.K) := by
  intro pins s σ H x y v u Q I rx ry h
  obtain ⟨a, b, xs, rfl, rfl, ha, hb, q⟩ := h
  obtain rfl : v = Value.ref a := rx
  obtain rfl : u = Value.ref b := ry
  obtain ⟨its, r1, p1, _⟩ := I.list ha
  obtain ⟨its2, r2, p2, _⟩ := I.list hb
  cases r2
  cases xs with
  | nil =>
    cases r1
    exact SeqAt.eq_listAt (e := fun _ => true) p1.isList p2.isList rfl hu (fun j h1 _ => absurd h1 (by simp)) ⟨.bl true, H, I, rfl, q⟩
  | cons z zs =>
    cases r1 with
    | cons r t => exact SeqAt.eq_list_lengthsAt p1.isList p2.isList (by simp) hu ⟨.bl false, H, I, rfl, q⟩
theorem op_neE (hu : X.A.units < cLine) : OpR X (compareOp .NotEq) (rNeE X.K) := by
  intro pins s σ H x y v u Q I rx ry h
  obtain ⟨a, b, xs, rfl, rfl, ha, hb, q⟩ := h
  obtain rfl : v = Value.ref a := rx
  obtain rfl : u = Value.ref b := ry
  obtain ⟨its, r1, p1, _⟩ := I.list ha
  obtain ⟨its2, r2, p2, _⟩ := I.list hb
  cases r2
  cases xs with
  | nil =>
    cases r1
    exact SeqAt.RcNeAt.lists (e := fun _ => true) p1.isList p2.isList rfl hu (fun j h1 _ => absurd h1 (by simp)) _ _ _ _ ⟨.bl false, H, I, rfl, q⟩
  | cons z zs =>
    cases r1 with
    | cons r t => exact SeqAt.RcNeAt.lists_lengths p1.isList p2.isList (by simp) hu _ _ _ _ ⟨.bl true, H, I, rfl, q⟩
end
section
variable {P : Program} {w : World} {K : PySem.W.Frag} {mg : Str → Option Value} {base : Heap}
/-! ### webs -/
structure Tie where
  one : Int
  other : Int
  foe : Bool
def kindS : Bool → Str
  | true => "foe"
  | false => "friend"
def TieV (H : Hp) (v : V) (t : Tie) : Prop := ∃ a, v = .ref a ∧ H a = some (.tup [.int t.one, .int t.other, .str (kindS t.foe)])
def TieOk (n : Int) (t : Tie) : Prop := 0 ≤ t.one ∧ t.one < n ∧ 0 ≤ t.other ∧ t.other < n ∧ t.one ≠ t.other
def WebAt (H : Hp) (v : V) (n : Int) (ts : List Tie) : Prop := ∃ a b vs, v = .ref a ∧ H a = some (.tup [.int n, .ref b]) ∧ H b = some (.tup vs) ∧ Paired (TieV H) vs ts
structure WebOk (n : Int) (ts : List Tie) : Prop where
  lo : 1 ≤ n
  hi : n ≤ 40
  few : ts.length ≤ 120
  ok : ∀ t ∈ ts, TieOk n t
/-- tuples stay -/
def Tk (H H' : Hp) : Prop := ∀ b xs, H b = some (.tup xs) → H' b = some (.tup xs)
theorem Tk.trans {H H1 H2 : Hp} (a : Tk H H1) (b : Tk H1 H2) : Tk H H2 := fun x xs h => b x xs (a x xs h)
theorem Same.tk {H H' : Hp} (s : Same H H') : Tk H H' := fun b xs h => s b _ h
theorem tk_lst {H : Hp} {l : Addr} {xs ys : List V} (h : H l = some (.lst xs)) : Tk H (upd H l (.lst ys)) := fun b zs e => by
  rw [upd_ne (ne_of e h (by intro z; cases z))]
  exact e
theorem TieV.tk {H H' : Hp} (k : Tk H H') {v : V} {t : Tie} (h : TieV H v t) : TieV H' v t := by
  obtain ⟨a, rfl, e⟩ := h
  exact ⟨a, rfl, k _ _ e⟩
theorem ties_tk {H H' : Hp} (k : Tk H H') {vs : List V} {ts : List Tie} (h : Paired (TieV H) vs ts) : Paired (TieV H') vs ts := Paired.mono (fun _ _ x => x.tk k) h
theorem WebAt.tk {H H' : Hp} (k : Tk H H') {v : V} {n : Int} {ts : List Tie} (h : WebAt H v n ts) : WebAt H' v n ts := by
  obtain ⟨a, b, vs, rfl, h1, h2, h3⟩ := h
  exact ⟨a, b, vs, rfl, k _ _ h1, k _ _ h2, ties_tk k h3⟩
theorem Kp.tk {d : Addr} {b : Nat} {H H' : Hp} (k : Kp d d H H') (D : Well H d b) : Tk H H' := fun c xs e => by
  obtain ⟨g, st, n, h1, h2⟩ := D
  have ne := ne_of e h1 (by intro z; cases z)
  exact k c _ ne ne e
theorem Kp.mut {d c l : Addr} {H H' : Hp} {o : HO} (k : Kp d c H H') (h : H l = none) : Kp d c H (upd H' l o) := fun b u h1 h2 e => by
  rw [upd_ne (ne_of_none e h)]
  exact k b u h1 h2 e
theorem Paired.at {α β : Type} {F : α → β → Prop} : ∀ {l : List α} {m : List β} {i : Nat} {a : α}, Paired F l m → l[i]? = some a → ∃ b, m[i]? = some b ∧ F a b
  | _, _, _, _, .nil, e => by simp at e
  | _, _, 0, _, .cons r _, e => by simp at e; subst e; exact ⟨_, rfl, r⟩
  | _, _, i + 1, a, .cons _ t, e => by
    obtain ⟨u, h1, h2⟩ := Paired.at (i := i) (a := a) t (by simpa using e)
    exact ⟨u, by simpa using h1, h2⟩
theorem Paired.at' {α β : Type} {F : α → β → Prop} : ∀ {l : List α} {m : List β} {i : Nat} {b : β}, Paired F l m → m[i]? = some b → ∃ a, l[i]? = some a ∧ F a b
  | _, _, _, _, .nil, e => by simp at e
  | _, _, 0, _, .cons r _, e => by simp at e; subst e; exact ⟨_, rfl, r⟩
  | _, _, i + 1, b, .cons _ t, e => by
    obtain ⟨u, h1, h2⟩ := Paired.at' (i := i) (b := b) t (by simpa using e)
    exact ⟨u, by simpa using h1, h2⟩
theorem getI {α : Type} {xs : List α} {i : Int} (h0 : 0 ≤ i) (h1 : i < (xs.length : Int)) : ∃ v, atI xs i = some v ∧ xs[i.toNat]? = some v := by
  obtain ⟨j, rfl⟩ : ∃ j : Nat, i = (j : Int) := ⟨i.toNat, by omega⟩
  have h2 : j < xs.length := by omega
  exact ⟨xs[j], atI_nat (List.getElem?_eq_getElem h2), by rw [Int.toNat_natCast]; exact List.getElem?_eq_getElem h2⟩
theorem other_ne {n a b : Int} (h0 : 0 ≤ a) (h1 : a < n) (g0 : 0 ≤ b) (g1 : b < n - 1) : a ≠ (a + 1 + b) % n := by
  by_cases h : a + 1 + b < n
  · rw [Int.emod_eq_of_lt (by omega) h]
    omega
  · have e : a + 1 + b = (a + 1 + b - n) + 1 * n := by omega
    rw [e, Int.add_mul_emod_self_right, Int.emod_eq_of_lt (by omega) (by omega)]
    omega
theorem pick2 {α : Type} (a b : α) (k : Bool) : atI [a, b] (if k then 1 else 0) = some (if k then b else a) := by
  cases k <;> rfl
def spWeb : Sp := fun vs H Q _ => ∃ (d : Addr) (b : Nat), vs = [.ref d] ∧ Well H d b ∧ b < 2 ^ 50 ∧
  ∀ v n ts H', WebAt H' v n ts → WebOk n ts → Well H' d (b + 1000) → Kp d d H H' → Q v H'
theorem Kp.free {d c l : Addr} {H H' : Hp} (k : Kp d c H H') (h : H' l = none) (h1 : l ≠ d) (h2 : l ≠ c) : H l = none := by
  cases e : H l with
  | none => rfl
  | some o =>
    rw [k l o h1 h2 e] at h
    cases h
theorem atI_of {xs : List V} {i : Int} {v : V} (h0 : 0 ≤ i) (e : xs[i.toNat]? = some v) : atI xs i = some v := by
  obtain ⟨j, rfl⟩ : ∃ j : Nat, i = (j : Int) := ⟨i.toNat, by omega⟩
  exact atI_nat (by rw [Int.toNat_natCast] at e; exact e)
theorem atI_ints {xs : List Int} {i : Int} (h0 : 0 ≤ i) (h1 : i < xs.length) : ∃ x ∈ xs, xs[i.toNat]? = some x ∧ atI (xs.map V.int) i = some (.int x) := by
  have h : i.toNat < xs.length := by omega
  exact ⟨xs[i.toNat], List.getElem_mem h, List.getElem?_eq_getElem h, atI_of h0 (by rw [List.getElem?_map, List.getElem?_eq_getElem h]; rfl)⟩
theorem at0 {α : Type} (x : α) (xs : List α) : atI (x :: xs) 0 = some x := atI_nat (j := 0) rfl
theorem ix0 (n : Nat) : ixN (n + 1) 0 = some 0 := by
  unfold ixN
  rw [if_pos (by decide), if_pos (by omega)]
  rfl
/-! ### a draw -/
theorem ok_l_draw {f : Addr} {fd : FuncData} (F : Fun K "_law_draw" "_law_draw" s_l_draw f fd)  : FnOk P w K mg base CX0 1 f fd ["_law_well_here", "_law_many"] spDraw := by
  refine F.ok sc_l_draw (fun vs H Q E h => ?_) (fun cdv A outer s H vs Q E hr h => ?_)
  · obtain ⟨d, b, m, rfl, _⟩ := h
    rfl
  · obtain ⟨d, b, m, rfl, hD, hB, hm, hb, q⟩ := h
    refine ⟨_, (pss_cons (ps_if (pt_cmpR op_gt (pe_ix ix_list (pv 0) pe_int (fun _ _ => rfl)) pe_int (nomark _))
        (pss_cons (ps_set (i := 2) sc_l_draw.nd rfl (.inl rfl) (pe_op op_mod (pe_ix ix_list (pv 0) pe_int (fun _ _ => rfl)) (pv 1)))
        (pss_cons (ps_asg (pe_op op_fdivW (pe_ix ix_list (pv 0) pe_int (fun _ _ => rfl)) (pv 1)) (pg_sub (pv 0) pe_int set_list))
        (pss_one (ps_ret (pv 2)))))
        pss_nil)
      (pss_cons (ps_asg (pe_op op_add (pe_ix ix_list (pv 0) pe_int (fun _ _ => rfl)) pe_int) (pg_sub (pv 0) pe_int set_list))
      (Evl.pss_cut (ps_set (i := 3) sc_l_draw.nd rfl (.inl rfl) (pe_op op_mod (pe_op op_add (pe_ix ix_list (pv 0) pe_int (fun _ _ => rfl)) (pe_op op_mul pe_int (pe_ix ix_list (pv 0) pe_int (fun _ _ => rfl)))) pe_int))
      (Evl.pss_cut (ps_set (i := 3) sc_l_draw.nd rfl (.inl rfl) (pe_op op_mod (pe_op op_add (pe_op op_add (pe_op op_mul (pv 3) (pv 3)) (pe_op op_mul pe_int (pv 3))) (pe_op op_mul pe_int (pe_ix ix_list (pv 0) pe_int (fun _ _ => rfl)))) pe_int))
      (Evl.pss_cut (ps_set (i := 3) sc_l_draw.nd rfl (.inl rfl) (pe_op op_mod (pe_op op_add (pe_op op_add (pe_op op_mul (pv 3) (pv 3)) (pe_op op_mul pe_int (pv 3))) pe_int) pe_int))
      (pss_one (ps_ret (pe_op op_mod (pe_op op_fdiv (pv 3) pe_int) (pv 1))))))))), ?_⟩
    obtain ⟨g, st, n, hd, hn⟩ := hD
    refine ⟨.ref d, rfl, d, _, 0, .int g, rfl, rfl, SqL.of hd, rfl, g, 0, rfl, rfl, _, rfl, ite2 (fun _ => ?_) (fun _ => ?_)⟩
    · refine ⟨.ref d, rfl, d, _, 0, .int g, rfl, rfl, SqL.of hd, rfl, .int m, rfl, g, m, rfl, rfl, hm, ?_⟩
      refine ⟨.ref d, rfl, d, _, 0, .int g, rfl, rfl, SqL.of hd, rfl, .int m, rfl, g, m, rfl, rfl, wide_div hm hb (by decide) (by decide), .ref d, rfl, d, _, 0, 0, rfl, rfl, hd, rfl, ?_⟩
      exact ⟨.int (g % m), rfl, q _ _ (mod_rng hm).1 (mod_rng hm).2 ⟨g / m, st, n, by rw [upd_same]; rfl, by omega⟩ Kp.at_d⟩
    · refine ⟨.ref d, rfl, d, _, 2, .int n, rfl, rfl, SqL.of hd, rfl, n, 1, rfl, rfl, .ref d, rfl, d, _, 2, 2, rfl, rfl, hd, rfl, ?_⟩
      have hd2 : (upd H d (.lst ([V.int g, V.int st, V.int n].set 2 (.int (n + 1))))) d = some (.lst [.int g, .int st, .int ((n + 1 : Nat) : Int)]) := by rw [upd_same]; rfl
      have k2 : Kp d d H (upd H d (.lst ([V.int g, V.int st, V.int n].set 2 (.int (n + 1))))) := Kp.at_d
      generalize upd H d (.lst ([V.int g, V.int st, V.int n].set 2 (.int (n + 1)))) = H2 at hd2 k2
      refine ⟨fun σ' H5 => ∃ N : Int, σ' = [some (.ref d), some (.int m), none, some (.int N)] ∧ 0 ≤ N ∧ N < 2147483647 ∧ H5 = H2, ?_, ?_⟩
      · exact ⟨.ref d, rfl, d, _, 1, .int st, rfl, rfl, SqL.of hd2, rfl, .ref d, rfl, d, _, 2, _, rfl, rfl, SqL.of hd2, rfl, 48271, _, rfl, rfl, .inl ⟨by decide, by decide⟩, _, _, rfl, rfl, _, 2147483647, rfl, rfl, show (0 : Int) < 2147483647 by decide, _, rfl, (mod_rng (by decide)).1, (mod_rng (by decide)).2, rfl⟩
      rintro σ' H5 ⟨N, rfl, hN0, hN1, rfl⟩
      refine ⟨fun σ' H6 => ∃ M : Int, σ' = [some (.ref d), some (.int m), none, some (.int M)] ∧ 0 ≤ M ∧ M < 2147483629 ∧ H6 = H5, ?_, ?_⟩
      · exact ⟨.int N, rfl, .int N, rfl, N, N, rfl, rfl, .inl ⟨by omega, by omega⟩, .int N, rfl, 69621, N, rfl, rfl, .inl ⟨by decide, by decide⟩, _, _, rfl, rfl, .ref d, rfl, d, _, 2, _, rfl, rfl, SqL.of hd2, rfl, 5, _, rfl, rfl, .inl ⟨by decide, by decide⟩, _, _, rfl, rfl, _, 2147483629, rfl, rfl, show (0 : Int) < 2147483629 by decide, _, rfl, (mod_rng (by decide)).1, (mod_rng (by decide)).2, rfl⟩
      rintro σ' H6 ⟨M, rfl, hM0, hM1, rfl⟩
      refine ⟨fun σ' H7 => ∃ M : Int, σ' = [some (.ref d), some (.int m), none, some (.int M)] ∧ H7 = H6, ?_, ?_⟩
      · exact ⟨.int M, rfl, .int M, rfl, M, M, rfl, rfl, .inl ⟨by omega, by omega⟩, .int M, rfl, 16807, M, rfl, rfl, .inl ⟨by decide, by decide⟩, _, _, rfl, rfl, _, 11, rfl, rfl, _, 2147483587, rfl, rfl, show (0 : Int) < 2147483587 by decide, _, rfl, rfl⟩
      rintro σ' H7 ⟨M2, rfl, rfl⟩
      refine ⟨.int M2, rfl, _, 64, rfl, rfl, ⟨by decide, by decide⟩, .int m, rfl, _, m, rfl, rfl, hm, ?_⟩
      exact q _ _ (mod_rng hm).1 (mod_rng hm).2 ⟨g, st, n + 1, hd2, by omega⟩ k2
/-! ### the well is laid -/
def spWell (K : PySem.W.Frag) : Sp := fun vs H Q _ => ∃ (a : Addr) (ns : List Int) (k : Nat), vs = [.ref a, .int k] ∧ SqL K H a (ns.map V.int) ∧ k < 1000 ∧
  ∀ d H', Same H H' → H d = none → Well H' d 3 → Q (.ref d) H'
theorem ok_l_well {f : Addr} {fd : FuncData} (F : Fun K "_law_well" "_law_well" s_l_well f fd) (M : Free mg) (m_abs : mg "abs" = none) : FnOk P w K mg base CX0 1 f fd ["_law_script", "_law_k"] (spWell K) := by
  refine F.ok sc_l_well (fun vs H Q E h => ?_) (fun cdv A outer s H vs Q E hr h => ?_)
  · obtain ⟨a, ns, k, rfl, _⟩ := h
    rfl
  · obtain ⟨a, ns, k, rfl, hS, hk, q⟩ := h
    refine ⟨_, (pss_cons (ps_set (i := 2) sc_l_well.nd rfl (.inl rfl) (pe_op op_add (pe_op op_mul pe_int (pv 1)) pe_int))
      (Evl.pss_cut (ps_if (pt_cmpR (op_neE hr.units0) (pv 0) (pe_lst pa_nil) (nomark _))
        (pss_one (ps_set (i := 2) sc_l_well.nd rfl (.inl rfl) (pe_op op_add (pe_op op_mul (pe_op op_mod (pe_ix ix_list (pv 0) pe_int (fun _ _ => rfl)) pe_int) (pe_op op_add (pv 1) pe_int)) (pe_op op_mul pe_int (pv 1)))))
        pss_nil)
      (Evl.pss_cut (ps_if (pt_cmpR op_lt (pv 1) (pe_callB call_len_seq (by rfl) M.len PySem.boot_len (pa_cons (pv 0) pa_nil)) (nomark _))
        (pss_one (ps_set (i := 2) sc_l_well.nd rfl (.inl rfl) (pe_ix ix_list (pv 0) (pv 1) (fun _ _ => rfl))))
        pss_nil)
      (pss_cons (ps_set (i := 3) sc_l_well.nd rfl (.inl rfl) pe_int)
      (Evl.pss_cut (ps_if (pt_cmpR op_ge (pe_callB call_abs (by rfl) m_abs (by decide +kernel) (pa_cons (pv 2) pa_nil)) (pe_op op_pow pe_int pe_int) (nomark _))
        (pss_one (ps_set (i := 3) sc_l_well.nd rfl (.inl rfl) (pe_callB call_abs (by rfl) m_abs (by decide +kernel) (pa_cons (pv 2) pa_nil))))
        pss_nil)
      (pss_one (ps_ret (pe_lst (pa_cons (pv 3) (pa_cons (pe_op op_mod (pv 2) pe_int) (pa_cons pe_int pa_nil))))))))))), ?_⟩
    refine ⟨.int k, rfl, 7919, k, rfl, rfl, .inl ⟨by decide, by decide⟩, _, 3, rfl, rfl, ?_⟩
    refine ⟨fun σ' H' => ∃ x : Int, σ' = [some (.ref a), some (.int k), some (.int x), none] ∧ Same H H', ?_, ?_⟩
    · refine ⟨.ref a, rfl, Nat.zero_le _, fun Z nZ => ⟨a, Z, _, rfl, rfl, (same_new nZ).seq hS, SqL.of upd_same, _, rfl, ?_⟩⟩
      have sZ := same_new (o := .lst []) nZ
      by_cases hn : ns = []
      · subst hn
        exact ⟨_, rfl, sZ⟩
      · rw [show (!(ns.map V.int).isEmpty) = true from by cases ns; exact absurd rfl hn; rfl]
        have hpos : 0 < ns.length := List.length_pos_iff.mpr hn
        obtain ⟨x, _, _, hx⟩ := atI_ints (xs := ns) (i := 0) (by omega) (by omega)
        exact ⟨.ref a, rfl, a, _, 0, _, rfl, rfl, sZ.seq hS, hx, x, 1000003, rfl, rfl, (show (0 : Int) < 1000003 by decide), .int k, rfl, k, 2, rfl, rfl, _, _, rfl, rfl, .inr ⟨by omega, by omega⟩, .int k, rfl, 7919, k, rfl, rfl, .inl ⟨by decide, by decide⟩, _, _, rfl, rfl, _, rfl, sZ⟩
    rintro σ' H1 ⟨x0, rfl, s1⟩
    refine ⟨fun σ' H' => ∃ x : Int, σ' = [some (.ref a), some (.int k), some (.int x), none] ∧ Same H H', ?_, ?_⟩
    · refine ⟨.int k, rfl, .ref a, rfl, a, _, rfl, .inl (s1.seq hS), k, _, rfl, rfl, _, rfl, ite2 (fun e => ?_) (fun e => ?_)⟩
      · have hlt := of_decide_eq_true e
        rw [List.length_map] at hlt
        obtain ⟨x, _, _, hx⟩ := atI_ints (xs := ns) (i := k) (by omega) (by omega)
        exact ⟨.ref a, rfl, .int k, rfl, a, _, k, _, rfl, rfl, s1.seq hS, hx, x, rfl, s1⟩
      · exact ⟨_, rfl, s1⟩
    rintro σ' H2 ⟨x, rfl, s2⟩
    refine ⟨fun σ' H' => ∃ y : Int, σ' = [some (.ref a), some (.int k), some (.int x), some (.int y)] ∧ H' = H2, ?_, ?_⟩
    · refine ⟨.int x, rfl, x, rfl, 10, 18, rfl, rfl, ⟨by decide, by decide, by decide⟩, _, _, rfl, rfl, _, rfl, ite2 (fun _ => ?_) (fun _ => ?_)⟩
      · exact ⟨.int x, rfl, x, rfl, _, rfl, rfl⟩
      · exact ⟨0, rfl, rfl⟩
    rintro σ' H3 ⟨y, rfl, rfl⟩
    refine ⟨.int y, rfl, .int x, rfl, _, 2147483647, rfl, rfl, show (0 : Int) < 2147483647 by decide, by show 3 ≤ sizeLine; decide, fun d nd => ?_⟩
    exact q d _ (s2.trans (same_new nd)) (s2.free nd) ⟨y, _, 2, upd_same, by decide⟩
end
/-! ### tuples cut and put together -/
section
variable {X : Cx}
theorem cutV_whole {xs : List V} {lo hi : Option Int} (h : HT.sIx xs.length 0 lo = 0 ∧ HT.sIx xs.length xs.length hi = xs.length) : cutV xs lo hi = xs := by
  unfold cutV
  rw [h.1, h.2]
  simp
def rSlU : V → Option Int → Option Int → Hp → VK → Prop := fun x lo hi H Q => ∃ a xs, x = .ref a ∧ H a = some (.tup xs) ∧ ∀ r H', Same H H' → H' r = some (.tup (cutV xs lo hi)) → Q (.ref r) H'
theorem sl_tupU : SlR X rSlU := by
  intro pins s σ H x v vl vu lo hi sl Q I rx hs pl pu h
  obtain ⟨a, xs, rfl, hx, q⟩ := h
  refine sl_tupA pins s σ H _ v vl vu lo hi sl Q I rx hs pl pu ⟨a, xs, rfl, SqT.of hx, fun hw => ?_, fun _ p np => ?_⟩
  · exact q a H (Same.refl H) (by rw [cutV_whole hw]; exact hx)
  · exact q p _ (same_new np) upd_same
def rCatU : R2 := fun x y H Q => ∃ a b xs ys, x = .ref a ∧ y = .ref b ∧ H a = some (.tup xs) ∧ H b = some (.tup ys) ∧ xs.length + ys.length ≤ 100000 ∧ ∀ r H', Same H H' → H' r = some (.tup (xs ++ ys)) → Q (.ref r) H'
theorem op_catU : OpR X (binaryOp .Add) rCatU := by
  intro pins s σ H x y v u Q I rx ry h
  obtain ⟨a, b, xs, ys, rfl, rfl, ha, hb, hz, q⟩ := h
  refine op_catA pins s σ H _ _ v u Q I rx ry ⟨a, b, xs, ys, rfl, rfl, SqT.of ha, SqT.of hb, Evl.sz_of hz, fun e => ?_, fun _ e => ?_, fun _ _ p np => ?_⟩
  · subst e
    exact q b H (Same.refl H) hb
  · subst e
    exact q a H (Same.refl H) (by rw [List.append_nil]; exact ha)
  · exact q p _ (same_new np) upd_same
end
/-! ### things of any kind -/
/-- its kind is known -/
def Kn (H : Hp) : V → Prop
  | .non => True
  | .bl _ => True
  | .int _ => True
  | .str _ => True
  | .ref a => (∃ xs, H a = some (.lst xs)) ∨ (∃ xs, H a = some (.tup xs)) ∨ ∃ kvs, H a = some (.dK kvs)
  | _ => False
def isI : V → Bool
  | .int _ => true
  | .bl _ => true
  | _ => false
def isB : V → Bool
  | .bl _ => true
  | _ => false
def isW : V → Bool
  | .int _ => true
  | _ => false
def isT (H : Hp) : V → Bool
  | .ref a => match H a with
    | some (.tup _) => true
    | _ => false
  | _ => false
section
variable {K : PySem.W.Frag} {H : Hp}
theorem kn_int {v : V} (h : Kn H v) : ∃ t, TyX K H v t ∧ PySem.W.kitOne K t (.type "int") = some (isI v) := by
  cases v with
  | non => exact ⟨_, .base .non, kit_ty (r := false) (by decide +kernel)⟩
  | bl b => exact ⟨_, .base (.bl b), kit_ty (r := true) (by decide +kernel)⟩
  | int i => exact ⟨_, .base (.int i), kit_ty (r := true) (by decide +kernel)⟩
  | str x => exact ⟨_, .base (.str x), kit_ty (r := false) (by decide +kernel)⟩
  | ref a =>
    rcases h with ⟨xs, h⟩ | ⟨xs, h⟩ | ⟨xs, h⟩
    · exact ⟨_, .base (.lst h), kit_ty (r := false) (by decide +kernel)⟩
    · exact ⟨_, .base (.tup h), kit_ty (r := false) (by decide +kernel)⟩
    · exact ⟨_, .base (.dK h), kit_ty (r := false) (by decide +kernel)⟩
  | byt b => exact h.elim
  | flt b => exact h.elim
  | ty n => exact h.elim
theorem kn_bool {v : V} (h : Kn H v) : ∃ t, TyX K H v t ∧ PySem.W.kitOne K t (.type "bool") = some (isB v) := by
  cases v with
  | non => exact ⟨_, .base .non, kit_ty (r := false) (by decide +kernel)⟩
  | bl b => exact ⟨_, .base (.bl b), kit_ty (r := true) (by decide +kernel)⟩
  | int i => exact ⟨_, .base (.int i), kit_ty (r := false) (by decide +kernel)⟩
  | str x => exact ⟨_, .base (.str x), kit_ty (r := false) (by decide +kernel)⟩
  | ref a =>
    rcases h with ⟨xs, h⟩ | ⟨xs, h⟩ | ⟨xs, h⟩
    · exact ⟨_, .base (.lst h), kit_ty (r := false) (by decide +kernel)⟩
    · exact ⟨_, .base (.tup h), kit_ty (r := false) (by decide +kernel)⟩
    · exact ⟨_, .base (.dK h), kit_ty (r := false) (by decide +kernel)⟩
  | byt b => exact h.elim
  | flt b => exact h.elim
  | ty n => exact h.elim
theorem kn_tup {v : V} (h : Kn H v) : ∃ t, TyX K H v t ∧ PySem.W.kitOne K t (.type "tuple") = some (isT H v) := by
  cases v with
  | non => exact ⟨_, .base .non, kit_ty (r := false) (by decide +kernel)⟩
  | bl b => exact ⟨_, .base (.bl b), kit_ty (r := false) (by decide +kernel)⟩
  | int i => exact ⟨_, .base (.int i), kit_ty (r := false) (by decide +kernel)⟩
  | str x => exact ⟨_, .base (.str x), kit_ty (r := false) (by decide +kernel)⟩
  | ref a =>
    unfold isT
    rcases h with ⟨xs, h⟩ | ⟨xs, h⟩ | ⟨xs, h⟩
    · exact ⟨_, .base (.lst h), by simp only [h]; exact kit_ty (r := false) (by decide +kernel)⟩
    · exact ⟨_, .base (.tup h), by simp only [h]; exact kit_ty (r := true) (by decide +kernel)⟩
    · exact ⟨_, .base (.dK h), by simp only [h]; exact kit_ty (r := false) (by decide +kernel)⟩
  | byt b => exact h.elim
  | flt b => exact h.elim
  | ty n => exact h.elim
theorem isT_at {v : V} (h : isT H v = true) : ∃ a xs, v = .ref a ∧ H a = some (.tup xs) := by
  cases v with
  | ref a =>
    unfold isT at h
    cases e : H a with
    | none => simp only [e] at h; cases h
    | some o =>
      cases o with
      | tup xs => exact ⟨a, xs, rfl, e⟩
      | _ => simp only [e] at h; cases h
  | _ => cases h
theorem isT_of {a : Addr} {xs : List V} (h : H a = some (.tup xs)) : isT H (.ref a) = true := by
  unfold isT
  simp only [h]
end
section
variable {P : Program} {w : World} {K : PySem.W.Frag} {mg : Str → Option Value} {base : Heap}
def spWhole : Sp := fun vs H Q _ => ∃ v, vs = [v] ∧ Kn H v ∧ Q (.bl (isW v)) H
theorem and_whole {v : V} : (isI v && !isB v) = isW v := by cases v <;> rfl
theorem ok_is_whole {f : Addr} {fd : FuncData} (F : Fun K "is_whole" "is_whole" s_is_whole f fd) (M : Free mg) : FnOk P w K mg base CX0 1 f fd ["thing"] spWhole := by
  refine F.ok sc_is_whole (fun vs H Q E h => ?_) (fun cdv A outer s H vs Q E hr h => ?_)
  · obtain ⟨v, rfl, _⟩ := h
    rfl
  · obtain ⟨v, rfl, hk, q⟩ := h
    refine ⟨_, (pss_one (ps_ret (pe_and (pe_callB call_isi (by rfl) M.isinstance (by decide +kernel) (pa_cons (pv 0) (pa_cons (pe_bltn (v := .ty "int") (by rfl) M.int (by decide +kernel) rfl) pa_nil))) (pe_one (pe_not (pe_callB call_isi (by rfl) M.isinstance (by decide +kernel) (pa_cons (pv 0) (pa_cons (pe_bltn (v := .ty "bool") (by rfl) M.bool (by decide +kernel) rfl) pa_nil)))))))), ?_⟩
    obtain ⟨t1, h1, e1⟩ := kn_int (K := K) hk
    obtain ⟨t2, h2, e2⟩ := kn_bool (K := K) hk
    refine ⟨v, rfl, v, _, t1, _, _, rfl, .ty "int", h1, e1, _, rfl, ?_⟩
    rw [← and_whole] at q
    cases hi : isI v with
    | false =>
      rw [hi] at q
      exact q
    | true =>
      rw [hi] at q
      exact ⟨v, rfl, v, _, t2, _, _, rfl, .ty "bool", h2, e2, _, rfl, q⟩
def wfrom (lo : Int) : V → Bool
  | .int i => decide (lo ≤ i)
  | _ => false
def spFrom : Sp := fun vs H Q _ => ∃ lo v, vs = [.int lo, v] ∧ Kn H v ∧ Q (.bl (wfrom lo v)) H
theorem ok_is_whole_from {f : Addr} {fd : FuncData} (F : Fun K "is_whole_from" "is_whole_from" s_is_whole_from f fd) (Dw : Df P w K mg base 1 "is_whole" ["thing"] spWhole) : FnOk P w K mg base CX0 2 f fd ["low", "thing"] spFrom := by
  obtain ⟨fW, fdW, GW, gW, kW, bW⟩ := Dw
  refine F.ok sc_is_whole_from (fun vs H Q E h => ?_) (fun cdv A outer s H vs Q E hr h => ?_)
  · obtain ⟨lo, v, rfl, _⟩ := h
    rfl
  · obtain ⟨lo, v, rfl, hk, q⟩ := h
    refine ⟨_, (pss_one (ps_ret (pe_and (pe_call GW hr (by rfl) gW kW bW .nil pass0 (pa_cons (pv 1) pa_nil)) (pe_one (pe_cmpR op_ge (pv 1) (pv 0) (nomark _)))))), ?_⟩
    refine ⟨v, rfl, v, rfl, hk, _, rfl, ?_⟩
    cases v with
    | int i => exact ⟨.int i, rfl, .int lo, rfl, i, lo, rfl, rfl, q⟩
    | _ => exact q
/-- the parts of a tuple -/
def parts (H : Hp) : V → Option (List V)
  | .ref a => match H a with
    | some (.tup xs) => some xs
    | _ => none
  | _ => none
theorem parts_of' {H : Hp} {a : Addr} {xs : List V} (h : H a = some (.tup xs)) : parts H (.ref a) = some xs := by
  unfold parts
  simp only [h]
theorem parts_none {H : Hp} {v : V} (h : isT H v = false) : parts H v = none := by
  cases v with
  | ref a =>
    unfold isT at h
    unfold parts
    cases e : H a with
    | none => simp only [e]
    | some o =>
      cases o with
      | tup xs => simp only [e] at h; cases h
      | _ => simp only [e]
  | _ => rfl
def lenIs (H : Hp) (v : V) (n : Int) : Bool := match parts H v with
  | some xs => decide ((xs.length : Int) = n)
  | none => false
def spTupleOf : Sp := fun vs H Q _ => ∃ n v, vs = [.int n, v] ∧ Kn H v ∧ Q (.bl (lenIs H v n)) H
theorem dec_int (a b : Int) : decide (V.int a = V.int b) = decide (a = b) := by
  by_cases h : a = b
  · rw [decide_eq_true h, h, decide_eq_true rfl]
  · rw [decide_eq_false h, decide_eq_false (fun z => h (V.int.inj z))]
theorem ok_is_tuple_of {f : Addr} {fd : FuncData} (F : Fun K "is_tuple_of" "is_tuple_of" s_is_tuple_of f fd) (M : Free mg) : FnOk P w K mg base CX0 1 f fd ["length", "thing"] spTupleOf := by
  refine F.ok sc_is_tuple_of (fun vs H Q E h => ?_) (fun cdv A outer s H vs Q E hr h => ?_)
  · obtain ⟨n, v, rfl, _⟩ := h
    rfl
  · obtain ⟨n, v, rfl, hk, q⟩ := h
    refine ⟨_, (pss_one (ps_ret (pe_and (pe_callB call_isi (by rfl) M.isinstance (by decide +kernel) (pa_cons (pv 1) (pa_cons (pe_bltn (v := .ty "tuple") (by rfl) M.tuple (by decide +kernel) rfl) pa_nil))) (pe_one (pe_cmpR op_eq (pe_callB call_len_seq (by rfl) M.len PySem.boot_len (pa_cons (pv 1) pa_nil)) (pv 0) (nomark _)))))), ?_⟩
    obtain ⟨t1, h1, e1⟩ := kn_tup (K := K) hk
    refine ⟨v, rfl, v, _, t1, _, _, rfl, .ty "tuple", h1, e1, _, rfl, ?_⟩
    unfold lenIs at q
    cases hi : isT H v with
    | false =>
      rw [parts_none hi] at q
      exact q
    | true =>
      obtain ⟨a, xs, rfl, e⟩ := isT_at hi
      rw [parts_of' e] at q
      refine ⟨.ref a, rfl, a, xs, rfl, .inr (SqT.of e), .int n, rfl, rfl, ?_⟩
      rw [dec_int]
      exact q
/-! ### a def whose code object stands at c: its own table is at Pt -/
structure FunC (K : PySem.W.Frag) (x qual : Str) (st : Stmt) (f : Addr) (fd : FuncData) (c : Addr) : Prop where
  ex : ∃ (oc : Value) (od : Option Addr) (kV doc pm : Value) (an : Option Addr) (ct : Value) (osl : Array (Option Value)),
    fd = PySem.W.fnOf x qual (defArgs st) (defBody st) (defScope st) .none kV doc pm an (.ref c) ct ∧ K.lookup f = some ⟨oc, od, .func fd, osl⟩ ∧ PySem.W.codeIn K (.ref c) qual = true
  kp : PySem.W.keepIn K (.ref f) = true
theorem FunC.ok {x qual : Str} {st : Stmt} {f c : Addr} {fd : FuncData} {N ps : List Str} {k : Nat} {sp : Sp} (F : FunC K x qual st f fd c) (S : FnScope N ps (defScope st)) (len : ∀ vs H Q E, sp vs H Q E → vs.length = ps.length)
    (hbody : ∀ (A : Around) (outer : List Env) (s : Shared) (H : Hp) (vs : List V) (Q : VK) (E : XK), Room k (A.deeper (envOfC qual (defScope st) s.heap.objs.size f (.ref c))) → sp vs H Q E →
      ∃ t, PSs (cxOf CX0 P w K mg base N qual (defScope st) f (.ref c) A outer s H E).nox (defBody st) t ∧ t { nx := fun _ H' => Q .non H', rt := Q } (start N vs) H) : FnOk P w K mg base CX0 (k + 1) f fd ps sp := by
  obtain ⟨oc, od, kV, doc, pm, an, ct, osl, rfl, lk, hcd⟩ := F.ex
  refine fn_of lk hcd S len fun A outer s H vs Q E hr hsp => ?_
  obtain ⟨t, h, q⟩ := hbody A outer s H vs Q E hr hsp
  exact ⟨t, h.nox, q⟩
theorem FunC.fn {x qual : Str} {st : Stmt} {f c : Addr} {fd : FuncData} (F : FunC K x qual st f fd c) : Fun K x qual st f fd := by
  obtain ⟨oc, od, kV, doc, pm, an, ct, osl, rfl, lk, hcd⟩ := F.ex
  exact ⟨⟨oc, od, kV, doc, pm, an, _, ct, osl, rfl, lk, hcd⟩, F.kp⟩
end
/-! ### all but the tables is kept -/
structure Kt (Ps : List Addr) (H H' : Hp) : Prop where
  tab : ∀ P ∈ Ps, GxR.TabG H' P
  keep : ∀ b o, b ∉ Ps → H b = some o → H' b = some o
def Tabs (Ps : List Addr) (H : Hp) : Prop := ∀ P ∈ Ps, GxR.TabG H P
theorem Kt.refl {Ps : List Addr} {H : Hp} (h : Tabs Ps H) : Kt Ps H H := ⟨h, fun _ _ _ e => e⟩
theorem Kt.trans {Ps : List Addr} {H H1 H2 : Hp} (a : Kt Ps H H1) (b : Kt Ps H1 H2) : Kt Ps H H2 := ⟨b.tab, fun x o h e => b.keep x o h (a.keep x o h e)⟩
theorem Kt.same {Ps : List Addr} {H H' : Hp} (h : Tabs Ps H) (s : Same H H') : Kt Ps H H' := ⟨fun P hP => by obtain ⟨ps, e, t⟩ := h P hP; exact ⟨ps, s _ _ e, t⟩, fun b o _ e => s b o e⟩
theorem Kt.tabbed {Ps : List Addr} {P : Addr} {H H' : Hp} (h : Tabs Ps H) (hP : P ∈ Ps) (t : GxR.Tabbed P H H') : Kt Ps H H' := by
  refine ⟨fun Q hQ => ?_, fun b o hb e => ?_⟩
  · by_cases e : Q = P
    · rw [e]
      exact t.1
    · obtain ⟨ps, e1, t1⟩ := h Q hQ
      exact ⟨ps, by rw [t.2 Q e]; exact e1, t1⟩
  · rw [t.2 b (fun z => hb (by rw [z]; exact hP))]
    exact e
theorem Tabs.out {Ps : List Addr} {H : Hp} {a : Addr} {o : HO} (t : Tabs Ps H) (h : H a = some o) (no : ∀ ps, o ≠ .tbl ps) : a ∉ Ps := fun z => by
  obtain ⟨ps, e, _⟩ := t a z
  rw [e] at h
  cases h
  exact no _ rfl
theorem Kt.tup {Ps : List Addr} {a : Addr} {H H' : Hp} {xs : List V} (k : Kt Ps H H') (t : Tabs Ps H) (h : H a = some (.tup xs)) : H' a = some (.tup xs) := k.keep a _ (t.out h fun _ z => by cases z) h
theorem Kt.lst {Ps : List Addr} {a : Addr} {H H' : Hp} {xs : List V} (k : Kt Ps H H') (t : Tabs Ps H) (h : H a = some (.lst xs)) : H' a = some (.lst xs) := k.keep a _ (t.out h fun _ z => by cases z) h
theorem Kt.dct {Ps : List Addr} {a : Addr} {H H' : Hp} {xs : List (Key × V)} (k : Kt Ps H H') (t : Tabs Ps H) (h : H a = some (.dK xs)) : H' a = some (.dK xs) := k.keep a _ (t.out h fun _ z => by cases z) h
theorem Kt.tk {Ps : List Addr} {H H' : Hp} (k : Kt Ps H H') (t : Tabs Ps H) : Tk H H' := fun _ _ e => k.tup t e
theorem Kt.kn {Ps : List Addr} {H H' : Hp} (k : Kt Ps H H') (t : Tabs Ps H) {v : V} (h : Kn H v) : Kn H' v := by
  cases v with
  | ref a =>
    rcases h with ⟨xs, h⟩ | ⟨xs, h⟩ | ⟨xs, h⟩
    · exact .inl ⟨xs, k.lst t h⟩
    · exact .inr (.inl ⟨xs, k.tup t h⟩)
    · exact .inr (.inr ⟨xs, k.dct t h⟩)
  | _ => exact h
theorem Kt.well {Ps : List Addr} {d : Addr} {b : Nat} {H H' : Hp} (k : Kt Ps H H') (t : Tabs Ps H) (D : Well H d b) : Well H' d b := by
  obtain ⟨g, st, n, e1, e2⟩ := D
  exact ⟨g, st, n, k.lst t e1, e2⟩
theorem Tabs.kp {Ps : List Addr} {d : Addr} {b : Nat} {H H' : Hp} (t : Tabs Ps H) (k : Kp d d H H') (D : Well H d b) : Tabs Ps H' := fun P hP => by
  obtain ⟨ps, e, x⟩ := t P hP
  obtain ⟨g, st, n, e1, e2⟩ := D
  have ne : P ≠ d := ne_of e e1 (by intro z; cases z)
  exact ⟨ps, k _ _ ne ne e, x⟩
theorem Tabs.same {Ps : List Addr} {H H' : Hp} (t : Tabs Ps H) (s : Same H H') : Tabs Ps H' := (Kt.same t s).tab
theorem Tabs.new {Ps : List Addr} {H : Hp} {a : Addr} {o : HO} (t : Tabs Ps H) (h : H a = none) : Tabs Ps (upd H a o) := t.same (same_new h)
/-! ### x in t of data of any depth -/
def rInT (K : PySem.W.Frag) : R2 := fun x y H Q => ∃ d ds, Dp K H x d ∧ Dp K H y (.tuple ds) ∧ SeqAt.shaped d = true ∧ SeqAt.shaped (.tuple ds) = true ∧ Q (.bl (ds.any fun z => PyData.eqv z d)) H
theorem op_inTup {X : Cx} (hu : X.A.units + 65 < cLine) : OpR X (compareOp .In) (rInT X.K) := by
  intro pins s σ H x y v u Q I rx ry want
  obtain ⟨d, ds, hd, he, sd, se, q⟩ := want
  obtain ⟨as, r1⟩ := Dp.reads I d x v hd rx
  obtain ⟨bs, r2⟩ := Dp.reads I (.tuple ds) y u he ry
  have lay : PyData.canLayAll0 ds = true := by
    have z := SeqAt.canLay_of_shaped se
    rw [PyData.canLay0] at z
    exact z
  have deep := SeqAt.depth_of_shaped sd
  exact SeqAt.in_tuple_reads r2 r1 lay (SeqAt.canLay_of_shaped sd) (by omega) ⟨.bl _, H, I, rfl, q⟩
/-! ### ties, walks, parts: the mathematics -/
def Adj (ts : List Tie) (a b : Int) (foe : Bool) : Prop := ∃ t ∈ ts, t.foe = foe ∧ ((t.one = a ∧ t.other = b) ∨ (t.one = b ∧ t.other = a))
theorem Adj.symm {ts : List Tie} {a b : Int} {k : Bool} (h : Adj ts a b k) : Adj ts b a k := by
  obtain ⟨t, ht, e, h⟩ := h
  exact ⟨t, ht, e, h.symm⟩
/-- a walk with so many foes, even or odd -/
inductive RP (ts : List Tie) (a : Int) : Int → Bool → Prop
  | nil : RP ts a a false
  | step {b c : Int} {p k : Bool} : RP ts a b p → Adj ts b c k → RP ts a c (p ^^ k)
def Rch (ts : List Tie) (a b : Int) : Prop := ∃ p, RP ts a b p
theorem RP.trans {ts : List Tie} {a b c : Int} {p q : Bool} (h : RP ts a b p) (g : RP ts b c q) : RP ts a c (p ^^ q) := by
  induction g with
  | nil =>
    rw [Bool.xor_false]
    exact h
  | step _ k ih =>
    rw [← Bool.xor_assoc]
    exact ih.step k
theorem RP.one {ts : List Tie} {a b : Int} {k : Bool} (h : Adj ts a b k) : RP ts a b k := by
  have q := RP.nil.step h
  rw [Bool.false_xor] at q
  exact q
theorem RP.symm {ts : List Tie} {a b : Int} {p : Bool} (h : RP ts a b p) : RP ts b a p := by
  induction h with
  | nil => exact .nil
  | step _ k ih =>
    have q := (RP.one k.symm).trans ih
    rw [Bool.xor_comm] at q
    exact q
theorem Rch.refl {ts : List Tie} {a : Int} : Rch ts a a := ⟨_, .nil⟩
theorem Rch.symm {ts : List Tie} {a b : Int} (h : Rch ts a b) : Rch ts b a := by
  obtain ⟨p, h⟩ := h
  exact ⟨p, h.symm⟩
theorem Rch.trans {ts : List Tie} {a b c : Int} (h : Rch ts a b) (g : Rch ts b c) : Rch ts a c := by
  obtain ⟨p, h⟩ := h
  obtain ⟨q, g⟩ := g
  exact ⟨_, h.trans g⟩
theorem Rch.adj {ts : List Tie} {a b : Int} {k : Bool} (h : Adj ts a b k) : Rch ts a b := ⟨_, RP.one h⟩
theorem Rch.ind {ts : List Tie} {a b : Int} (C : Int → Prop) (h : Rch ts a b) (h0 : C a) (hs : ∀ x y k, C x → Adj ts x y k → C y) : C b := by
  obtain ⟨p, h⟩ := h
  induction h with
  | nil => exact h0
  | step _ k ih => exact hs _ _ _ ih k
theorem Adj.rng {ts : List Tie} {n a b : Int} {k : Bool} (ok : ∀ t ∈ ts, TieOk n t) (h : Adj ts a b k) : 0 ≤ b ∧ b < n := by
  obtain ⟨t, ht, _, h⟩ := h
  obtain ⟨h1, h2, h3, h4, _⟩ := ok t ht
  rcases h with ⟨e1, e2⟩ | ⟨e1, e2⟩
  · omega
  · omega
theorem Rch.rng {ts : List Tie} {n a b : Int} (ok : ∀ t ∈ ts, TieOk n t) (ha : 0 ≤ a ∧ a < n) (h : Rch ts a b) : 0 ≤ b ∧ b < n := h.ind (fun x => 0 ≤ x ∧ x < n) ha fun _ _ _ _ k => k.rng ok
def leader (ts : List Tie) (s : Int) : Prop := ∀ q, Rch ts s q → s ≤ q
/-- rising lists of the same numbers are one -/
theorem rising_ext : ∀ {xs ys : List Int}, xs.Pairwise (· < ·) → ys.Pairwise (· < ·) → (∀ z, z ∈ xs ↔ z ∈ ys) → xs = ys
  | [], [], _, _, _ => rfl
  | [], y :: ys, _, _, h => by have := (h y).mpr (by simp); simp at this
  | x :: xs, [], _, _, h => by have := (h x).mp (by simp); simp at this
  | x :: xs, y :: ys, hx, hy, h => by
    rw [List.pairwise_cons] at hx hy
    have e : x = y := by
      have h1 := (h x).mp (by simp)
      have h2 := (h y).mpr (by simp)
      rcases List.mem_cons.mp h1 with e | e
      · exact e
      · rcases List.mem_cons.mp h2 with e' | e'
        · exact e'.symm
        · have := hx.1 y e'
          have := hy.1 x e
          omega
    subst e
    rw [rising_ext hx.2 hy.2 fun z => ?_]
    constructor
    · intro hz
      rcases List.mem_cons.mp ((h z).mp (List.mem_cons_of_mem _ hz)) with e | e
      · have := hx.1 z hz
        omega
      · exact e
    · intro hz
      rcases List.mem_cons.mp ((h z).mpr (List.mem_cons_of_mem _ hz)) with e | e
      · have := hy.1 z hz
        omega
      · exact e
/-- 0, 1, .., n - 1 -/
def rng (n : Nat) : List Int := (List.range n).map fun (i : Nat) => (i : Int)
theorem mem_rng {n : Nat} {z : Int} : z ∈ rng n ↔ 0 ≤ z ∧ z < n := by
  unfold rng
  rw [List.mem_map]
  constructor
  · rintro ⟨i, hi, rfl⟩
    have := List.mem_range.mp hi
    omega
  · rintro ⟨h1, h2⟩
    exact ⟨z.toNat, List.mem_range.mpr (by omega), by omega⟩
theorem rng_rising (n : Nat) : (rng n).Pairwise (· < ·) := by
  unfold rng
  rw [List.pairwise_map]
  exact List.pairwise_lt_range.imp (by intro a b h; omega)
theorem rng_succ (n : Nat) : rng (n + 1) = rng n ++ [(n : Int)] := by
  unfold rng
  rw [List.range_succ, List.map_append]
  rfl
theorem rng_length (n : Nat) : (rng n).length = n := by
  unfold rng
  rw [List.length_map, List.length_range]
open Classical in
/-- the part of s -/
noncomputable def partOf (ts : List Tie) (n : Nat) (s : Int) : List Int := (rng n).filter fun p => decide (Rch ts s p)
open Classical in
/-- the parts by their first places, below i -/
noncomputable def partsTo (ts : List Tie) (n i : Nat) : List (List Int) := ((rng i).filter fun s => decide (leader ts s)).map (partOf ts n)
open Classical in
theorem partsTo_succ (ts : List Tie) (n i : Nat) : partsTo ts n (i + 1) = partsTo ts n i ++ (if leader ts i then [partOf ts n i] else []) := by
  unfold partsTo
  rw [rng_succ, List.filter_append, List.map_append]
  congr 1
  by_cases h : leader ts (i : Int)
  · rw [if_pos h, List.filter_cons, if_pos (decide_eq_true h)]
    rfl
  · rw [if_neg h, List.filter_cons, if_neg (by simpa using h)]
    rfl
theorem part_rising (ts : List Tie) (n : Nat) (s : Int) : (partOf ts n s).Pairwise (· < ·) := (rng_rising n).filter _
theorem mem_part {ts : List Tie} {n : Nat} {s z : Int} : z ∈ partOf ts n s ↔ (0 ≤ z ∧ z < n) ∧ Rch ts s z := by
  unfold partOf
  rw [List.mem_filter, mem_rng]
  simp
/-! ### the least place that each comes to, gone over again and again -/
def relax (f : Int → Int) (t : Tie) : Int → Int := fun x => if x = t.one ∨ x = t.other then min (f t.one) (f t.other) else f x
def rounds (ts : List Tie) : Nat → Int → Int
  | 0 => fun x => x
  | r + 1 => ts.foldl relax (rounds ts r)
theorem relax_le (f : Int → Int) (t : Tie) (x : Int) : relax f t x ≤ f x := by
  unfold relax
  split
  · rename_i h
    rcases h with rfl | rfl <;> omega
  · exact Int.le_refl _
theorem fold_le : ∀ (l : List Tie) (f : Int → Int) (x : Int), l.foldl relax f x ≤ f x
  | [], _, _ => Int.le_refl _
  | t :: l, f, x => Int.le_trans (fold_le l (relax f t) x) (relax_le f t x)
theorem fold_tie : ∀ (l : List Tie) (f : Int → Int) (t : Tie), t ∈ l → l.foldl relax f t.one ≤ min (f t.one) (f t.other) ∧ l.foldl relax f t.other ≤ min (f t.one) (f t.other)
  | t' :: l, f, t, h => by
    rcases List.mem_cons.mp h with e | e
    · subst e
      have h1 := fold_le l (relax f t) t.one
      have h2 := fold_le l (relax f t) t.other
      have e1 : relax f t t.one = min (f t.one) (f t.other) := by unfold relax; rw [if_pos (.inl rfl)]
      have e2 : relax f t t.other = min (f t.one) (f t.other) := by unfold relax; rw [if_pos (.inr rfl)]
      rw [e1] at h1
      rw [e2] at h2
      exact ⟨h1, h2⟩
    · have ih := fold_tie l (relax f t') t e
      have h1 := relax_le f t' t.one
      have h2 := relax_le f t' t.other
      exact ⟨Int.le_trans ih.1 (by omega), Int.le_trans ih.2 (by omega)⟩
theorem fold_rch {ts : List Tie} : ∀ (l : List Tie) (f : Int → Int), (∀ t ∈ l, t ∈ ts) → (∀ x, Rch ts x (f x)) → ∀ x, Rch ts x (l.foldl relax f x)
  | [], _, _, h => h
  | t :: l, f, hl, h => fold_rch l (relax f t) (fun t' ht => hl t' (List.mem_cons_of_mem _ ht)) fun x => by
    have ad : Rch ts t.one t.other := Rch.adj (k := t.foe) ⟨t, hl t (by simp), rfl, .inl ⟨rfl, rfl⟩⟩
    unfold relax
    split
    · rename_i hx
      have key : Rch ts x t.one ∧ Rch ts x t.other := by
        rcases hx with e | e <;> subst e
        · exact ⟨Rch.refl, ad⟩
        · exact ⟨ad.symm, Rch.refl⟩
      rcases Int.le_total (f t.one) (f t.other) with q | q
      · rw [Int.min_eq_left q]
        exact key.1.trans (h _)
      · rw [Int.min_eq_right q]
        exact key.2.trans (h _)
    · exact h x
theorem rounds_rch (ts : List Tie) : ∀ (r : Nat) (x : Int), Rch ts x (rounds ts r x)
  | 0, _ => Rch.refl
  | r + 1, x => fold_rch ts _ (fun _ h => h) (rounds_rch ts r) x
theorem filter_lt {p q : Int → Bool} : ∀ {l : List Int}, (∀ x ∈ l, q x = true → p x = true) → (∃ x ∈ l, p x = true ∧ q x = false) → (l.filter q).length < (l.filter p).length
  | [], _, ⟨x, hx, _⟩ => by simp at hx
  | y :: l, hi, ⟨x, hx, hp, hq⟩ => by
    have mono : (l.filter q).length ≤ (l.filter p).length := by
      have hi' : ∀ x ∈ l, q x = true → p x = true := fun x h => hi x (List.mem_cons_of_mem _ h)
      clear hi hx hp hq
      induction l with
      | nil => exact Nat.le_refl _
      | cons z l ih =>
        have ih := ih fun x h => hi' x (List.mem_cons_of_mem _ h)
        rw [List.filter_cons, List.filter_cons]
        have hz := hi' z (by simp)
        cases h1 : q z <;> cases h2 : p z <;> simp_all <;> omega
    rw [List.filter_cons, List.filter_cons]
    rcases List.mem_cons.mp hx with e | e
    · subst e
      rw [hq, hp]
      simp
      omega
    · have ih := filter_lt (l := l) (fun x h => hi x (List.mem_cons_of_mem _ h)) ⟨x, e, hp, hq⟩
      have hy := hi y (by simp)
      cases h1 : q y <;> cases h2 : p y <;> simp_all <;> omega
open Classical in
/-- behind as many rounds as there are places each has its part's least place -/
theorem rounds_least {ts : List Tie} {n : Nat} (ok : ∀ t ∈ ts, TieOk n t) {m p : Int} (hm : leader ts m) (h0 : 0 ≤ m ∧ m < n) (hp : Rch ts m p) : rounds ts n p = m := by
  have ge : ∀ r x, Rch ts m x → m ≤ rounds ts r x := fun r x hx => hm _ (hx.trans (rounds_rch ts r x))
  have mono : ∀ r x, rounds ts (r + 1) x ≤ rounds ts r x := fun r x => fold_le ts _ x
  have atm : ∀ r, rounds ts r m = m := fun r => by
    have h1 := ge r m Rch.refl
    have h2 : rounds ts r m ≤ m := by
      induction r with
      | zero => exact Int.le_refl _
      | succ r ih => exact Int.le_trans (mono r m) (ih (ge r m Rch.refl))
    omega
  have cnt : ∀ r, ((rng n).filter fun x => decide (Rch ts m x ∧ rounds ts r x ≠ m)).length ≤ n - r := fun r => by
    induction r with
    | zero =>
      refine Nat.le_trans (List.length_filter_le _ _) ?_
      rw [rng_length]
      omega
    | succ r ih =>
      by_cases hex : ∃ x, Rch ts m x ∧ rounds ts r x ≠ m
      · obtain ⟨x, hx, hne⟩ := hex
        -- an edge over which it comes
        have edge : ∃ a b k, Rch ts m a ∧ rounds ts r a = m ∧ Adj ts a b k ∧ rounds ts r b ≠ m := by
          by_cases hn : ∃ a b k, Rch ts m a ∧ rounds ts r a = m ∧ Adj ts a b k ∧ rounds ts r b ≠ m
          · exact hn
          · exfalso
            refine hne (hx.ind (fun y => Rch ts m y ∧ rounds ts r y = m) ⟨Rch.refl, atm r⟩ fun a b k ha k' => ⟨ha.1.trans (Rch.adj k'), ?_⟩).2
            by_cases hb : rounds ts r b = m
            · exact hb
            · exact absurd ⟨a, b, k, ha.1, ha.2, k', hb⟩ hn
        obtain ⟨a, b, k, ha, ha2, hab, hb⟩ := edge
        have hmb : Rch ts m b := ha.trans (Rch.adj hab)
        have hb' : rounds ts (r + 1) b = m := by
          have h1 := ge (r + 1) b hmb
          obtain ⟨t, ht, _, h⟩ := hab
          have ft := fold_tie ts (rounds ts r) t ht
          have h2 : rounds ts (r + 1) b ≤ m := by
            rcases h with ⟨e1, e2⟩ | ⟨e1, e2⟩
            · have q := ft.2
              rw [e1, e2, ha2] at q
              exact Int.le_trans q (by omega)
            · have q := ft.1
              rw [e1, e2, ha2] at q
              exact Int.le_trans q (by omega)
          omega
        have lt := filter_lt (p := fun x => decide (Rch ts m x ∧ rounds ts r x ≠ m)) (q := fun x => decide (Rch ts m x ∧ rounds ts (r + 1) x ≠ m)) (l := rng n) (fun x _ hq => by
          have hq := of_decide_eq_true hq
          refine decide_eq_true ⟨hq.1, fun z => hq.2 ?_⟩
          have h1 := ge (r + 1) x hq.1
          have h2 := mono r x
          omega) ⟨b, mem_rng.mpr (hmb.rng ok h0), decide_eq_true ⟨hmb, hb⟩, decide_eq_false fun z => z.2 hb'⟩
        omega
      · have e : (rng n).filter (fun x => decide (Rch ts m x ∧ rounds ts (r + 1) x ≠ m)) = [] := by
          rw [List.filter_eq_nil_iff]
          intro x _ hq
          have hq := of_decide_eq_true hq
          refine hex ⟨x, hq.1, fun z => hq.2 ?_⟩
          have h1 := ge (r + 1) x hq.1
          have h2 := mono r x
          omega
        rw [e]
        exact Nat.zero_le _
  have c := cnt n
  rw [Nat.sub_self] at c
  have e := List.eq_nil_of_length_eq_zero (Nat.le_zero.mp c)
  by_cases hne : rounds ts n p = m
  · exact hne
  · rw [List.filter_eq_nil_iff] at e
    exact absurd (decide_eq_true ⟨hp, hne⟩) (e p (mem_rng.mpr (hp.rng ok h0)))
open Classical in
/-- each has a least place -/
theorem has_leader {ts : List Tie} {n : Nat} (ok : ∀ t ∈ ts, TieOk n t) {p : Int} (h0 : 0 ≤ p ∧ p < n) : ∃ m, leader ts m ∧ (0 ≤ m ∧ m < n) ∧ Rch ts m p := by
  have key : ∀ (k : Nat) (x : Int), x = k → Rch ts p x → ∃ m, leader ts m ∧ (0 ≤ m ∧ m < n) ∧ Rch ts m p := by
    intro k
    induction k using Nat.strongRecOn with
    | ind k ih =>
      intro x hx hr
      have hxr := hr.rng ok h0
      by_cases hl : leader ts x
      · exact ⟨x, hl, hxr, hr.symm⟩
      · have hl' : ∃ q, Rch ts x q ∧ q < x := by
          by_cases h : ∃ q, Rch ts x q ∧ q < x
          · exact h
          · exfalso
            refine hl fun q hq => ?_
            by_cases h' : q < x
            · exact absurd ⟨q, hq, h'⟩ h
            · omega
        obtain ⟨q, hq, hlt⟩ := hl'
        have hqr := hq.rng ok hxr
        exact ih q.toNat (by omega) q (by omega) (hr.trans hq)
  exact key p.toNat p (by omega) Rch.refl
/-! ### tuples that are known to have no dict: their methods -/
def NoD (H : Hp) (p : Addr) (xs : List V) : Prop := ∃ o : Obj, o.dict = none ∧ H p = some (.frz o (.tup xs))
theorem NoD.same {H H' : Hp} {p : Addr} {xs : List V} (h : NoD H p xs) (s : Same H H') : NoD H' p xs := by
  obtain ⟨o, h1, h2⟩ := h
  exact ⟨o, h1, s _ _ h2⟩
theorem NoD.sq {K : PySem.W.Frag} {H : Hp} {p : Addr} {xs : List V} (h : NoD H p xs) : SqT K H p xs := by
  obtain ⟨o, h1, h2⟩ := h
  exact .inl (.inr ⟨o, h2⟩)
theorem NoD.kp {H H' : Hp} {d p : Addr} {b : Nat} {xs : List V} (h : NoD H p xs) (k : Kp d d H H') (D : Well H d b) : NoD H' p xs := by
  obtain ⟨o, h1, h2⟩ := h
  obtain ⟨g, st, n, e1, _⟩ := D
  have ne : p ≠ d := ne_of h2 e1 (by intro z; cases z)
  exact ⟨o, h1, k _ _ ne ne h2⟩
section
variable {X : Cx}
theorem call_tuple_ofZ : CallR X (.type "tuple") (fun xs H Q => ∃ p ys, xs = [.ref p] ∧ SqL X.K H p ys ∧ ∀ l o, o.dict = none → H l = none → Q (.ref l) (upd H l (.frz o (.tup ys)))) := by
  intro pins s σ H xs us Q I r h
  obtain ⟨p, ys, rfl, hq, q⟩ := h
  obtain ⟨u, rfl, rx⟩ := vals1 r
  cases rx
  obtain ⟨its, r', pl, hz⟩ := I.list hq
  have hlen := r'.length
  refine call_tuple_list pl.isList (fun h' kp => ?_) (by simp only [List.size_toArray] <;> omega)
  have I1 : Inv X pins σ H { s with heap := h' } := I.kept (t' := s.toks) kp
  have I2 : Inv X pins σ (upd H h'.objs.size (.frz { cls := .type "tuple", data := .seq its.toArray } (.tup ys))) { s with heap := h'.push { cls := .type "tuple", data := .seq its.toArray } } :=
    I1.laid (t' := s.toks) (fun b o e => Heap.get?_push_of_some _ e) (Nat.le_refl _) (show ObjOk X.prog X.w _ _ _ (.frz { cls := .type "tuple", data := .seq its.toArray } (.tup ys)) from ⟨Heap.get?_push_size _ rfl, hz, its, r', IsTup.new _ _⟩)
  exact ⟨.ref h'.objs.size, _, I2, rfl, q _ _ rfl (I1.hok.fresh (Nat.le_refl _))⟩
def tTupRgZ (te : L2.St → Hp → (Int → Int → Hp → Prop) → Prop) : TE := fun σ H Q => te σ H fun a b H1 => RgOk a b ∧ ∀ q o, o.dict = none → H1 q = none → Q (.ref q) (upd H1 q (.frz o (.tup (rgV a b))))
theorem pe_tupRgZ {e : Expr} {te : L2.St → Hp → (Int → Int → Hp → Prop) → Prop} {p pos : Pos} (hc : X.calm = true) (hg : Gl X "tuple") (hm : X.mg "tuple" = none) (he : PRg X e te) (na : starEach [e] X.env = (false, eval e X.env) :: starEach [] X.env := by rfl) : PE X (.Call (.Name "tuple" p) [e] [] pos) (tTupRgZ te) := by
  refine ⟨fun pins s σ H Q I h => ?_⟩
  refine Call_ (ld_blt I hg hm boot_tuple (PyProof.Rows.callWith_type1 (args_cons (thn (he pins s σ H _ I h) fun x s1 ⟨r, a, b, t, u, v, H1, ex, hr, I1, ok, q⟩ => args_nil ?_) na) na))
  subst ex
  obtain ⟨b1, b2, b3, b4, b5⟩ := ok
  refine call_tuple_range (n := (b - a).toNat) (I1.ok.hd hc) hr (small_one b1 b2 b3 b4) (rangeSize_nat a b) b5 fun h' tk acc hk hi => ?_
  have I2 : Inv X pins σ H1 { s1 with heap := h', toks := tk } := I1.kept hk
  refine ⟨.ref h'.objs.size, upd H1 h'.objs.size (.frz { cls := .type "tuple", data := .seq acc } (.tup (rgV a b))), I2.laid (t' := tk) (fun c o e => Heap.get?_push_of_some _ e) (Nat.le_refl _) (show ObjOk X.prog X.w _ _ _ (.frz { cls := .type "tuple", data := .seq acc } (.tup (rgV a b))) from ⟨Heap.get?_push_size _ rfl, ?_, acc.toList, vals_rg hi, ?_⟩), rfl, q _ _ rfl (I2.hok.fresh (Nat.le_refl _))⟩
  · rw [rgV_length, sizeLine_eq]; omega
  · rw [Array.toArray_toList]; exact IsTup.new _ _
/-- a method of such a tuple -/
def tBMT (r : V → List V → Hp → VK → Prop) (to : TE) (t : TA) : TE := fun σ H Q => to σ H fun x H1 => (∃ p xs, x = .ref p ∧ NoD H1 p xs) ∧ t σ H1 fun xs H2 => r x xs H2 Q
theorem pe_bmT {o e : Expr} {es : List Expr} {to : TE} {t : TA} {name : Str} {apos cpos : Pos} {id : String} {r : V → List V → Hp → VK → Prop} (slot : Slot "tuple" name id) (hty : typeOf (.builtin id) = pure (.type "method_descriptor")) (hm : MtR X id r) (ho : PE X o to) (ha : PA X (e :: es) t)
    (hbase : attributeBase o name X.env (eval o X.env) = eval o X.env := by rfl)
    (hfew : ((backTo cpos (starEach (e :: es) X.env)).all (fun x => !x.1) && (backToKw cpos (keywordEach [] X.env)).all (fun x => x.1.isSome)
      && decide ((e :: es).length + ([] : List Keyword).length + (if ([] : List Keyword).isEmpty then 0 else 1) < 30)) = true := by rfl)
    (hline : (apos.endLine == cpos.line) = true := by rfl) (hs : starEach (e :: es) X.env = (false, eval e X.env) :: starEach es X.env := by rfl) (hplain : (backTo cpos (starEach es X.env)).any (·.1) = false := by rfl) :
    PE X (.Call (.Attribute o name apos) (e :: es) [] cpos) (tBMT r to t) := by
  refine ⟨fun pins s σ H Q I h => ?_⟩
  refine wpAny_Call_method_late hbase hfew hline rfl (thn (ho.run pins s σ H _ I h) fun v s1 ⟨x, H1, I1, r1, ⟨p, xs, ex, ob, od, hp⟩, q1⟩ => ?_)
  subst ex
  obtain rfl : v = Value.ref p := r1
  obtain ⟨e1, hz, its, rv, o2, e2, c2, n2, d2⟩ := (show ObjOk X.prog X.w H1 s1.heap p (.frz ob (.tup xs)) from I1.hok p _ hp)
  rw [e1] at e2
  cases e2
  refine ⟨"tuple", id, PySem.F.plainAttrs_tuple, slot, hty, ⟨ob, e1, c2⟩, fun a ea => ?_, ?_⟩
  · cases ea
    exact ⟨ob, e1, od⟩
  have hA := ha.run cpos pins s1 σ H1 _ I1 q1
  rw [hs] at hA ⊢
  refine Calls.callWith_builtin (by show (false || (backTo cpos (starEach es X.env)).any (·.1)) = false; rw [hplain] <;> rfl) (Calls.evalArgs_plain ?_)
  exact thn hA fun us s2 ⟨vs, H2, I2, r2, q2⟩ => hm pins s2 σ H2 (.ref p) vs (.ref p) us Q I2 rfl r2 q2
def rCntT (K : PySem.W.Frag) : V → List V → Hp → VK → Prop := fun x xs H Q => ∃ (p : Addr) (ns : List Int) (k : Int), x = .ref p ∧ xs = [.int k] ∧ SqT K H p (ns.map V.int) ∧ Q (.int (ns.count k : Nat)) H
theorem mt_tcount : MtR X "tuple.count" (rCntT X.K) := by
  intro pins s σ H x xs v us Q I rx rxs h
  obtain ⟨p, ns, k, rfl, rfl, hs, q⟩ := h
  cases rx
  obtain ⟨u, rfl, ru⟩ := rxs.one
  obtain ⟨t, rfl⟩ := ru
  obtain ⟨its, rv, ⟨⟨cls, dd, data, sl⟩, ho, hc, n, hd⟩, hlen⟩ := I.tuple hs
  simp only at hc hd
  subst hc hd
  have hi := ints_of_vals rv
  refine call_meets PySem.F.slot_tuple_count ⟨_, ho, rfl⟩ PySem.F.entry_tuple_count (PySem.F.args_tuple_count_2 _ _)
    (SeqAt.tuple_countAt p its.toArray n dd sl (.int k t) (eqk k)) ⟨ho, fun y hy => (eqk_gives hi y (by simpa using hy)).at _ _, ?_⟩
  have ec : its.toArray.toList.countP (eqk k) = ns.count k := eqk_count hi
  refine ⟨.int (ns.count k : Nat), H, I.tok _, ⟨s.toks, ?_⟩, q⟩
  show Value.int ((its.toArray.toList.countP (eqk k) : Nat) : Int) s.toks = Value.int ((ns.count k : Nat) : Int) s.toks
  rw [ec]
end
/-! ### zip of two tuples -/
theorem walk_zipT {K : PySem.W.Frag} {a b : Addr} {xs ys : List V} {n : Nat} (hn : n = min xs.length ys.length) : Walk (RZ.ItzT K a b) n (fun H => SqT K H a xs ∧ SqT K H b ys) (YPair (fun i => xs[i]?) (fun i => ys[i]?)) := by
  subst hn
  refine ⟨fun i _ hi q => ?_, fun _ q => ⟨xs, ys, q.1, q.2, by omega⟩, fun i H v H' _ q y => ?_⟩
  · have h1 : i < xs.length := by omega
    have h2 : i < ys.length := by omega
    exact ⟨xs, ys, xs[i], ys[i], q.1, q.2, by simp [h1], by simp [h2]⟩
  · obtain ⟨T, x, z, h1, h2, h3, h4, h5⟩ := y
    exact ⟨T, x, z, h1, h2, h3, h4 xs q.1, h5 ys q.2⟩
/-! ### rows of numbers as data -/
def IntsV (H : Hp) (v : V) (xs : List Int) : Prop := ∃ b, v = .ref b ∧ H b = some (.tup (xs.map V.int))
theorem IntsV.tk {H H' : Hp} (k : Tk H H') {v : V} {xs : List Int} (h : IntsV H v xs) : IntsV H' v xs := by
  obtain ⟨a, rfl, e⟩ := h
  exact ⟨a, rfl, k _ _ e⟩
def intsD (xs : List Int) : PyData := .tuple (xs.map PyData.int)
section
variable {K : PySem.W.Frag} {H : Hp}
theorem dp_ints : ∀ (xs : List Int), DpAll K H (xs.map V.int) (xs.map PyData.int)
  | [] => .nil
  | x :: xs => .cons (.int x) (dp_ints xs)
theorem IntsV.dp {v : V} {xs : List Int} (h : IntsV H v xs) : Dp K H v (intsD xs) := by
  obtain ⟨b, rfl, e⟩ := h
  exact .tup (SqT.of e) (dp_ints xs)
end
theorem lay_ints : ∀ xs : List Int, PyData.canLayAll0 (xs.map PyData.int) = true
  | [] => by simp [PyData.canLayAll0]
  | x :: xs => by simp [PyData.canLayAll0, PyData.canLay0, lay_ints xs]
theorem deep_ints : ∀ xs : List Int, PyData.depthAll (xs.map PyData.int) = 0
  | [] => by simp [PyData.depthAll]
  | x :: xs => by simp [PyData.depthAll, PyData.depth, deep_ints xs]
theorem lay_intsD (xs : List Int) : (intsD xs).canLay0 = true := by
  unfold intsD
  rw [PyData.canLay0]
  exact lay_ints xs
theorem deep_intsD (xs : List Int) : (intsD xs).depth = 1 := by
  unfold intsD
  rw [PyData.depth, deep_ints]
theorem shaped_intsD (xs : List Int) : SeqAt.shaped (intsD xs) = true := by
  unfold SeqAt.shaped
  rw [lay_intsD, deep_intsD]
  rfl
theorem eqv_nil (xs : List Int) : PyData.eqv (intsD xs) (intsD []) = xs.isEmpty := by
  unfold intsD
  rw [PyData.eqv]
  cases xs <;> rfl

/-! ### enumerate of a tuple -/
set_option maxHeartbeats 1000000 in
theorem meets_enumOne {v : Value} {o : Obj} {S : Heap → Prop} (B : Begins v o S) : Meets (Builtin.«enumerate.__new__» ⟨[.type "enumerate", v], []⟩) (fun _ R s => S s.heap ∧
      R (.ok (.ret (.ref (s.heap.push o).objs.size))) { s with heap := (s.heap.push o).push { cls := .type "enumerate", data := .fields #[.none, .bool false, .ref s.heap.objs.size, rawInt 0, .none, .none] } }) :=
  .of_wp fun prog w A R s h => by
    obtain ⟨hp, g, d, tk, os⟩ := s
    obtain ⟨h1, h⟩ := h
    have sub0 := sub_enumerate
    have begun : ∀ {A' : PySem.Around} {E : Value → Shared → Prop} {Q : Value → Shared → Prop}, Q (.ref hp.objs.size) ⟨hp.push o, g, d, tk, os⟩ → wpAny (model prog w) A' (pyIter v) Q E ⟨hp, g, d, tk, os⟩ := fun q => B.iter prog w _ _ ⟨hp, g, d, tk, os⟩ _ h1 q
    wp_walk using begun
    refine wpAny_stack_any fun st => wpAny_pure ?_
    split
    · rename_i c _ _ _ _ _
      cases (c == Value.type "enumerate")
      all_goals
        wp_walk using begun
        exact ⟨_, rfl, h⟩
    · wp_walk using begun
      exact ⟨_, rfl, h⟩
theorem call_enumT {P : Program} {w : World} {A : PySem.Around} {E : Value → Shared → Prop} {s : Shared} {t : Addr} {items : Array Value} {Q : Value → Shared → Prop} (ht : s.heap.IsTuple t items)
    (h : ∀ h', IsEnum h' (s.heap.objs.size + 1) s.heap.objs.size 0 .none → h'.IsTupleIter s.heap.objs.size t 0 → (∀ b o, s.heap.get? b = some o → h'.get? b = some o) → Q (.ref (s.heap.objs.size + 1)) { s with heap := h' }) : wpAny (model P w) A (call (.type "enumerate") [.ref t]) Q E s := by
  refine callType_new PySem.F.called_enumerate (by decide) (PySem.F.typeCall_enumerate_1 _) (PySem.F.newCall_enumerate_1 _) (fun ob => PySem.F.args_object_init_2 ob _) PySem.F.entry_enumerate_new (meets_enumOne (begins_tuple t items)) ⟨ht, ?_⟩
  have size1 := Heap.size_push s.heap { cls := .type "tuple_iterator", data := .fields #[.ref t, .int 0 0] }
  have en := Heap.get?_push_size (s.heap.push { cls := .type "tuple_iterator", data := .fields #[.ref t, .int 0 0] }) (o := { cls := .type "enumerate", data := .fields #[.none, .bool false, .ref s.heap.objs.size, rawInt 0, .none, .none] }) rfl
  rw [size1] at en
  show _ ∧ _
  rw [size1]
  exact ⟨⟨_, en, rfl⟩, h _ en ⟨_, Heap.get?_push_of_some _ (Heap.get?_push_size _ rfl), rfl, rfl⟩ fun b o e => Heap.get?_push_of_some _ (Heap.get?_push_of_some _ e)⟩
/-- the turns: a new pair each, of the number and the part -/
def ItN (K : PySem.W.Frag) (a : Addr) : It where
  go := fun i H => ∃ (xs : List V) (x : V), SqT K H a xs ∧ xs[i]? = some x
  yld := fun i H v H' => ∃ T x, v = .ref T ∧ H T = none ∧ H' = upd H T (.tup [.int (i : Nat), x]) ∧ ∀ xs, SqT K H a xs → xs[i]? = some x
  stop := fun i H => ∃ xs : List V, SqT K H a xs ∧ xs.length ≤ i
theorem turn_enumT {P : Program} {w : World} {K : PySem.W.Frag} {elts : List Expr} {kk : Nat} {tpos : Pos} (a e it : Addr) (n1 : e ≠ it) (n2 : a ≠ it) (n3 : e ≠ a) :
    Turn P w K (.Tuple elts kk tpos) (ItN K a) [e, it] e (fun i h => (∃ old, IsEnum h e it ((i : Nat) : Int) old) ∧ h.IsTupleIter it a i) where
  mem := List.mem_cons_self
  obj := by
    rintro i h ⟨⟨old, he⟩, o, ho, hc, hd⟩ b hb
    rcases List.mem_cons.mp hb with rfl | hb
    · exact ⟨_, he, fun v q => nomatch q⟩
    · rw [List.mem_singleton.mp hb]
      exact ⟨o, ho, fun v q => by rw [hd] at q; cases q⟩
  keep := by
    rintro i h h' ⟨⟨old, he⟩, hit⟩ kp
    exact ⟨⟨old, kp e (by simp) _ he⟩, hit.at fun o q => kp it (by simp) o q⟩
  item := by
    intro X hP hw hK hc i pins s σ H E I hf st hg
    subst hP hw hK
    obtain ⟨⟨old, he⟩, hit⟩ := st
    obtain ⟨xs, x, hq, hx⟩ := hg
    obtain ⟨its, rv, tup, _⟩ := I.tuple hq
    obtain ⟨u, hu, ru⟩ := rv.get hx
    have le := Heap.lt_size he
    have li : it < s.heap.objs.size := let ⟨_, q, _⟩ := hit; Heap.lt_size q
    have lt : i < its.toArray.size := by simpa using (List.getElem?_eq_some_iff.mp hu).1
    refine wpAny_pyNext_enum_itemD (Draws.tuple (A := X.A.in1) (I.ok.hd hc) it a n2 its.toArray) he ⟨hit, tup⟩ lt n1 (by simp [n1, n3]) fun x' h' tk ex out st' new _ kp => ?_
    obtain rfl : u = x' := Option.some.inj (((by simpa using hu) : its.toArray[i]? = some u).symm.trans ex)
    refine ⟨_, rfl, wpAny_letOwnedTupleGo_enum (s := { s with heap := h', toks := tk + 1 }) out fun h2 he2 sb => ?_⟩
    have new2 : h2.get? s.heap.objs.size = some { cls := .type "tuple", data := .seq #[.int i tk, u] } := (sb.2 _ (Nat.ne_of_gt le)).trans new
    have objT : ObjOk X.prog X.w (upd H s.heap.objs.size (.tup [.int (i : Nat), x])) h2 s.heap.objs.size (.tup [.int (i : Nat), x]) := ⟨by show 2 ≤ sizeLine; decide, [.int i tk, u], .cons ⟨_, rfl⟩ (.cons ru .nil), ⟨_, new2, rfl, _, rfl⟩⟩
    have J : Inv X pins σ (upd H s.heap.objs.size (.tup [.int (i : Nat), x])) { s with heap := h2, toks := tk + 1 } := I.turnedNew (ch := [e, it]) (fun b ob hb q => by
      simp only [List.mem_cons, List.not_mem_nil, or_false, not_or] at hb
      exact (sb.2 b hb.1).trans (kp b ob hb.1 hb.2 q)) hf (Nat.le_refl _) objT
    refine ⟨.ref s.heap.objs.size, _, J, rfl, ⟨_, x, rfl, I.hok.fresh (Nat.le_refl _), rfl, fun ys hy => by rw [I.tuple_inj hy hq]; exact hx⟩, ⟨⟨u, ?_⟩, st'.1.at fun o q => (sb.2 it (Ne.symm n1)).trans q⟩, fun b hb => ?_⟩
    · rw [show ((i + 1 : Nat) : Int) = (i : Int) + 1 from by omega]
      exact he2
    · have lb : b < s.heap.objs.size := by
        rcases List.mem_cons.mp hb with rfl | hb
        · exact le
        · rw [List.mem_singleton.mp hb]
          exact li
      rw [upd_ne (Nat.ne_of_lt lb)]
      exact (hf b hb).1
  done := by
    intro X hP hw hK hc i pins s σ H E I hf st hg
    subst hP hw hK
    obtain ⟨⟨old, he⟩, hit⟩ := st
    obtain ⟨xs, hq, hx⟩ := hg
    obtain ⟨its, rv, tup, _⟩ := I.tuple hq
    have hl := rv.length
    obtain ⟨f0, f1, f2, f3, f4, f5⟩ := hf it (by simp)
    have D : Draws X.prog X.w X.A.in1 it [it, a] i (fun _ _ => False) (fun j h => j = i ∧ h.IsTupleIter it a i ∧ h.IsTuple a its.toArray) := {
      live := fun j h z => let ⟨_, ⟨o, q, _⟩, _⟩ := z; ⟨o, q⟩
      frame := fun j h h' z kp => ⟨z.1, z.2.1.at fun o q => kp it (by simp) o q, z.2.2.at fun o q => kp a (by simp) o q⟩
      item := fun j s' Q E' hj z => absurd z.1 (Nat.ne_of_lt hj)
      done := fun s' Q E' z fin => wpAny_nextOf_tuple_end (I.ok.hd hc) z.2.1 z.2.2 (by simp; omega) fin }
    exact wpAny_pyNext_enum_endD D he ⟨rfl, hit, tup⟩ fun h' eb => ⟨rfl, I.turned (t' := s.toks) (fun b o hb q => eb b o hb q) f0 f1 f3 f4 f5⟩
  self := fun A i s Q E st h => let ⟨⟨_, he⟩, _⟩ := st; wpAny_pyIter_enum he h
def iEnT (K : PySem.W.Frag) (ta : TA) : TI := fun σ H R => ta σ H fun vs H1 => ∃ a xs, vs = [.ref a] ∧ SqT K H1 a xs ∧ R (ItN K a) H1
theorem pi_enumT {X : Cx} {e : Expr} {ta : TA} {p pos tpos : Pos} {elts : List Expr} {kk : Nat} (hg : Gl X "enumerate") (hm : X.mg "enumerate" = none) (ha : PA X [e] ta) (hs : starEach [e] X.env = [(false, eval e X.env)] := by rfl) :
    PI X (.Tuple elts kk tpos) (.Call (.Name "enumerate" p) [e] [] pos) (iEnT X.K ta) := by
  refine ⟨fun pins s σ H R I want => Call_ (ld_blt I hg hm boot_enumerate (PyProof.Rows.callWith_type1 (thn (ha.run pos pins s σ H _ I want) fun us s1 got => ?_) hs rfl))⟩
  obtain ⟨vs, H1, J, rel, a, xs, ex, hq, q⟩ := got
  subst ex
  obtain ⟨u, eu, r1⟩ := vals1 rel
  subst eu
  obtain rfl : u = Value.ref a := r1
  obtain ⟨its, rv, tup, _⟩ := J.tuple hq
  have la : a < s1.heap.objs.size := let ⟨_, q, _⟩ := tup; Heap.lt_size q
  refine call_enumT (items := its.toArray) tup fun h' he hit kp => wpAny_pyIter_enum he ?_
  have J2 : Inv X pins σ H1 { s1 with heap := h' } := J.kept (t' := s1.toks) kp
  refine ⟨s1.heap.objs.size + 1, [s1.heap.objs.size + 1, s1.heap.objs.size], _, _, H1, rfl, J2, turn_enumT a (s1.heap.objs.size + 1) s1.heap.objs.size (Nat.succ_ne_self _) (Nat.ne_of_lt la) (Nat.ne_of_gt (Nat.lt_succ_of_lt la)), ⟨⟨.none, he⟩, hit⟩, fun b hb => ?_, q⟩
  have lb : s1.heap.objs.size ≤ b := by
    rcases List.mem_cons.mp hb with rfl | hb
    · exact Nat.le_succ _
    · rw [List.mem_singleton.mp hb]
      exact Nat.le_refl _
  exact J.fpOk lb (J.hok.fresh lb)
theorem walk_enumT {K : PySem.W.Frag} {a : Addr} {xs : List V} : Walk (ItN K a) xs.length (fun H => SqT K H a xs) (YPair (fun i => some (.int (i : Nat))) (fun i => xs[i]?)) :=
  ⟨fun i H hi h => ⟨xs, xs[i], h, List.getElem?_eq_getElem hi⟩, fun H h => ⟨xs, h, Nat.le_refl _⟩, fun i H x H' hi h y => by
    obtain ⟨T, z, e1, e2, e3, e4⟩ := y
    exact ⟨T, _, z, e1, e2, e3, rfl, e4 xs h⟩⟩
/-! ### the law: the least place that each comes to -/
def lf (f : Int → Int) (n : Nat) : List V := (rng n).map fun i => V.int (f i)
theorem lf_len (f : Int → Int) (n : Nat) : (lf f n).length = n := by unfold lf; rw [List.length_map, rng_length]
theorem lf_get? (f : Int → Int) {n j : Nat} (h : j < n) : (lf f n)[j]? = some (.int (f j)) := by
  unfold lf rng
  rw [List.map_map, List.getElem?_map, List.getElem?_range h]
  rfl
theorem lf_at (f : Int → Int) {n : Nat} {i : Int} (h0 : 0 ≤ i) (h1 : i < n) : atI (lf f n) i = some (.int (f i)) := by
  have e : ((i.toNat : Nat) : Int) = i := by omega
  refine atI_of h0 ?_
  rw [lf_get? f (by omega), e]
theorem lf_set (f : Int → Int) {n : Nat} {i y : Int} (h0 : 0 ≤ i) (h1 : i < n) : (lf f n).set i.toNat (.int y) = lf (fun x => if x = i then y else f x) n := by
  refine List.ext_getElem? fun j => ?_
  rw [List.getElem?_set]
  by_cases hj : j < n
  · by_cases e : i.toNat = j
    · rw [if_pos e, if_pos (by rw [lf_len]; omega), lf_get? _ hj, if_pos (by omega)]
    · rw [if_neg e, lf_get? _ hj, lf_get? _ hj, if_neg (by omega)]
  · have e : i.toNat ≠ j := by omega
    rw [if_neg e, List.getElem?_eq_none (by rw [lf_len]; omega), List.getElem?_eq_none (by rw [lf_len]; omega)]
theorem ixN_of {n : Nat} {i : Int} (h0 : 0 ≤ i) (h1 : i < n) : ixN n i = some i.toNat := by
  unfold ixN
  rw [if_pos (by omega), if_pos (by omega)]
/-! ### stems (mathematics) -/
theorem Rch.mono {ts ts' : List Tie} (h : ∀ t ∈ ts, t ∈ ts') {a b : Int} (r : Rch ts a b) : Rch ts' a b :=
  r.ind (fun x => Rch ts' a x) .refl fun x y k hx ad => by
    obtain ⟨t, ht, e⟩ := ad
    exact hx.trans (Rch.adj (k := k) ⟨t, h t ht, e⟩)
theorem rch_pq {ts : List Tie} {t : Tie} {p q : Int} (h : (p = t.one ∧ q = t.other) ∨ (p = t.other ∧ q = t.one)) : Rch (ts ++ [t]) p q := by
  refine Rch.adj (k := t.foe) ⟨t, List.mem_append_right _ (by simp), rfl, ?_⟩
  rcases h with ⟨h1, h2⟩ | ⟨h1, h2⟩
  · exact .inl ⟨h1.symm, h2.symm⟩
  · exact .inr ⟨h2.symm, h1.symm⟩
theorem rch_snoc {ts : List Tie} {t : Tie} {p q : Int} (h : (p = t.one ∧ q = t.other) ∨ (p = t.other ∧ q = t.one)) {a b : Int} : Rch (ts ++ [t]) a b ↔ Rch ts a b ∨ (Rch ts a p ∧ Rch ts q b) ∨ (Rch ts a q ∧ Rch ts p b) := by
  have up : ∀ {x y : Int}, Rch ts x y → Rch (ts ++ [t]) x y := fun r => r.mono fun t ht => List.mem_append_left _ ht
  constructor
  · intro r
    refine r.ind (fun x => Rch ts a x ∨ (Rch ts a p ∧ Rch ts q x) ∨ (Rch ts a q ∧ Rch ts p x)) (.inl .refl) fun x y k hx ad => ?_
    obtain ⟨t', ht, e1, e2⟩ := ad
    rcases List.mem_append.mp ht with ht | ht
    · have st : Rch ts x y := Rch.adj (k := k) ⟨t', ht, e1, e2⟩
      rcases hx with h1 | ⟨h1, h2⟩ | ⟨h1, h2⟩
      · exact .inl (h1.trans st)
      · exact .inr (.inl ⟨h1, h2.trans st⟩)
      · exact .inr (.inr ⟨h1, h2.trans st⟩)
    · rw [List.mem_singleton] at ht
      subst ht
      have xy : (x = p ∧ y = q) ∨ (x = q ∧ y = p) := by
        rcases e2 with ⟨e2, e3⟩ | ⟨e2, e3⟩ <;> rcases h with ⟨h1, h2⟩ | ⟨h1, h2⟩
        · exact .inl ⟨by omega, by omega⟩
        · exact .inr ⟨by omega, by omega⟩
        · exact .inr ⟨by omega, by omega⟩
        · exact .inl ⟨by omega, by omega⟩
      rcases xy with ⟨rfl, rfl⟩ | ⟨rfl, rfl⟩
      · rcases hx with h1 | ⟨h1, h2⟩ | ⟨h1, h2⟩
        · exact .inr (.inl ⟨h1, .refl⟩)
        · exact .inr (.inl ⟨h1, .refl⟩)
        · exact .inl h1
      · rcases hx with h1 | ⟨h1, h2⟩ | ⟨h1, h2⟩
        · exact .inr (.inr ⟨h1, .refl⟩)
        · exact .inl h1
        · exact .inr (.inr ⟨h1, .refl⟩)
  · rintro (h1 | ⟨h1, h2⟩ | ⟨h1, h2⟩)
    · exact up h1
    · exact (up h1).trans ((rch_pq h).trans (up h2))
    · exact (up h1).trans ((rch_pq h).symm.trans (up h2))
theorem rch_nil {a b : Int} (h : Rch [] a b) : a = b := h.ind (fun x => a = x) rfl fun x y k _ ad => by
  obtain ⟨t, ht, _⟩ := ad
  simp at ht
def tieN (ts : List Tie) (k : Nat) : Tie := ts.getD k ⟨0, 0, false⟩
theorem tieN_of {ts : List Tie} {k : Nat} {t : Tie} (h : ts[k]? = some t) : tieN ts k = t := by
  unfold tieN
  rw [List.getD_eq_getElem?_getD, h]
  rfl
open Classical in
noncomputable def stemB (ts : List Tie) (k : Nat) : Bool := decide (¬ Rch (ts.take k) (tieN ts k).one (tieN ts k).other)
noncomputable def stemsTo (ts : List Tie) (k : Nat) : List Int := (rng k).filter fun i => stemB ts i.toNat
theorem stemsTo_succ (ts : List Tie) (k : Nat) : stemsTo ts (k + 1) = stemsTo ts k ++ (if stemB ts k = true then [(k : Int)] else []) := by
  unfold stemsTo
  rw [rng_succ, List.filter_append, List.filter_cons, Int.toNat_natCast]
  rfl
theorem stemsTo_len (ts : List Tie) (k : Nat) : (stemsTo ts k).length ≤ k := by
  unfold stemsTo
  have := List.length_filter_le (fun i => stemB ts i.toNat) (rng k)
  rw [rng_length] at this
  exact this
open Classical in
theorem stem_iff {ts : List Tie} {k : Nat} {t : Tie} (h : ts[k]? = some t) : stemB ts k = true ↔ ¬ Rch (ts.take k) t.one t.other := by
  unfold stemB
  rw [tieN_of h]
  exact decide_eq_true_iff
theorem take_snoc {α : Type} {ts : List α} {k : Nat} {t : α} (h : ts[k]? = some t) : ts.take (k + 1) = ts.take k ++ [t] := by
  rw [List.take_add_one, h]
  rfl
/-- labels: alike just where ties lead -/
def Lab (ts : List Tie) (n : Nat) (g : Int → Int) : Prop := ∀ i j : Int, 0 ≤ i → i < n → 0 ≤ j → j < n → (g i = g j ↔ Rch ts i j)
def mrg (g : Int → Int) (old new : Int) : Int → Int := fun x => if g x = old then new else g x
theorem lab_nil (n : Nat) : Lab [] n (fun i => i) := fun i j _ _ _ _ => ⟨fun h => by rw [show i = j from h]; exact .refl, fun h => rch_nil h⟩
theorem lab_same {ts : List Tie} {n : Nat} {g : Int → Int} {t : Tie} (h : Lab ts n g) (ok : TieOk n t) (e : g t.one = g t.other) : Lab (ts ++ [t]) n g := fun i j i0 i1 j0 j1 => by
  obtain ⟨o1, o2, o3, o4, _⟩ := ok
  have r : Rch ts t.one t.other := (h _ _ o1 o2 o3 o4).mp e
  rw [rch_snoc (.inl ⟨rfl, rfl⟩), h i j i0 i1 j0 j1]
  constructor
  · exact .inl
  · rintro (h1 | ⟨h1, h2⟩ | ⟨h1, h2⟩)
    · exact h1
    · exact h1.trans (r.trans h2)
    · exact h1.trans (r.symm.trans h2)
theorem lab_step {ts : List Tie} {n : Nat} {g : Int → Int} {t : Tie} {p q : Int} (h : Lab ts n g) (ok : TieOk n t) (e : (p = t.one ∧ q = t.other) ∨ (p = t.other ∧ q = t.one)) : Lab (ts ++ [t]) n (mrg g (g p) (g q)) := fun i j i0 i1 j0 j1 => by
  have pr : (0 ≤ p ∧ p < n) ∧ (0 ≤ q ∧ q < n) := by
    obtain ⟨o1, o2, o3, o4, _⟩ := ok
    rcases e with ⟨rfl, rfl⟩ | ⟨rfl, rfl⟩
    · exact ⟨⟨o1, o2⟩, o3, o4⟩
    · exact ⟨⟨o3, o4⟩, o1, o2⟩
  obtain ⟨⟨p0, p1⟩, q0, q1⟩ := pr
  rw [rch_snoc e]
  unfold mrg
  have ip := h i p i0 i1 p0 p1
  have jp := h j p j0 j1 p0 p1
  have iq := h i q i0 i1 q0 q1
  have jq := h j q j0 j1 q0 q1
  have ij := h i j i0 i1 j0 j1
  by_cases hi : g i = g p <;> by_cases hj : g j = g p
  · rw [if_pos hi, if_pos hj]
    exact ⟨fun _ => .inl (ij.mp (hi.trans hj.symm)), fun _ => rfl⟩
  · rw [if_pos hi, if_neg hj]
    constructor
    · intro z
      exact .inr (.inl ⟨ip.mp hi, (jq.mp z.symm).symm⟩)
    · rintro (z | ⟨_, z⟩ | ⟨_, z⟩)
      · exact absurd ((ij.mpr z).symm.trans hi) hj
      · exact (jq.mpr z.symm).symm
      · exact absurd (jp.mpr z.symm) hj
  · rw [if_neg hi, if_pos hj]
    constructor
    · intro z
      exact .inr (.inr ⟨iq.mp z, (jp.mp hj).symm⟩)
    · rintro (z | ⟨z, _⟩ | ⟨z, _⟩)
      · exact absurd ((ij.mpr z).trans hj) hi
      · exact absurd (ip.mpr z) hi
      · exact iq.mpr z
  · rw [if_neg hi, if_neg hj]
    constructor
    · intro z
      exact .inl (ij.mp z)
    · rintro (z | ⟨z, _⟩ | ⟨_, z⟩)
      · exact ij.mpr z
      · exact absurd (ip.mpr z) hi
      · exact absurd (jp.mpr z.symm) hj
/-- heads: labels that are places of their own; how many -/
structure Heads (ts : List Tie) (n i : Nat) (g : Int → Int) : Prop where
  lab : Lab (ts.take i) n g
  rng : ∀ x : Int, 0 ≤ x → x < n → 0 ≤ g x ∧ g x < n
  idem : ∀ x : Int, 0 ≤ x → x < n → g (g x) = g x
  cnt : ((FF.rng n).filter fun x => decide (g x = x)).length + (stemsTo ts i).length = n
theorem heads_nil (ts : List Tie) (n : Nat) : Heads ts n 0 (fun i => i) := by
  refine ⟨by rw [List.take_zero]; exact lab_nil n, fun x h0 h1 => ⟨h0, h1⟩, fun x _ _ => rfl, ?_⟩
  have e : ((FF.rng n).filter fun x => decide (x = x)) = FF.rng n := by
    rw [List.filter_eq_self]
    intro x _
    exact decide_eq_true rfl
  show ((FF.rng n).filter fun x => decide (x = x)).length + 0 = n
  rw [e, rng_length, Nat.add_zero]
theorem filter_drop {p q : Int → Bool} {h : Int} : ∀ {l : List Int}, l.Nodup → h ∈ l → p h = true → (∀ x ∈ l, q x = (p x && decide (x ≠ h))) → (l.filter q).length + 1 = (l.filter p).length
  | x :: l, nd, hm, hp, hq => by
    rw [List.nodup_cons] at nd
    have hx := hq x (by simp)
    rw [List.filter_cons, List.filter_cons, hx]
    by_cases e : x = h
    · subst e
      have same : l.filter q = l.filter p := List.filter_congr fun y hy => by
        rw [hq y (List.mem_cons_of_mem _ hy), decide_eq_true (show y ≠ x from fun z => nd.1 (by rw [← z]; exact hy)), Bool.and_true]
      rw [same, hp]
      simp
    · have hm' : h ∈ l := (List.mem_cons.mp hm).elim (fun z => absurd z.symm e) id
      have ih := filter_drop (l := l) nd.2 hm' hp fun y hy => hq y (List.mem_cons_of_mem _ hy)
      rw [decide_eq_true (show x ≠ h from e), Bool.and_true]
      cases p x
      · simpa using ih
      · simp
        omega
theorem heads_same {ts : List Tie} {n i : Nat} {g : Int → Int} {t : Tie} (h : Heads ts n i g) (et : ts[i]? = some t) (ok : TieOk n t) (e : g t.one = g t.other) : Heads ts n (i + 1) g := by
  refine ⟨by rw [take_snoc et]; exact lab_same h.lab ok e, h.rng, h.idem, ?_⟩
  have no : ¬ stemB ts i = true := fun z => (stem_iff et).mp z ((h.lab _ _ ok.1 ok.2.1 ok.2.2.1 ok.2.2.2.1).mp e)
  rw [stemsTo_succ, if_neg no, List.append_nil]
  exact h.cnt
theorem heads_step {ts : List Tie} {n i : Nat} {g : Int → Int} {t : Tie} {p q : Int} (h : Heads ts n i g) (et : ts[i]? = some t) (ok : TieOk n t) (e : (p = t.one ∧ q = t.other) ∨ (p = t.other ∧ q = t.one)) (ne : g p ≠ g q) : Heads ts n (i + 1) (mrg g (g p) (g q)) := by
  have pr : (0 ≤ p ∧ p < n) ∧ (0 ≤ q ∧ q < n) := by
    obtain ⟨o1, o2, o3, o4, _⟩ := ok
    rcases e with ⟨rfl, rfl⟩ | ⟨rfl, rfl⟩
    · exact ⟨⟨o1, o2⟩, o3, o4⟩
    · exact ⟨⟨o3, o4⟩, o1, o2⟩
  obtain ⟨⟨p0, p1⟩, q0, q1⟩ := pr
  have gp := h.rng p p0 p1
  have gq := h.rng q q0 q1
  have ip := h.idem p p0 p1
  have iq := h.idem q q0 q1
  refine ⟨by rw [take_snoc et]; exact lab_step h.lab ok e, fun x x0 x1 => ?_, fun x x0 x1 => ?_, ?_⟩
  · unfold mrg
    split
    · exact gq
    · exact h.rng x x0 x1
  · have ix := h.idem x x0 x1
    by_cases hx : g x = g p
    · have e1 : mrg g (g p) (g q) x = g q := if_pos hx
      rw [e1]
      show (if g (g q) = g p then g q else g (g q)) = g q
      rw [iq, if_neg (Ne.symm ne)]
    · have e1 : mrg g (g p) (g q) x = g x := if_neg hx
      rw [e1]
      show (if g (g x) = g p then g q else g (g x)) = g x
      rw [ix, if_neg hx]
  · have yes : stemB ts i = true := (stem_iff et).mpr fun z => by
      have hl := (h.lab _ _ ok.1 ok.2.1 ok.2.2.1 ok.2.2.2.1).mpr z
      rcases e with ⟨rfl, rfl⟩ | ⟨rfl, rfl⟩
      · exact ne hl
      · exact ne hl.symm
    have drop := filter_drop (p := fun x => decide (g x = x)) (q := fun x => decide (mrg g (g p) (g q) x = x)) (h := g p) (l := FF.rng n) ((rng_rising n).imp fun h => by omega) (mem_rng.mpr gp) (decide_eq_true ip) (fun x hx => ?_)
    · rw [stemsTo_succ, if_pos yes, List.length_append]
      have := h.cnt
      simp only [List.length_cons, List.length_nil]
      omega
    · have xr := mem_rng.mp hx
      rw [Bool.eq_iff_iff, Bool.and_eq_true, decide_eq_true_iff, decide_eq_true_iff, decide_eq_true_iff]
      show (if g x = g p then g q else g x) = x ↔ _
      by_cases hx : g x = g p
      · rw [if_pos hx]
        constructor
        · intro z
          exact absurd (by rw [← z, iq] at hx; exact hx.symm) ne
        · rintro ⟨z1, z2⟩
          exact absurd (z1.symm.trans hx) z2
      · rw [if_neg hx]
        exact ⟨fun z => ⟨z, fun y => hx (by rw [y]; exact ip)⟩, fun z => z.1⟩
/-- stems are told by the places of the ties alone -/
theorem rch_frames : ∀ {ts us : List Tie}, ts.length = us.length → (∀ (i : Nat) t u, ts[i]? = some t → us[i]? = some u → (u.one = t.one ∧ u.other = t.other) ∨ (u.one = t.other ∧ u.other = t.one)) → ∀ {a b : Int}, Rch ts a b → Rch us a b := by
  intro ts us hl h a b r
  refine r.ind (fun x => Rch us a x) .refl fun x y k hx ad => ?_
  obtain ⟨t, ht, _, e⟩ := ad
  obtain ⟨i, hi, rfl⟩ := List.getElem_of_mem ht
  have hu : us[i]? = some us[i] := List.getElem?_eq_getElem (by omega)
  have w := h i _ _ (List.getElem?_eq_getElem hi) hu
  refine hx.trans (Rch.adj (k := us[i].foe) ⟨us[i], List.getElem_mem _, rfl, ?_⟩)
  rcases w with ⟨w1, w2⟩ | ⟨w1, w2⟩ <;> rcases e with ⟨e1, e2⟩ | ⟨e1, e2⟩
  · exact .inl ⟨by omega, by omega⟩
  · exact .inr ⟨by omega, by omega⟩
  · exact .inr ⟨by omega, by omega⟩
  · exact .inl ⟨by omega, by omega⟩
def Framed (ts us : List Tie) : Prop := ts.length = us.length ∧ ∀ (i : Nat) t u, ts[i]? = some t → us[i]? = some u → (u.one = t.one ∧ u.other = t.other) ∨ (u.one = t.other ∧ u.other = t.one)
theorem Framed.symm {ts us : List Tie} (h : Framed ts us) : Framed us ts := ⟨h.1.symm, fun i u t e1 e2 => by
  rcases h.2 i t u e2 e1 with ⟨w1, w2⟩ | ⟨w1, w2⟩
  · exact .inl ⟨w1.symm, w2.symm⟩
  · exact .inr ⟨w2.symm, w1.symm⟩⟩
theorem Framed.take {ts us : List Tie} (h : Framed ts us) (k : Nat) : Framed (ts.take k) (us.take k) := by
  refine ⟨by rw [List.length_take, List.length_take, h.1], fun i t u e1 e2 => ?_⟩
  by_cases hk : i < k
  · rw [List.getElem?_take_of_lt hk] at e1 e2
    exact h.2 i t u e1 e2
  · rw [List.getElem?_take] at e1
    rw [if_neg hk] at e1
    cases e1
theorem Framed.map {ts : List Tie} {f : Tie → Tie} (h : ∀ t ∈ ts, ((f t).one = t.one ∧ (f t).other = t.other) ∨ ((f t).one = t.other ∧ (f t).other = t.one)) : Framed ts (ts.map f) := by
  refine ⟨by rw [List.length_map], fun i t u e1 e2 => ?_⟩
  rw [List.getElem?_map, e1] at e2
  cases e2
  exact h t (List.mem_of_getElem? e1)
theorem stems_framed {ts us : List Tie} (h : Framed ts us) : stemsTo us us.length = stemsTo ts ts.length := by
  unfold stemsTo
  rw [← h.1]
  refine List.filter_congr fun i hi => ?_
  have ir := mem_rng.mp hi
  have e1 : ts[i.toNat]? = some ts[i.toNat] := List.getElem?_eq_getElem (by omega)
  have l := h.1
  have e2 : us[i.toNat]? = some us[i.toNat] := List.getElem?_eq_getElem (by omega)
  have ht := h.take i.toNat
  rw [Bool.eq_iff_iff, stem_iff e1, stem_iff e2]
  have both : ∀ a b : Int, Rch (ts.take i.toNat) a b ↔ Rch (us.take i.toNat) a b := fun a b => ⟨fun r => rch_frames ht.1 ht.2 r, fun r => rch_frames ht.symm.1 ht.symm.2 r⟩
  rcases h.2 _ _ _ e1 e2 with ⟨w1, w2⟩ | ⟨w1, w2⟩
  · rw [w1, w2, both]
  · rw [w1, w2, both]
    exact ⟨fun z y => z y.symm, fun z y => z y.symm⟩
theorem stemsTo_rising (ts : List Tie) (k : Nat) : (stemsTo ts k).Pairwise (· < ·) := (rng_rising k).filter _
theorem stemsTo_mem {ts : List Tie} {k : Nat} {i : Int} : i ∈ stemsTo ts k ↔ (0 ≤ i ∧ i < k) ∧ stemB ts i.toNat = true := by
  unfold stemsTo
  rw [List.mem_filter, mem_rng]
theorem stems_own (ts : List Tie) : stemsTo ((stemsTo ts ts.length).map fun i => tieN ts i.toNat) (stemsTo ts ts.length).length = rng (stemsTo ts ts.length).length := by
  generalize hS : stemsTo ts ts.length = S
  unfold stemsTo
  rw [List.filter_eq_self]
  intro j hj
  have jr := mem_rng.mp hj
  have hjl : j.toNat < S.length := by omega
  have ej : (S.map fun i => tieN ts i.toNat)[j.toNat]? = some (tieN ts S[j.toNat].toNat) := by
    rw [List.getElem?_map, List.getElem?_eq_getElem hjl]
    rfl
  have hm : S[j.toNat] ∈ stemsTo ts ts.length := by rw [hS]; exact List.getElem_mem _
  obtain ⟨⟨m0, m1⟩, mb⟩ := stemsTo_mem.mp hm
  have et : ts[S[j.toNat].toNat]? = some (tieN ts S[j.toNat].toNat) := by
    have h : S[j.toNat].toNat < ts.length := by omega
    rw [List.getElem?_eq_getElem h, tieN_of (List.getElem?_eq_getElem h)]
  rw [stem_iff ej]
  rw [stem_iff et] at mb
  refine fun r => mb (r.mono fun t ht => ?_)
  rw [← List.map_take, List.mem_map] at ht
  obtain ⟨x, hx, rfl⟩ := ht
  obtain ⟨a, ha, rfl⟩ := List.getElem_of_mem hx
  rw [List.length_take] at ha
  rw [List.getElem_take]
  have hx' : S[a] ∈ stemsTo ts ts.length := by rw [hS]; exact List.getElem_mem _
  obtain ⟨⟨x0, x1⟩, _⟩ := stemsTo_mem.mp hx'
  have rise : S.Pairwise (· < ·) := by rw [← hS]; exact stemsTo_rising _ _
  have lt : S[a] < S[j.toNat] := List.pairwise_iff_getElem.mp rise a j.toNat (by omega) hjl (by omega)
  have h : S[a].toNat < ts.length := by omega
  rw [tieN_of (List.getElem?_eq_getElem h)]
  rw [List.mem_iff_getElem]
  exact ⟨S[a].toNat, by rw [List.length_take]; omega, by rw [List.getElem_take]⟩
theorem Same.mut {H H' : Hp} {a : Addr} {o : HO} (s : Same H H') (h : H a = none) : Same H (upd H' a o) := fun b x e => by
  rw [upd_ne (ne_of_none e h)]
  exact s b x e
theorem paired_set {α β : Type} {F : α → β → Prop} : ∀ {l : List α} {m : List β} {j : Nat} {x : α} {y : β}, Paired F l m → F x y → Paired F (l.set j x) (m.set j y)
  | _, _, _, _, _, .nil, _ => by simp; exact .nil
  | _, _, 0, _, _, .cons _ t, h => .cons h t
  | _, _, j + 1, _, _, .cons r t, h => .cons r (paired_set (j := j) t h)
/-! ### k15: the web -/
def spKind15 : Sp := fun vs H Q _ => ∃ (S : Addr) (ys : List Int) (x y : Int), vs = [.ref S, .int x, .int y] ∧ H S = some (.lst (ys.map V.int)) ∧ (0 ≤ x ∧ x < (ys.length : Int)) ∧ (0 ≤ y ∧ y < (ys.length : Int)) ∧ ∀ (b : Bool) H', Same H H' → Q (.str (kindS b)) H'
def spEnds : Sp := fun vs H Q _ => ∃ (d L : Addr) (b : Nat) (n : Nat) (us : List V) (ts : List Tie), vs = [.ref d, .int n, .ref L] ∧ Well H d b ∧ b < 2 ^ 55 ∧ 2 ≤ n ∧ n ≤ 40 ∧ H L = some (.lst us) ∧ L ≠ d ∧ us.length ≤ 200 ∧ Paired (TieV H) us ts ∧ (∀ t ∈ ts, TieOk n t) ∧ ∀ r x y H', H' r = some (.tup [.int x, .int y]) → TieOk n ⟨x, y, false⟩ → Well H' d (b + 5) → Kp d d H H' → Q (.ref r) H'
theorem pickK (v : Int) (h0 : 0 ≤ v) (h1 : v < 2) : ∃ fo : Bool, atI [V.str "friend", V.str "foe"] v = some (.str (kindS fo)) := by
  have h01 : v = 0 ∨ v = 1 := by omega
  rcases h01 with e | e <;> subst e
  · exact ⟨false, rfl⟩
  · exact ⟨true, rfl⟩
section
variable {P : Program} {w : World} {K : PySem.W.Frag} {mg : Str → Option Value} {base : Heap}
theorem ok_l_kind {f : Addr} {fd : FuncData} (F : Fun K "_law_kind" "_law_kind" s_l_kind f fd) (M : Free mg) : FnOk P w K mg base CX0 1 f fd ["_law_sides", "_law_one", "_law_other"] spKind15 := by
  refine F.ok sc_l_kind (fun vs H Q E h => ?_) (fun cdv A outer s H vs Q E hr h => ?_)
  · obtain ⟨S, ys, x, y, rfl, _⟩ := h
    rfl
  · obtain ⟨S, ys, x, y, rfl, hS, hx, hy, q⟩ := h
    refine ⟨_, (pss_one (ps_ret (pe_ix ix_list (pe_lst (pa_cons pe_str (pa_cons pe_str pa_nil))) (pe_callTy call_int1 (by rfl) M.int (by decide +kernel) (pa_cons (pe_cmpR op_ne (pe_ix ix_list (pv 0) (pv 1) (fun _ _ => rfl)) (pe_ix ix_list (pv 0) (pv 2) (fun _ _ => rfl)) (nomark _)) pa_nil)) (fun _ _ => rfl)))), ?_⟩
    refine ⟨by show 2 ≤ sizeLine; decide, fun p np => ?_⟩
    have ep := same_new (o := .lst [.str "friend", .str "foe"]) np
    obtain ⟨a, _, _, ea⟩ := atI_ints (xs := ys) hx.1 hx.2
    obtain ⟨b, _, _, eb⟩ := atI_ints (xs := ys) hy.1 hy.2
    refine ⟨.ref S, rfl, .int x, rfl, S, _, x, _, rfl, rfl, SqL.of (ep _ _ hS), ea, .ref S, rfl, .int y, rfl, S, _, y, _, rfl, rfl, SqL.of (ep _ _ hS), eb, rfl, .inr ⟨_, rfl, p, _, _, _, rfl, rfl, SqL.of upd_same, pick2 _ _ _, ?_⟩⟩
    generalize (!decide (V.int a = V.int b)) = c
    have := q c _ ep
    cases c <;> exact this
theorem ok_l_ends {f : Addr} {fd : FuncData} (F : Fun K "_law_ends" "_law_ends" s_l_ends f fd) (M : Free mg) (D_l_draw : Df P w K mg base 1 "_law_draw" ["_law_well_here", "_law_many"] spDraw) : FnOk P w K mg base CX0 2 f fd ["_law_well_here", "_law_many", "_law_ties"] spEnds := by
  obtain ⟨f_l_draw, fd_l_draw, G_l_draw, g_l_draw, k_l_draw, b_l_draw⟩ := D_l_draw
  refine F.ok sc_l_ends (fun vs H Q E h => ?_) (fun cdv A outer s H vs Q E hr h => ?_)
  · obtain ⟨d, L, b, n, us, ts, rfl, _⟩ := h
    rfl
  · obtain ⟨d, L, b, n, us, ts, rfl, hD, hB, n2, n40, hL, hLd, few, hp, ok, q⟩ := h
    refine ⟨_, (pss_cons (ps_set (i := 3) sc_l_ends.nd rfl (.inl rfl) (pe_call G_l_draw (hr.mono (by decide)) (by rfl) g_l_draw k_l_draw b_l_draw .nil pass0 (pa_cons (pv 0) (pa_cons (pv 1) pa_nil))))
      (pss_cons (ps_set (i := 4) sc_l_ends.nd rfl (.inl rfl) (pe_op op_mod (pe_op op_add (pe_op op_add (pv 3) pe_int) (pe_call G_l_draw (hr.mono (by decide)) (by rfl) g_l_draw k_l_draw b_l_draw .nil pass0 (pa_cons (pv 0) (pa_cons (pe_op op_sub (pv 1) pe_int) pa_nil)))) (pv 1)))
      (Evl.pss_cut (ps_if (PW.pt (pw_and (pt_cmpR (op_neE hr.units0) (pv 2) (pe_lst pa_nil) (nomark _)) (pw_and1 (pt_cmpR op_eq (pe_call G_l_draw (hr.mono (by decide)) (by rfl) g_l_draw k_l_draw b_l_draw .nil pass0 (pa_cons (pv 0) (pa_cons pe_int pa_nil))) pe_int (nomark _)))))
        (pss_cons (ps_asg (pe_slice sl_tupU (pe_ix ix_list (pv 2) (pe_call G_l_draw (hr.mono (by decide)) (by rfl) g_l_draw k_l_draw b_l_draw .nil pass0 (pa_cons (pv 0) (pa_cons (pe_callB call_len_seq (by rfl) M.len PySem.boot_len (pa_cons (pv 2) pa_nil)) pa_nil))) (fun _ _ => rfl)) po_none (po_some pe_int)) (pg_tup rfl (pgs_cons (pg_name (i := 3) sc_l_ends.nd rfl (.inl rfl)) (pgs_cons (pg_name (i := 4) sc_l_ends.nd rfl (.inl rfl)) pgs_nil))))
        (pss_one (ps_if (pt_cmpR op_eq (pe_call G_l_draw (hr.mono (by decide)) (by rfl) g_l_draw k_l_draw b_l_draw .nil pass0 (pa_cons (pv 0) (pa_cons pe_int pa_nil))) pe_int (nomark _))
          (pss_one (ps_par (i := 3) (j := 4) rfl sc_l_ends.nd rfl rfl (by decide) rfl rfl (pa_cons (pv 4) (pa_cons (pv 3) pa_nil)) rfl))
          pss_nil)))
        pss_nil)
      (pss_one (ps_ret (pe_tup (pa_cons (pv 3) (pa_cons (pv 4) pa_nil)))))))), ?_⟩
    have lu : us.length = ts.length := Paired.length hp
    refine ⟨.ref d, rfl, .int n, rfl, d, b, n, rfl, hD, by omega, by omega, by omega, fun v1 H1 a1 b1 D1 K1 => ?_⟩
    refine ⟨.int v1, rfl, v1, 1, rfl, rfl, .ref d, rfl, .int n, rfl, n, 1, rfl, rfl, d, _, (n : Int) - 1, rfl, D1, by omega, by omega, by omega, fun v2 H2 a2 b2 D2 K2 => ⟨v1 + 1, v2, rfl, rfl, .int n, rfl, _, n, rfl, rfl, show (0 : Int) < n by omega, ?_⟩⟩
    have ok1 : TieOk n ⟨v1, (v1 + 1 + v2) % n, false⟩ := ⟨a1, b1, (mod_rng (by omega)).1, (mod_rng (by omega)).2, other_ne a1 b1 a2 b2⟩
    have K12 := K1.trans K2
    have tk2 := (K1.tk hD).trans (K2.tk D1)
    have hL2 := K12 _ _ hLd hLd hL
    have hp2 := ties_tk tk2 hp
    refine ⟨fun σ' H' => ∃ x y : Int, σ' = [some (.ref d), some (.int n), some (.ref L), some (.int x), some (.int y)] ∧ TieOk n ⟨x, y, false⟩ ∧ Well H' d (b + 5) ∧ Kp d d H H', ?_, ?_⟩
    · refine ⟨.ref L, rfl, Nat.zero_le _, fun Z nZ => ⟨L, Z, us, rfl, rfl, SqL.of (same_new nZ _ _ hL2), SqL.of upd_same, _, rfl, ?_⟩⟩
      have eZ := same_new (o := .lst []) nZ
      by_cases hu : us = []
      · subst hu
        exact ⟨_, _, rfl, ok1, (D2.same eZ).mono (by omega), K12.trans (Same.kp eZ)⟩
      have hpos : 0 < us.length := List.length_pos_iff.mpr hu
      rw [show (!us.isEmpty) = true from by cases us; exact absurd rfl hu; rfl]
      refine ⟨.ref d, rfl, d, _, 4, rfl, D2.same eZ, by omega, by decide, by decide, fun v3 H3 a3 b3 D3 K3 => ⟨rfl, _, rfl, ?_⟩⟩
      have K13 := (K12.trans (Same.kp eZ)).trans K3
      have hL3 := K13 _ _ hLd hLd hL
      have hp3 := ties_tk (K3.tk (D2.same eZ)) (ties_tk (Same.tk eZ) hp2)
      refine ite2 (fun _ => ?_) (fun _ => ⟨_, _, rfl, ok1, D3.mono (by omega), K13⟩)
      refine ⟨.ref L, rfl, .ref d, rfl, .ref L, rfl, L, us, rfl, .inl (SqL.of hL3), d, _, (us.length : Int), rfl, D3, by omega, by omega, by omega, fun v4 H4 a4 b4 D4 K4 => ?_⟩
      have K14 := K13.trans K4
      have hL4 := K14 _ _ hLd hLd hL
      have hp4 := ties_tk (K4.tk D3) hp3
      obtain ⟨u, e1, e2⟩ := getI a4 b4
      obtain ⟨t, e3, c, rfl, hc⟩ := Paired.at hp4 e2
      have okt := ok t (List.mem_of_getElem? e3)
      refine ⟨L, us, v4, .ref c, rfl, rfl, SqL.of hL4, e1, 2, rfl, c, _, rfl, hc, fun r5 H5 s5 h5 => ?_⟩
      have h5 : H5 r5 = some (.tup [.int t.one, .int t.other]) := h5
      refine ⟨r5, _, rfl, SqT.of h5, rfl, _, _, rfl, _, _, rfl, rfl, ?_⟩
      refine ⟨.ref d, rfl, d, _, 2, rfl, D4.same s5, by omega, by decide, by decide, fun v6 H6 a6 b6 D6 K6 => ⟨rfl, _, rfl, ?_⟩⟩
      have K16 := (K14.trans (Same.kp s5)).trans K6
      refine ite2 (fun _ => ?_) (fun _ => ⟨_, _, rfl, okt, D6, K16⟩)
      exact ⟨_, rfl, _, rfl, _, _, rfl, _, _, rfl, ⟨okt.2.2.1, okt.2.2.2.1, okt.1, okt.2.1, Ne.symm okt.2.2.2.2⟩, D6, K16⟩
    rintro σ' H3 ⟨x, y, rfl, okt, D3, K3⟩
    refine ⟨.int x, rfl, .int y, rfl, by show 2 ≤ sizeLine; decide, fun r nr => ?_⟩
    have er := same_new (o := .tup [.int x, .int y]) nr
    exact q r x y _ upd_same okt (D3.same er) (K3.trans (Same.kp er))
theorem ok_l_web {f : Addr} {fd : FuncData} (F : Fun K "_law_web" "_law_web" s_l_web f fd) (M : Free mg) (D_l_draw : Df P w K mg base 1 "_law_draw" ["_law_well_here", "_law_many"] spDraw) (D_l_ends : Df P w K mg base 2 "_law_ends" ["_law_well_here", "_law_many", "_law_ties"] spEnds) (D_l_kind : Df P w K mg base 1 "_law_kind" ["_law_sides", "_law_one", "_law_other"] spKind15) : FnOk P w K mg base CX0 3 f fd ["_law_well_here"] spWeb := by
  obtain ⟨f_l_draw, fd_l_draw, G_l_draw, g_l_draw, k_l_draw, b_l_draw⟩ := D_l_draw
  obtain ⟨f_l_ends, fd_l_ends, G_l_ends, g_l_ends, k_l_ends, b_l_ends⟩ := D_l_ends
  obtain ⟨f_l_kind, fd_l_kind, G_l_kind, g_l_kind, k_l_kind, b_l_kind⟩ := D_l_kind
  refine F.ok sc_l_web (fun vs H Q E h => ?_) (fun cdv A outer s H vs Q E hr h => ?_)
  · obtain ⟨d, b, rfl, _⟩ := h
    rfl
  · obtain ⟨d, b, rfl, hD, hB, q⟩ := h
    refine ⟨_, (Evl.pss_cut (ps_set (i := 1) sc_l_web.nd rfl (.inl rfl) (pe_op op_add pe_int (pe_call G_l_draw (hr.mono (by decide)) (by rfl) g_l_draw k_l_draw b_l_draw .nil pass0 (pa_cons (pv 0) (pa_cons pe_int pa_nil)))))
      (pss_cons (ps_set (i := 2) sc_l_web.nd rfl (.inl rfl) (pe_call G_l_draw (hr.mono (by decide)) (by rfl) g_l_draw k_l_draw b_l_draw .nil pass0 (pa_cons (pv 0) (pa_cons pe_int pa_nil))))
      (Evl.pss_cut (ps_if (pt_cmpR op_eq (pe_call G_l_draw (hr.mono (by decide)) (by rfl) g_l_draw k_l_draw b_l_draw .nil pass0 (pa_cons (pv 0) (pa_cons pe_int pa_nil))) pe_int (nomark _))
        (pss_cons (ps_set (i := 1) sc_l_web.nd rfl (.inl rfl) (pe_op op_add pe_int (pe_call G_l_draw (hr.mono (by decide)) (by rfl) g_l_draw k_l_draw b_l_draw .nil pass0 (pa_cons (pv 0) (pa_cons pe_int pa_nil)))))
        (pss_one (ps_set (i := 2) sc_l_web.nd rfl (.inl rfl) (pe_call G_l_draw (hr.mono (by decide)) (by rfl) g_l_draw k_l_draw b_l_draw .nil pass0 (pa_cons (pv 0) (pa_cons pe_int pa_nil))))))
        pss_nil)
      (pss_cons (ps_set (i := 3) sc_l_web.nd rfl (.inl rfl) (pe_call G_l_draw (hr.mono (by decide)) (by rfl) g_l_draw k_l_draw b_l_draw .nil pass0 (pa_cons (pv 0) (pa_cons pe_int pa_nil))))
      (Evl.pss_cut (ps_setLc (i := 4) (own := [("_law_place", 5)]) (g := (gName 5)) (tt := tYes) rfl sc_l_web.nd rfl rfl (sw_true rfl rfl rfl (by decide +kernel)) (pi_range1 (by rfl) M.range (pa_cons (pv 1) pa_nil)) (blkOk_by (N := N_l_web) (sc := defScope s_l_web) (own := [("_law_place", 5)]) (by decide +kernel)) (fun _ _ _ _ _ => (pg_name (i := 5) sc_l_web.nd rfl (.inl rfl))) (fun _ _ _ _ _ => pts_nil) (fun _ _ _ _ _ => (pe_call G_l_draw (hr.mono (by decide)) (by rfl) g_l_draw k_l_draw b_l_draw .nil pass0 (pa_cons (pv 0) (pa_cons pe_int pa_nil)))))
      (pss_cons (ps_set (i := 6) sc_l_web.nd rfl (.inl rfl) (pe_lst pa_nil))
      (Evl.pss_cut (ps_for PassesOwn.never rfl (pi_range1 (by rfl) M.range (pa_cons (pe_op op_mul (pv 2) (pe_callTy call_int1 (by rfl) M.int (by decide +kernel) (pa_cons (pe_cmpR op_gt (pv 1) pe_int (nomark _)) pa_nil))) pa_nil)) (pg_name (i := 7) sc_l_web.nd rfl (.inl rfl))
        (Evl.pss_cut (ps_asg (pe_call G_l_ends (hr.mono (by decide)) (by rfl) g_l_ends k_l_ends b_l_ends .nil pass0 (pa_cons (pv 0) (pa_cons (pv 1) (pa_cons (pv 6) pa_nil)))) (pg_tup rfl (pgs_cons (pg_name (i := 8) sc_l_web.nd rfl (.inl rfl)) (pgs_cons (pg_name (i := 9) sc_l_web.nd rfl (.inl rfl)) pgs_nil))))
        (pss_cons (ps_set (i := 10) sc_l_web.nd rfl (.inl rfl) (pe_call G_l_kind (hr.mono (by decide)) (by rfl) g_l_kind k_l_kind b_l_kind .nil pass0 (pa_cons (pv 4) (pa_cons (pv 8) (pa_cons (pv 9) pa_nil)))))
        (Evl.pss_cut (ps_if (pt_cmpR op_lt (pv 3) pe_int (nomark _))
          (pss_one (ps_set (i := 10) sc_l_web.nd rfl (.inl rfl) (pe_ix ix_list (pe_lst (pa_cons pe_str (pa_cons pe_str pa_nil))) (pe_call G_l_draw (hr.mono (by decide)) (by rfl) g_l_draw k_l_draw b_l_draw .nil pass0 (pa_cons (pv 0) (pa_cons pe_int pa_nil))) (fun _ _ => rfl))))
          pss_nil)
        (pss_one (ps_expr (pe_bm PySem.F.plainAttrs_list PySem.F.slot_list_append PySem.F.type_list_append mt_append (pv 6) (pa_cons (pe_tup (pa_cons (pv 8) (pa_cons (pv 9) (pa_cons (pv 10) pa_nil)))) pa_nil))))))))
      (Evl.pss_cut (ps_if (PW.pt (pw_and (pt_cmpR op_eq (pv 3) pe_int (nomark _)) (pw_and1 (pt_cmpR (op_neE hr.units0) (pv 6) (pe_lst pa_nil) (nomark _)))))
        (pss_cons (ps_set (i := 11) sc_l_web.nd rfl (.inl rfl) (pe_call G_l_draw (hr.mono (by decide)) (by rfl) g_l_draw k_l_draw b_l_draw .nil pass0 (pa_cons (pv 0) (pa_cons (pe_callB call_len_seq (by rfl) M.len PySem.boot_len (pa_cons (pv 6) pa_nil)) pa_nil))))
        (pss_cons (ps_asg (pe_ix ix_list (pv 6) (pv 11) (fun _ _ => rfl)) (pg_tup rfl (pgs_cons (pg_name (i := 8) sc_l_web.nd rfl (.inl rfl)) (pgs_cons (pg_name (i := 9) sc_l_web.nd rfl (.inl rfl)) (pgs_cons (pg_name (i := 10) sc_l_web.nd rfl (.inl rfl)) pgs_nil)))))
        (pss_one (ps_asg (pe_tup (pa_cons (pv 8) (pa_cons (pv 9) (pa_cons (pe_ix ix_list (pe_lst (pa_cons pe_str (pa_cons pe_str pa_nil))) (pe_callTy call_int1 (by rfl) M.int (by decide +kernel) (pa_cons (pe_cmpR op_eq (pv 10) pe_str (nomark _)) pa_nil)) (fun _ _ => rfl)) pa_nil)))) (pg_sub (pv 6) (pv 11) set_list)))))
        pss_nil)
      (pss_one (ps_ret (pe_tup (pa_cons (pv 1) (pa_cons (pe_callTy call_tuple_of (by rfl) M.tuple (by decide +kernel) (pa_cons (pv 6) pa_nil)) pa_nil))))))))))))), ?_⟩
    refine ⟨fun σ' H' => ∃ n : Nat, σ' = [some (.ref d), some (.int n), none, none, none, none, none, none, none, none, none, none] ∧ 1 ≤ n ∧ n ≤ 40 ∧ Well H' d (b + 1) ∧ Kp d d H H', ?_, ?_⟩
    · refine ⟨.ref d, rfl, d, b, 6, rfl, hD, by omega, by decide, by decide, fun v H1 a1 b1 D1 K1 => ⟨1, v, rfl, rfl, (1 + v).toNat, ?_, by omega, by omega, D1, K1⟩⟩
      rw [show (((1 + v).toNat : Nat) : Int) = 1 + v from by omega]
      rfl
    rintro σ' H1 ⟨n0, rfl, n01, n02, D1, K1⟩
    refine ⟨.ref d, rfl, d, _, 13, rfl, D1, by omega, by decide, by decide, fun z0 H2 a2 b2 D2 K2 => ?_⟩
    refine ⟨fun σ' H' => ∃ (n : Nat) (z : Int), σ' = [some (.ref d), some (.int n), some (.int z), none, none, none, none, none, none, none, none, none] ∧ 1 ≤ n ∧ n ≤ 40 ∧ 0 ≤ z ∧ z ≤ 120 ∧ Well H' d (b + 5) ∧ Kp d d H H', ?_, ?_⟩
    · refine ⟨.ref d, rfl, d, _, 8, rfl, D2, by omega, by decide, by decide, fun v3 H3 a3 b3 D3 K3 => ⟨rfl, _, rfl, ?_⟩⟩
      have K13 := (K1.trans K2).trans K3
      refine ite2 (fun _ => ?_) (fun _ => ⟨n0, z0, rfl, n01, n02, a2, by omega, D3.mono (by omega), K13⟩)
      refine ⟨.ref d, rfl, d, _, 40, rfl, D3, by omega, by decide, by decide, fun v4 H4 a4 b4 D4 K4 => ⟨1, v4, rfl, rfl, ?_⟩⟩
      refine ⟨.ref d, rfl, d, _, 121, rfl, D4, by omega, by decide, by decide, fun v5 H5 a5 b5 D5 K5 => ⟨(1 + v4).toNat, v5, ?_, by omega, by omega, a5, by omega, D5, (K13.trans K4).trans K5⟩⟩
      rw [show (((1 + v4).toNat : Nat) : Int) = 1 + v4 from by omega]
      rfl
    clear D1 K1 D2 K2 H1 H2 n01 n02 n0 a2 b2 z0
    rintro σ' H1 ⟨n, z, rfl, n1, n40, z0, z1, D1, K1⟩
    refine ⟨.ref d, rfl, d, _, 4, rfl, D1, by omega, by decide, by decide, fun wy H2 a2 b2 D2 K2 => ?_⟩
    have K12 := K1.trans K2
    -- sides
    refine ⟨fun σ' H' => ∃ (y5 : Option V) (S : Addr) (ys : List Int), σ' = [some (.ref d), some (.int n), some (.int z), some (.int wy), some (.ref S), y5, none, none, none, none, none, none] ∧ H' S = some (.lst (ys.map V.int)) ∧ S ≠ d ∧ ys.length = n ∧ Well H' d (b + 46) ∧ Kp d d H H' ∧ H S = none, ?_, ?_⟩
    · refine ⟨.int n, rfl, n, rfl, by omega, by omega, fun Z nZ => ?_⟩
      have zd := D2.ned nZ
      have nZ0 := K12.free nZ zd zd
      refine lc_range (lo := 0) (n := n) (fun j H' => ∃ ys : List Int, H' Z = some (.lst (ys.map V.int)) ∧ ys.length = j ∧ Well H' d (b + 6 + j) ∧ Kp d d H H') ⟨[], upd_same, rfl, D2.new nZ, K12.trans (Kp.new nZ)⟩ ?_ ?_
      · rintro j H3 hj ⟨ys, hZ, ly, D3, K3⟩
        refine ⟨rfl, .ref d, rfl, d, _, 2, rfl, D3, by omega, by decide, by decide, fun v H4 a4 b4 D4 K4 => ?_⟩
        exact ⟨_, K4 _ _ zd zd hZ, by rw [List.length_map]; exact small1000 (by omega), ys ++ [v], by rw [upd_same, List.map_append]; rfl, by simp [ly], (D4.mut zd).mono (by omega), (K3.trans K4).mut nZ0⟩
      · rintro H3 ⟨ys, hZ, ly, D3, K3⟩
        exact ⟨_, Z, ys, rfl, hZ, zd, ly, D3.mono (by omega), K3, nZ0⟩
    clear D1 K1 D2 K2 K12 H1 H2
    rintro σ' H1 ⟨y5, S, ys, rfl, hS, sd, ly, D1, K1, nS⟩
    refine ⟨Nat.zero_le _, fun L nL => ?_⟩
    have ld := D1.ned nL
    have nL0 := K1.free nL ld ld
    have lS : L ≠ S := (ne_of_none hS nL).symm
    have eL := same_new (o := .lst []) nL
    have hS2 := eL _ _ hS
    have hL2 := upd_same (H := H1) (a := L) (o := .lst [])
    have D2 := D1.same eL
    have K2 := K1.trans (Same.kp eL)
    generalize upd H1 L (.lst []) = H2 at hS2 hL2 D2 K2
    refine ⟨fun σ' H' => ∃ (y5 y7 y8 y9 y10 y11 : Option V) (us : List V) (ts : List Tie), σ' = [some (.ref d), some (.int n), some (.int z), some (.int wy), some (.ref S), y5, some (.ref L), y7, y8, y9, y10, y11] ∧ H' L = some (.lst us) ∧ Paired (TieV H') us ts ∧ (∀ t ∈ ts, TieOk n t) ∧ ts.length ≤ 120 ∧ Well H' d (b + 46 + 6 * 120) ∧ Kp d d H H', ?_, ?_⟩
    · have zN : z * (if decide ((1 : Int) < n) = true then 1 else 0) ≤ 120 ∧ 0 ≤ z * (if decide ((1 : Int) < n) = true then 1 else 0) ∧ (0 < z * (if decide ((1 : Int) < n) = true then 1 else 0) → 2 ≤ n) := by
        by_cases h : (1 : Int) < n
        · rw [decide_eq_true h, if_pos rfl, Int.mul_one]
          exact ⟨by omega, by omega, fun _ => by omega⟩
        · rw [decide_eq_false h, if_neg (by simp), Int.mul_zero]
          exact ⟨by omega, by omega, fun z => by omega⟩
      refine ⟨.int z, rfl, .int n, rfl, n, 1, rfl, rfl, .inr ⟨_, rfl, z, _, rfl, rfl, .inl ⟨by omega, by omega⟩, _, rfl, by omega, by omega, ?_⟩⟩
      generalize hN : z * (if decide ((1 : Int) < n) = true then 1 else 0) = N at zN
      refine for_range (lo := 0) (n := N.toNat) (fun i σ' H' => ∃ (y5 y7 y8 y9 y10 y11 : Option V) (us : List V) (ts : List Tie), σ' = [some (.ref d), some (.int n), some (.int z), some (.int wy), some (.ref S), y5, some (.ref L), y7, y8, y9, y10, y11] ∧ H' L = some (.lst us) ∧ H' S = some (.lst (ys.map V.int)) ∧ Paired (TieV H') us ts ∧ (∀ t ∈ ts, TieOk n t) ∧ ts.length = i ∧ Well H' d (b + 46 + 6 * i) ∧ Kp d d H H') ⟨_, none, none, none, none, none, [], [], rfl, hL2, hS2, .nil, fun t ht => (by cases ht), rfl, D2, K2⟩ ?_ ?_
      · clear hL2 hS2 D2 K2
        rintro i σ' H3 hi ⟨y5, y7, y8, y9, y10, y11, us, ts, rfl, hL, hS, hp, ok, lt, D3, K3⟩
        have n2 := zN.2.2 (by omega)
        have lu : us.length = ts.length := Paired.length hp
        refine ⟨fun σ' H' => ∃ (x y : Int) (y7 : Option V), σ' = [some (.ref d), some (.int n), some (.int z), some (.int wy), some (.ref S), y5, some (.ref L), y7, some (.int x), some (.int y), y10, y11] ∧ TieOk n ⟨x, y, false⟩ ∧ H' L = some (.lst us) ∧ H' S = some (.lst (ys.map V.int)) ∧ Paired (TieV H') us ts ∧ Well H' d (b + 46 + 6 * i + 5) ∧ Kp d d H H', ?_, ?_⟩
        · refine ⟨.ref d, rfl, .int n, rfl, .ref L, rfl, d, L, _, n, us, ts, rfl, D3, by omega, n2, n40, hL, ld, by omega, hp, ok, fun r x y H4 hr4 okt D4 K4 => ?_⟩
          exact ⟨r, _, rfl, SqT.of hr4, rfl, _, _, rfl, _, _, rfl, rfl, x, y, _, rfl, okt, K4 _ _ ld ld hL, K4 _ _ sd sd hS, ties_tk (K4.tk D3) hp, D4, K3.trans K4⟩
        clear hL hS hp D3 K3 H3
        rintro σ' H3 ⟨x, y, y7, rfl, okt, hL, hS, hp, D3, K3⟩
        refine ⟨.ref S, rfl, .int x, rfl, .int y, rfl, S, ys, x, y, rfl, hS, ⟨okt.1, by rw [ly]; exact okt.2.1⟩, ⟨okt.2.2.1, by rw [ly]; exact okt.2.2.2.1⟩, fun bb H4 s4 => ?_⟩
        refine ⟨fun σ' H' => ∃ (fo : Bool), σ' = [some (.ref d), some (.int n), some (.int z), some (.int wy), some (.ref S), y5, some (.ref L), y7, some (.int x), some (.int y), some (.str (kindS fo)), y11] ∧ H' L = some (.lst us) ∧ H' S = some (.lst (ys.map V.int)) ∧ Paired (TieV H') us ts ∧ Well H' d (b + 46 + 6 * i + 6) ∧ Kp d d H H', ?_, ?_⟩
        · refine ⟨.int wy, rfl, wy, 2, rfl, rfl, _, rfl, ?_⟩
          refine ite2 (fun _ => ?_) (fun _ => ⟨bb, rfl, s4 _ _ hL, s4 _ _ hS, ties_tk (Same.tk s4) hp, (D3.same s4).mono (by omega), K3.trans (Same.kp s4)⟩)
          refine ⟨by show 2 ≤ sizeLine; decide, fun p np => ?_⟩
          have ep := same_new (o := .lst [.str "friend", .str "foe"]) np
          have D4 := (D3.same s4).same ep
          have pd := (D3.same s4).ned np
          refine ⟨.ref d, rfl, d, _, 2, rfl, D4, by omega, by decide, by decide, fun v H5 a5 b5 D5 K5 => ?_⟩
          obtain ⟨fo, ef⟩ := pickK v a5 b5
          refine ⟨p, _, v, _, rfl, rfl, SqL.of (K5 _ _ pd pd upd_same), ef, ?_⟩
          have s45 := s4.trans ep
          exact ⟨fo, rfl, K5 _ _ ld ld (s45 _ _ hL), K5 _ _ sd sd (s45 _ _ hS), ties_tk (K5.tk D4) (ties_tk (Same.tk s45) hp), D5, (K3.trans (Same.kp s45)).trans K5⟩
        clear hL hS hp D3 K3 s4 H4 bb
        rintro σ' H4 ⟨fo, rfl, hL, hS, hp, D4, K4⟩
        refine ⟨.ref L, rfl, .inl ⟨rfl, _, SqL.of hL⟩, .int x, rfl, .int y, rfl, .str (kindS fo), rfl, by show 3 ≤ sizeLine; decide, fun c nc => ?_⟩
        have ec := same_new (o := .tup [.int x, .int y, .str (kindS fo)]) nc
        refine ⟨L, us, _, rfl, rfl, ec _ _ hL, small1000 (by omega), ?_⟩
        have tk := tk_lst (ys := us ++ [.ref c]) (ec _ _ hL)
        refine ⟨_, _, _, _, _, _, us ++ [.ref c], ts ++ [⟨x, y, fo⟩], rfl, upd_same, by rw [upd_ne (Ne.symm lS)]; exact ec _ _ hS, Paired.snoc (ties_tk ((Same.tk ec).trans tk) hp) ⟨c, rfl, tk _ _ upd_same⟩, fun t ht => ?_, by simp [lt], ((D4.same ec).mut ld).mono (by omega), (K4.trans (Same.kp ec)).mut nL0⟩
        rcases List.mem_append.mp ht with h | h
        · exact ok t h
        · rw [List.mem_singleton.mp h]
          exact okt
      · rintro σ' H3 ⟨y5, y7, y8, y9, y10, y11, us, ts, rfl, hL, hS, hp, ok, lt, D3, K3⟩
        exact ⟨_, _, _, _, _, _, us, ts, rfl, hL, hp, ok, by omega, D3.mono (by omega), K3⟩
    clear hL2 hS2 D2 K2 hS D1 K1
    rintro σ' H3 ⟨y5, y7, y8, y9, y10, y11, us, ts, rfl, hL, hp, ok, lt, D3, K3⟩
    have lu : us.length = ts.length := Paired.length hp
    refine ⟨fun σ' H' => ∃ (y5 y7 y8 y9 y10 y11 : Option V) (us : List V) (ts : List Tie), σ' = [some (.ref d), some (.int n), some (.int z), some (.int wy), some (.ref S), y5, some (.ref L), y7, y8, y9, y10, y11] ∧ H' L = some (.lst us) ∧ Paired (TieV H') us ts ∧ (∀ t ∈ ts, TieOk n t) ∧ ts.length ≤ 120 ∧ Well H' d (b + 1000) ∧ Kp d d H H', ?_, ?_⟩
    · refine ⟨.int wy, rfl, rfl, _, rfl, ?_⟩
      refine ite2 (fun _ => ?_) (fun _ => ⟨_, _, _, _, _, _, us, ts, rfl, hL, hp, ok, lt, D3.mono (by omega), K3⟩)
      refine ⟨.ref L, rfl, Nat.zero_le _, fun Z nZ => ⟨L, Z, us, rfl, rfl, SqL.of (same_new nZ _ _ hL), SqL.of upd_same, _, rfl, ?_⟩⟩
      have eZ := same_new (o := .lst []) nZ
      have hL4 := eZ _ _ hL
      have hp4 := ties_tk (Same.tk eZ) hp
      have D4 := D3.same eZ
      have K4 := K3.trans (Same.kp eZ)
      generalize upd H3 Z (.lst []) = H4 at hL4 hp4 D4 K4
      by_cases hu : us = []
      · subst hu
        exact ⟨_, _, _, _, _, _, [], ts, rfl, hL4, hp4, ok, lt, D4.mono (by omega), K4⟩
      have hpos : 0 < us.length := List.length_pos_iff.mpr hu
      rw [show (!us.isEmpty) = true from by cases us; exact absurd rfl hu; rfl]
      refine ⟨.ref d, rfl, .ref L, rfl, L, us, rfl, .inl (SqL.of hL4), d, _, (us.length : Int), rfl, D4, by omega, by omega, by omega, fun v H5 a5 b5 D5 K5 => ?_⟩
      have hL5 := K5 _ _ ld ld hL4
      have hp5 := ties_tk (K5.tk D4) hp4
      obtain ⟨u, e1, e2⟩ := getI a5 b5
      obtain ⟨t, e3, c, rfl, hc⟩ := Paired.at hp5 e2
      refine ⟨.ref L, rfl, .int v, rfl, L, us, v, .ref c, rfl, rfl, SqL.of hL5, e1, c, _, rfl, SqT.of hc, rfl, _, _, rfl, _, _, rfl, _, _, rfl, rfl, ?_⟩
      refine ⟨.int t.one, rfl, .int t.other, rfl, by show 2 ≤ sizeLine; decide, fun p np => ⟨.str (kindS t.foe), rfl, rfl, .inr ⟨_, rfl, p, _, _, _, rfl, rfl, SqL.of upd_same, pick2 _ _ _, by show 3 ≤ sizeLine; decide, fun r nr => ?_⟩⟩⟩
      have ek : ∃ fo : Bool, (if decide (V.str (kindS t.foe) = V.str "friend") = true then V.str "foe" else V.str "friend") = V.str (kindS fo) := by
        generalize decide (V.str (kindS t.foe) = V.str "friend") = c
        cases c
        · exact ⟨false, rfl⟩
        · exact ⟨true, rfl⟩
      obtain ⟨fo, ek⟩ := ek
      rw [ek]
      have ep := same_new (o := .lst [.str "friend", .str "foe"]) np
      have er := same_new (o := .tup [.int t.one, .int t.other, .str (kindS fo)]) nr
      have s6 := ep.trans er
      have hL6 := s6 _ _ hL5
      have okt := ok t (List.mem_of_getElem? e3)
      refine ⟨.ref L, rfl, .int v, rfl, L, us, v, v.toNat, rfl, rfl, hL6, ixN_of a5 b5, ?_⟩
      have tk := tk_lst (ys := us.set v.toNat (.ref r)) hL6
      refine ⟨_, _, _, _, _, _, us.set v.toNat (.ref r), ts.set v.toNat ⟨t.one, t.other, fo⟩, rfl, upd_same, paired_set (ties_tk ((Same.tk s6).trans tk) hp5) ⟨r, rfl, tk _ _ upd_same⟩, fun x hx => ?_, by rw [List.length_set]; exact lt, ((D5.same s6).mut ld).mono (by omega), ((K4.trans K5).trans (Same.kp s6)).mut nL0⟩
      rcases List.mem_or_eq_of_mem_set hx with h | h
      · exact ok x h
      · rw [h]
        exact okt
    clear hL hp ok lt D3 K3 H3 lu us ts
    rintro σ' H3 ⟨y5, y7, y8, y9, y10, y11, us, ts, rfl, hL, hp, ok, lt, D3, K3⟩
    refine ⟨.int n, rfl, .ref L, rfl, L, us, rfl, .inl ⟨SqL.of hL, fun e ne => ⟨by show 2 ≤ sizeLine; decide, fun a na => ?_⟩⟩⟩
    have s2 := (same_new (o := .tup us) ne).trans (same_new (o := .tup [.int n, .ref e]) na)
    exact q _ n ts _ ⟨a, e, us, rfl, upd_same, same_new na _ _ upd_same, ties_tk (Same.tk s2) hp⟩ ⟨by omega, by omega, by omega, ok⟩ (D3.same s2) (K3.trans (Same.kp s2))
end
/-! ### how far places are, even and odd (mathematics) -/
theorem pigeon' : ∀ (n : Nat) (xs : List Int), xs.Nodup → (∀ x ∈ xs, 0 ≤ x ∧ x < n) → xs.length ≤ n
  | 0, xs, _, h => by
    cases xs with
    | nil => exact Nat.le_refl _
    | cons x xs => have := h x (by simp); omega
  | n + 1, xs, nd, h => by
    have h1 := pigeon' n (xs.erase (n : Int)) (nd.erase _) fun x hx => by
      have a := h x (List.mem_of_mem_erase hx)
      have b : x ≠ (n : Int) := fun z => by
        subst z
        exact (List.Nodup.not_mem_erase nd) hx
      omega
    by_cases hm : (n : Int) ∈ xs
    · rw [List.length_erase_of_mem hm] at h1
      omega
    · rw [List.erase_of_not_mem hm] at h1
      omega
def bI (b : Bool) : Int := if b = true then 1 else 0
def nb1 (t : Tie) (x : Int) : List (Int × Int) := (if x = t.one then [(t.other, bI t.foe)] else []) ++ (if x = t.other then [(t.one, bI t.foe)] else [])
def nb (ts : List Tie) (x : Int) : List (Int × Int) := ts.flatMap fun t => nb1 t x
theorem nb_snoc (ts : List Tie) (t : Tie) (x : Int) : nb (ts ++ [t]) x = nb ts x ++ nb1 t x := by
  unfold nb
  rw [List.flatMap_append]
  simp
theorem mem_nb {ts : List Tie} {x : Int} {q : Int × Int} : q ∈ nb ts x ↔ ∃ t ∈ ts, ((x = t.one ∧ q.1 = t.other) ∨ (x = t.other ∧ q.1 = t.one)) ∧ q.2 = bI t.foe := by
  unfold nb nb1
  rw [List.mem_flatMap]
  constructor
  · rintro ⟨t, ht, h⟩
    refine ⟨t, ht, ?_⟩
    rcases List.mem_append.mp h with h | h
    · split at h
      · rename_i e
        rw [List.mem_singleton] at h
        subst h
        exact ⟨.inl ⟨e, rfl⟩, rfl⟩
      · simp at h
    · split at h
      · rename_i e
        rw [List.mem_singleton] at h
        subst h
        exact ⟨.inr ⟨e, rfl⟩, rfl⟩
      · simp at h
  · rintro ⟨t, ht, h, h2⟩
    refine ⟨t, ht, List.mem_append.mpr ?_⟩
    obtain ⟨q1, q2⟩ := q
    simp only at h h2
    rcases h with ⟨e1, e2⟩ | ⟨e1, e2⟩
    · left
      rw [if_pos e1, List.mem_singleton, e2, h2]
    · right
      rw [if_pos e1, List.mem_singleton, e2, h2]
theorem nb_len (ts : List Tie) (x : Int) : (nb ts x).length ≤ 2 * ts.length := by
  induction ts with
  | nil => simp [nb]
  | cons t ts ih =>
    have h : (nb1 t x).length ≤ 2 := by
      unfold nb1
      rw [List.length_append]
      split <;> split <;> simp
    unfold nb at ih ⊢
    rw [List.flatMap_cons, List.length_append, List.length_cons]
    omega
abbrev Sp3 := Int × Int × Int
def key2 (e : Sp3) : Int × Int := (e.1, e.2.1)
def kv3 (es : List Sp3) : List (List Key × V) := es.map fun e => ([Sum.inl e.1, Sum.inl e.2.1], V.int e.2.2)
theorem kv3_none {x o : Int} : ∀ {es : List Sp3}, (x, o) ∉ es.map key2 → valV (kv3 es) [Sum.inl x, Sum.inl o] = none
  | [], _ => rfl
  | e :: es, h => by
    rw [List.map_cons, List.mem_cons, not_or] at h
    have := kv3_none (es := es) h.2
    unfold kv3 at this ⊢
    rw [List.map_cons, valV_neg (fun z => h.1 (by injection z with z1 z2; injection z2 with z2 _; exact (Prod.ext (Sum.inl.inj z1).symm (Sum.inl.inj z2).symm)))]
    exact this
theorem kv3_some {x o v : Int} : ∀ {es : List Sp3}, (es.map key2).Nodup → (x, o, v) ∈ es → valV (kv3 es) [Sum.inl x, Sum.inl o] = some (.int v)
  | e :: es, nd, h => by
    rw [List.map_cons, List.nodup_cons] at nd
    rcases List.mem_cons.mp h with z | z
    · subst z
      unfold kv3
      rw [List.map_cons, valV_pos rfl]
    · have q := kv3_some (es := es) nd.2 z
      have ne : key2 e ≠ (x, o) := fun y => nd.1 (by rw [y]; exact List.mem_map.mpr ⟨_, z, rfl⟩)
      unfold kv3 at q ⊢
      rw [List.map_cons, valV_neg (fun y => ne (by injection y with y1 y2; injection y2 with y2 _; exact (Prod.ext (Sum.inl.inj y1) (Sum.inl.inj y2))))]
      exact q
theorem kv3_put {x o v : Int} {es : List Sp3} (h : (x, o) ∉ es.map key2) : putK (kv3 es) [Sum.inl x, Sum.inl o] (.int v) = kv3 (es ++ [(x, o, v)]) := by
  unfold putK
  rw [valV_any, kv3_none h]
  unfold kv3
  rw [List.map_append]
  rfl
theorem kv3_len (es : List Sp3) : (kv3 es).length = es.length := by unfold kv3; rw [List.length_map]
theorem key_in {es : List Sp3} {x o : Int} (h : (x, o) ∈ es.map key2) : ∃ v, (x, o, v) ∈ es := by
  obtain ⟨⟨a, b, c⟩, he, e⟩ := List.mem_map.mp h
  cases e
  exact ⟨c, he⟩
theorem key_one {es : List Sp3} (nd : (es.map key2).Nodup) {x o v v' : Int} (h : (x, o, v) ∈ es) (h' : (x, o, v') ∈ es) : v = v' := by
  have a := kv3_some nd h
  rw [kv3_some nd h'] at a
  exact (V.int.inj (Option.some.inj a)).symm
structure SpOk (n : Nat) (e : Sp3) : Prop where
  x : 0 ≤ e.1 ∧ e.1 < n
  o : e.2.1 = 0 ∨ e.2.1 = 1
  v : 0 ≤ e.2.2
structure Bq (N : Int → List (Int × Int)) (s : Int) (n : Nat) (es : List Sp3) (i : Nat) : Prop where
  nd : (es.map key2).Nodup
  root : (s, 0, 0) ∈ es
  ok : ∀ e ∈ es, SpOk n e
  mono : es.Pairwise fun a b => a.2.2 ≤ b.2.2
  near : ∀ c, es[i]? = some c → ∀ e ∈ es, e.2.2 ≤ c.2.2 + 1
  done : ∀ j e, j < i → es[j]? = some e → ∀ q ∈ N e.1, ∃ v, (q.1, (e.2.1 + q.2) % 2, v) ∈ es ∧ v ≤ e.2.2 + 1
theorem Bq.few {N : Int → List (Int × Int)} {s : Int} {n : Nat} {es : List Sp3} {i : Nat} (h : Bq N s n es i) : es.length ≤ 2 * n := by
  have := pigeon' (2 * n) (es.map fun e => 2 * e.1 + e.2.1) ?_ ?_
  · rw [List.length_map] at this
    exact this
  · have nd := h.nd
    unfold List.Nodup at nd ⊢
    rw [List.pairwise_map] at nd ⊢
    refine List.Pairwise.imp_of_mem (fun {a b} ha hb ne z => ne ?_) nd
    have a1 := (h.ok a ha).o
    have b1 := (h.ok b hb).o
    exact Prod.ext (by show a.1 = b.1; omega) (by show a.2.1 = b.2.1; omega)
  · intro x hx
    obtain ⟨e, he, rfl⟩ := List.mem_map.mp hx
    have := (h.ok e he).x
    have := (h.ok e he).o
    omega
/-- while the neighbours of the i-th are gone through -/
structure Bi (N : Int → List (Int × Int)) (s : Int) (n : Nat) (es : List Sp3) (i : Nat) (c : Sp3) (qs : List (Int × Int)) : Prop where
  nd : (es.map key2).Nodup
  root : (s, 0, 0) ∈ es
  ok : ∀ e ∈ es, SpOk n e
  mono : es.Pairwise fun a b => a.2.2 ≤ b.2.2
  at' : es[i]? = some c
  near : ∀ e ∈ es, e.2.2 ≤ c.2.2 + 1
  done : ∀ j e, j < i → es[j]? = some e → ∀ q ∈ N e.1, ∃ v, (q.1, (e.2.1 + q.2) % 2, v) ∈ es ∧ v ≤ e.2.2 + 1
  here : ∀ q ∈ qs, ∃ v, (q.1, (c.2.1 + q.2) % 2, v) ∈ es
theorem Bi.few {N : Int → List (Int × Int)} {s : Int} {n : Nat} {es : List Sp3} {i : Nat} {c : Sp3} {qs : List (Int × Int)} (h : Bi N s n es i c qs) : es.length ≤ 2 * n := (Bq.few (N := fun _ => []) (i := es.length) ⟨h.nd, h.root, h.ok, h.mono, fun c hc => by have := (List.getElem?_eq_some_iff.mp hc).1; omega, fun j e _ _ q hq => by cases hq⟩)
theorem Bq.go {N : Int → List (Int × Int)} {s : Int} {n : Nat} {es : List Sp3} {i : Nat} {c : Sp3} (h : Bq N s n es i) (e : es[i]? = some c) : Bi N s n es i c [] := ⟨h.nd, h.root, h.ok, h.mono, e, h.near c e, h.done, fun q hq => by cases hq⟩
theorem Bi.old {N : Int → List (Int × Int)} {s : Int} {n : Nat} {es : List Sp3} {i : Nat} {c : Sp3} {qs : List (Int × Int)} {q : Int × Int} (h : Bi N s n es i c qs) (hq : (q.1, (c.2.1 + q.2) % 2) ∈ es.map key2) : Bi N s n es i c (qs ++ [q]) :=
  ⟨h.nd, h.root, h.ok, h.mono, h.at', h.near, h.done, fun p hp => by
    rcases List.mem_append.mp hp with z | z
    · exact h.here p z
    · rw [List.mem_singleton.mp z]
      exact key_in hq⟩
theorem Bi.new {N : Int → List (Int × Int)} {s : Int} {n : Nat} {es : List Sp3} {i : Nat} {c : Sp3} {qs : List (Int × Int)} {q : Int × Int} (h : Bi N s n es i c qs) (hq : (q.1, (c.2.1 + q.2) % 2) ∉ es.map key2) (hr : 0 ≤ q.1 ∧ q.1 < n) : Bi N s n (es ++ [(q.1, (c.2.1 + q.2) % 2, c.2.2 + 1)]) i c (qs ++ [q]) := by
  have hi := (List.getElem?_eq_some_iff.mp h.at').1
  have hc : c ∈ es := List.mem_of_getElem? h.at'
  have c0 := (h.ok c hc).v
  refine ⟨?_, List.mem_append_left _ h.root, fun e he => ?_, ?_, by rw [List.getElem?_append_left hi]; exact h.at', fun e he => ?_, fun j e hj ej q' hq' => ?_, fun p hp => ?_⟩
  · rw [List.map_append, List.nodup_append]
    refine ⟨h.nd, by simp, fun x hx y hy z => ?_⟩
    have : y = (q.1, (c.2.1 + q.2) % 2) := by simpa [key2] using hy
    subst this
    subst z
    exact hq hx
  · rcases List.mem_append.mp he with z | z
    · exact h.ok e z
    · rw [List.mem_singleton.mp z]
      exact ⟨hr, by show (c.2.1 + q.2) % 2 = 0 ∨ (c.2.1 + q.2) % 2 = 1; omega, by show 0 ≤ c.2.2 + 1; omega⟩
  · rw [List.pairwise_append]
    refine ⟨h.mono, by simp, fun a ha b hb => ?_⟩
    rw [List.mem_singleton.mp hb]
    exact h.near a ha
  · rcases List.mem_append.mp he with z | z
    · exact h.near e z
    · rw [List.mem_singleton.mp z]
      exact Int.le_refl _
  · rw [List.getElem?_append_left (by omega)] at ej
    obtain ⟨v, h1, h2⟩ := h.done j e hj ej q' hq'
    exact ⟨v, List.mem_append_left _ h1, h2⟩
  · rcases List.mem_append.mp hp with z | z
    · obtain ⟨v, hv⟩ := h.here p z
      exact ⟨v, List.mem_append_left _ hv⟩
    · rw [List.mem_singleton.mp z]
      exact ⟨c.2.2 + 1, List.mem_append_right _ (by simp)⟩
theorem Bi.end' {N : Int → List (Int × Int)} {s : Int} {n : Nat} {es : List Sp3} {i : Nat} {c : Sp3} (h : Bi N s n es i c (N c.1)) : Bq N s n es (i + 1) := by
  refine ⟨h.nd, h.root, h.ok, h.mono, fun d ed e he => ?_, fun j e hj ej q hq => ?_⟩
  · have hi := (List.getElem?_eq_some_iff.mp h.at')
    have hd := (List.getElem?_eq_some_iff.mp ed)
    have := (List.pairwise_iff_getElem.mp h.mono) i (i + 1) hi.1 hd.1 (by omega)
    rw [hi.2, hd.2] at this
    have := h.near e he
    omega
  · by_cases e1 : j < i
    · exact h.done j e e1 ej q hq
    · have : j = i := by omega
      subst this
      rw [h.at'] at ej
      cases ej
      obtain ⟨v, hv⟩ := h.here q hq
      exact ⟨v, hv, h.near _ hv⟩
structure Far (ts : List Tie) (s : Int) (n : Nat) (es : List Sp3) : Prop where
  nd : (es.map key2).Nodup
  root : (s, 0, 0) ∈ es
  ok : ∀ e ∈ es, SpOk n e
  cl : ∀ e ∈ es, ∀ q ∈ nb ts e.1, ∃ v, (q.1, (e.2.1 + q.2) % 2, v) ∈ es ∧ v ≤ e.2.2 + 1
theorem Bq.far {ts : List Tie} {s : Int} {n : Nat} {es : List Sp3} {i : Nat} (h : Bq (nb ts) s n es i) (hi : es.length ≤ i) : Far ts s n es :=
  ⟨h.nd, h.root, h.ok, fun e he q hq => by
    obtain ⟨j, hj⟩ := List.getElem?_of_mem he
    have := (List.getElem?_eq_some_iff.mp hj).1
    exact h.done j e (by omega) hj q hq⟩
def farV (es : List Sp3) (x o : Int) : Option Int := (es.find? fun e => decide (key2 e = (x, o))).map (·.2.2)
theorem farV_some {es : List Sp3} (nd : (es.map key2).Nodup) {x o v : Int} (h : (x, o, v) ∈ es) : farV es x o = some v := by
  induction es with
  | nil => cases h
  | cons e es ih =>
    rw [List.map_cons, List.nodup_cons] at nd
    unfold farV at ih ⊢
    rw [List.find?_cons]
    rcases List.mem_cons.mp h with z | z
    · subst z
      simp [key2]
    · have ne : ¬ key2 e = (x, o) := fun y => nd.1 (by rw [y]; exact List.mem_map.mpr ⟨_, z, rfl⟩)
      rw [decide_eq_false ne]
      exact ih nd.2 z
theorem farV_none {es : List Sp3} {x o : Int} (h : (x, o) ∉ es.map key2) : farV es x o = none := by
  induction es with
  | nil => rfl
  | cons e es ih =>
    rw [List.map_cons, List.mem_cons, not_or] at h
    unfold farV at ih ⊢
    rw [List.find?_cons, decide_eq_false (fun z => h.1 z.symm)]
    exact ih h.2
/-- along a tie -/
theorem Far.along {ts : List Tie} {s : Int} {n : Nat} {es : List Sp3} (h : Far ts s n es) {t : Tie} (ht : t ∈ ts) {o : Int} (ho : o = 0 ∨ o = 1) : (farV es t.one o = none ∧ farV es t.other ((o + bI t.foe) % 2) = none) ∨ ∃ u v, farV es t.one o = some u ∧ farV es t.other ((o + bI t.foe) % 2) = some v ∧ 0 ≤ u ∧ 0 ≤ v ∧ u ≤ v + 1 ∧ v ≤ u + 1 := by
  have b01 : bI t.foe = 0 ∨ bI t.foe = 1 := by unfold bI; split <;> simp
  by_cases h1 : (t.one, o) ∈ es.map key2
  · obtain ⟨u, hu⟩ := key_in h1
    obtain ⟨v, hv, l1⟩ := h.cl _ hu (t.other, bI t.foe) (mem_nb.mpr ⟨t, ht, .inl ⟨rfl, rfl⟩, rfl⟩)
    obtain ⟨u', hu', l2⟩ := h.cl _ hv (t.one, bI t.foe) (mem_nb.mpr ⟨t, ht, .inr ⟨rfl, rfl⟩, rfl⟩)
    have e : ((o + bI t.foe) % 2 + bI t.foe) % 2 = o := by omega
    simp only at hu' l1 l2
    rw [e] at hu'
    obtain rfl := key_one h.nd hu hu'
    exact .inr ⟨u, v, farV_some h.nd hu, farV_some h.nd hv, (h.ok _ hu).v, (h.ok _ hv).v, l2, l1⟩
  · have h2 : (t.other, (o + bI t.foe) % 2) ∉ es.map key2 := fun z => by
      obtain ⟨v, hv⟩ := key_in z
      obtain ⟨u', hu', _⟩ := h.cl _ hv (t.one, bI t.foe) (mem_nb.mpr ⟨t, ht, .inr ⟨rfl, rfl⟩, rfl⟩)
      have e : ((o + bI t.foe) % 2 + bI t.foe) % 2 = o := by omega
      simp only at hu'
      rw [e] at hu'
      exact h1 (List.mem_map.mpr ⟨_, hu', rfl⟩)
    exact .inl ⟨farV_none h1, farV_none h2⟩
/-! ### lists of pairs, place by place -/
def P2V (H : Hp) (v : V) (q : Int × Int) : Prop := ∃ a, v = .ref a ∧ H a = some (.tup [.int q.1, .int q.2])
theorem P2V.tk {H H' : Hp} (k : Tk H H') {v : V} {p : Int × Int} (h : P2V H v p) : P2V H' v p := by
  obtain ⟨a, rfl, e⟩ := h
  exact ⟨a, rfl, k _ _ e⟩
theorem p2_tk {H H' : Hp} (k : Tk H H') {vs : List V} {qs : List (Int × Int)} (h : Paired (P2V H) vs qs) : Paired (P2V H') vs qs := Paired.mono (fun _ _ x => x.tk k) h
structure Bd (H : Hp) (B : Addr) (As : List Addr) (N : Int → List (Int × Int)) : Prop where
  at' : H B = some (.lst (As.map V.ref))
  nd : As.Nodup
  each : ∀ (j : Nat) a, As[j]? = some a → ∃ vs, H a = some (.lst vs) ∧ Paired (P2V H) vs (N (j : Int))
  out : B ∉ As
theorem Bd.same {H H' : Hp} {B : Addr} {As : List Addr} {N : Int → List (Int × Int)} (h : Bd H B As N) (s : Same H H') : Bd H' B As N :=
  ⟨s _ _ h.at', h.nd, fun j a e => by
    obtain ⟨vs, h1, h2⟩ := h.each j a e
    exact ⟨vs, s _ _ h1, p2_tk (Same.tk s) h2⟩, h.out⟩
theorem Bd.put {H : Hp} {B a c : Addr} {As : List Addr} {N : Int → List (Int × Int)} {j : Nat} {vs : List V} {q : Int × Int} (h : Bd H B As N) (ha : As[j]? = some a) (hv : H a = some (.lst vs)) (hc : H c = some (.tup [.int q.1, .int q.2])) : Bd (upd H a (.lst (vs ++ [.ref c]))) B As (fun x => N x ++ if x = (j : Int) then [q] else []) := by
  have k : Tk H (upd H a (.lst (vs ++ [.ref c]))) := tk_lst hv
  have haB : a ≠ B := fun z => h.out (by rw [← z]; exact List.mem_of_getElem? ha)
  refine ⟨by rw [upd_ne (Ne.symm haB)]; exact h.at', h.nd, fun i b eb => ?_, h.out⟩
  obtain ⟨us, h1, h2⟩ := h.each i b eb
  by_cases e : i = j
  · subst e
    rw [ha] at eb
    cases eb
    rw [hv] at h1
    cases h1
    refine ⟨_, upd_same, ?_⟩
    rw [if_pos rfl]
    exact Paired.snoc (p2_tk k h2) ⟨c, rfl, k _ _ hc⟩
  · have e2 : b ≠ a := fun z => e ((List.getElem?_inj (List.getElem?_eq_some_iff.mp eb).1 h.nd).mp (by rw [eb, ha, z]))
    refine ⟨us, by rw [upd_ne e2]; exact h1, ?_⟩
    rw [if_neg (by omega), List.append_nil]
    exact p2_tk k h2
theorem Bd.more {H : Hp} {B p : Addr} {As : List Addr} (h : Bd H B As (fun _ => [])) (np : H p = none) : Bd (upd (upd H p (.lst [])) B (.lst (As.map V.ref ++ [.ref p]))) B (As ++ [p]) (fun _ => []) := by
  have npA : p ∉ As := fun z => by
    obtain ⟨j, hj⟩ := List.getElem?_of_mem z
    obtain ⟨vs, h1, _⟩ := h.each j p hj
    rw [np] at h1
    cases h1
  have npB : p ≠ B := (ne_of_none h.at' np).symm
  refine ⟨by rw [upd_same, List.map_append]; rfl, ?_, fun j a e => ?_, fun z => ?_⟩
  · rw [List.nodup_append]
    refine ⟨h.nd, by simp, fun x hx y hy z => ?_⟩
    rw [List.mem_singleton.mp hy] at z
    subst z
    exact npA hx
  · by_cases hj : j < As.length
    · rw [List.getElem?_append_left hj] at e
      obtain ⟨vs, h1, h2⟩ := h.each j a e
      cases h2
      have : a ≠ B := fun z => h.out (by rw [← z]; exact List.mem_of_getElem? e)
      exact ⟨[], by rw [upd_ne this, upd_ne (ne_of_none h1 np)]; exact h1, .nil⟩
    · rw [List.getElem?_append_right (by omega)] at e
      have : a = p := by
        have := List.mem_of_getElem? e
        simpa using this
      subst this
      exact ⟨[], by rw [upd_ne npB]; exact upd_same, .nil⟩
  · rcases List.mem_append.mp z with y | y
    · exact h.out y
    · exact npB (List.mem_singleton.mp y).symm
theorem room1 {k : Nat} {A : PySem.Around} (r : Room k A) : A.units + 1 < cLine := by have := r.un; omega
def spFar : Sp := fun vs H Q _ => ∃ (wv : V) (n : Nat) (ts : List Tie) (s : Int), vs = [wv, .int s] ∧ WebAt H wv n ts ∧ WebOk n ts ∧ (0 ≤ s ∧ s < n) ∧ ∀ D es H', Same H H' → H' D = some (.dT (kv3 es)) → Far ts s n es → es.length ≤ 80 → Q (.ref D) H'
section
variable {P : Program} {w : World} {K : PySem.W.Frag} {mg : Str → Option Value} {base : Heap}
theorem ok_l_far {f : Addr} {fd : FuncData} (F : Fun K "_law_far" "_law_far" s_l_far f fd) (M : Free mg) : FnOk P w K mg base CX0 1 f fd ["_law_web_here", "_law_place"] spFar := by
  refine F.ok sc_l_far (fun vs H Q E h => ?_) (fun cdv A outer sh H vs Q E hr h => ?_)
  · obtain ⟨wv, n, ts, s, rfl, _⟩ := h
    rfl
  · obtain ⟨wv, n, ts, s, rfl, hW, ok, hs, q⟩ := h
    have hu := room1 hr
    refine ⟨_, (Evl.pss_cut (ps_setLc (i := 2) (own := [("_law_spot", 3)]) (g := (gName 3)) (tt := tYes) rfl sc_l_far.nd rfl rfl (sw_true rfl rfl rfl (by decide +kernel)) (pi_range1 (by rfl) M.range (pa_cons (pe_ix ix_tup (pv 0) pe_int (fun _ _ => rfl)) pa_nil)) (blkOk_by (N := N_l_far) (sc := defScope s_l_far) (own := [("_law_spot", 3)]) (by decide +kernel)) (fun _ _ _ _ _ => (pg_name (i := 3) sc_l_far.nd rfl (.inl rfl))) (fun _ _ _ _ _ => pts_nil) (fun _ _ _ _ _ => (pe_lst pa_nil)))
      (Evl.pss_cut (ps_for PassesOwn.never rfl (pi_tup (pe_ix ix_tup (pv 0) pe_int (fun _ _ => rfl))) (pg_tup rfl (pgs_cons (pg_name (i := 4) sc_l_far.nd rfl (.inl rfl)) (pgs_cons (pg_name (i := 5) sc_l_far.nd rfl (.inl rfl)) (pgs_cons (pg_name (i := 6) sc_l_far.nd rfl (.inl rfl)) pgs_nil))))
        (Evl.pss_cut (ps_expr (pe_bm PySem.F.plainAttrs_list PySem.F.slot_list_append PySem.F.type_list_append mt_append (pe_ix ix_list (pv 2) (pv 4) (fun _ _ => rfl)) (pa_cons (pe_tup (pa_cons (pv 5) (pa_cons (pe_callTy call_int1 (by rfl) M.int (by decide +kernel) (pa_cons (pe_cmpR op_eq (pv 6) pe_str (nomark _)) pa_nil)) pa_nil))) pa_nil)))
        (pss_one (ps_expr (pe_bm PySem.F.plainAttrs_list PySem.F.slot_list_append PySem.F.type_list_append mt_append (pe_ix ix_list (pv 2) (pv 5) (fun _ _ => rfl)) (pa_cons (pe_tup (pa_cons (pv 4) (pa_cons (pe_callTy call_int1 (by rfl) M.int (by decide +kernel) (pa_cons (pe_cmpR op_eq (pv 6) pe_str (nomark _)) pa_nil)) pa_nil))) pa_nil))))))
      (pss_cons (ps_set (i := 7) sc_l_far.nd rfl (.inl rfl) pe_dnewT)
      (pss_cons (ps_dput hu (pv 7) (pe_tup (pa_cons (pv 1) (pa_cons pe_int pa_nil))) pe_int rfl)
      (pss_cons (ps_set (i := 8) sc_l_far.nd rfl (.inl rfl) (pe_lst (pa_cons (pe_tup (pa_cons (pv 1) (pa_cons pe_int pa_nil))) pa_nil)))
      (pss_cons (ps_for PassesOwn.never rfl (pi_range1 (by rfl) M.range (pa_cons (pe_op op_mul pe_int (pe_ix ix_tup (pv 0) pe_int (fun _ _ => rfl))) pa_nil)) (pg_name (i := 9) sc_l_far.nd rfl (.inl rfl))
        (pss_one (ps_if (pt_cmpR op_lt (pv 9) (pe_callB call_len_seq (by rfl) M.len PySem.boot_len (pa_cons (pv 8) pa_nil)) (nomark _))
          (pss_cons (ps_asg (pe_ix ix_list (pv 8) (pv 9) (fun _ _ => rfl)) (pg_tup rfl (pgs_cons (pg_name (i := 10) sc_l_far.nd rfl (.inl rfl)) (pgs_cons (pg_name (i := 11) sc_l_far.nd rfl (.inl rfl)) pgs_nil))))
          (pss_one (ps_for PassesOwn.never rfl (pi_list (pe_ix ix_list (pv 2) (pv 10) (fun _ _ => rfl))) (pg_tup rfl (pgs_cons (pg_name (i := 12) sc_l_far.nd rfl (.inl rfl)) (pgs_cons (pg_name (i := 13) sc_l_far.nd rfl (.inl rfl)) pgs_nil)))
            (pss_cons (ps_set (i := 3) sc_l_far.nd rfl (.inl rfl) (pe_tup (pa_cons (pv 12) (pa_cons (pe_op op_mod (pe_op op_add (pv 11) (pv 13)) pe_int) pa_nil))))
            (pss_one (ps_if (pt_cmp (pc_dnotin hu (pv 3) (pv 7)))
              (pss_cons (ps_dput hu (pv 7) (pv 3) (pe_op op_add (pe_dget hu (pv 7) (pe_tup (pa_cons (pv 10) (pa_cons (pv 11) pa_nil))) (fun _ _ => rfl)) pe_int) rfl)
              (pss_one (ps_expr (pe_bm PySem.F.plainAttrs_list PySem.F.slot_list_append PySem.F.type_list_append mt_append (pv 8) (pa_cons (pv 3) pa_nil)))))
              pss_nil))))))
          pss_nil)))
      (pss_one (ps_ret (pv 7))))))))), ?_⟩
    obtain ⟨wa, wb, us, rfl, hwa, hwb, hp⟩ := id hW
    have n1 : 1 ≤ n := by have := ok.lo; omega
    have n40 : n ≤ 40 := by have := ok.hi; omega
    have few := ok.few
    have lu : us.length = ts.length := Paired.length hp
    -- beside
    refine ⟨fun σ' H' => ∃ (y3 : Option V) (B : Addr) (As : List Addr), σ' = [some (.ref wa), some (.int s), some (.ref B), y3, none, none, none, none, none, none, none, none, none, none] ∧ As.length = n ∧ Bd H' B As (fun _ => []) ∧ (∀ x ∈ As, H x = none) ∧ H B = none ∧ Same H H', ?_, ?_⟩
    · refine ⟨.ref wa, rfl, wa, _, 0, .int n, rfl, rfl, SqT.of hwa, rfl, n, rfl, by omega, by omega, fun B nB => ?_⟩
      rw [Int.toNat_natCast]
      refine lc_range (lo := 0) (n := n) (fun i H' => ∃ As : List Addr, As.length = i ∧ Bd H' B As (fun _ => []) ∧ (∀ x ∈ As, H x = none) ∧ Same H H') ⟨[], rfl, ⟨upd_same, List.nodup_nil, fun j a e => by simp at e, by simp⟩, fun x hx => (by cases hx), same_new nB⟩ ?_ ?_
      · rintro i H1 hi ⟨As, hl, hA, hf, s1⟩
        refine ⟨rfl, Nat.zero_le _, fun p np => ⟨_, same_new np _ _ hA.at', by rw [List.length_map]; exact small1000 (by omega), As ++ [p], by rw [List.length_append, hl]; rfl, hA.more np, fun x hx => ?_, Same.mut (s1.trans (same_new np)) nB⟩⟩
        rcases List.mem_append.mp hx with z | z
        · exact hf x z
        · rw [List.mem_singleton.mp z]
          exact s1.free np
      · rintro H1 ⟨As, hl, hA, hf, s1⟩
        exact ⟨_, B, As, rfl, hl, hA, hf, nB, s1⟩
    rintro σ' H1 ⟨y3, B, As, rfl, hl, hA, hf, nB, s1⟩
    -- a tie's end is put
    have put : ∀ {H2 : Hp} {N : Int → List (Int × Int)} {x y f : Int}, Same H H2 → Bd H2 B As N → 0 ≤ x → x < n → (N x).length ≤ 500 → ∃ (j : Nat) (a : Addr) (vs : List V), x = (j : Int) ∧ As[j]? = some a ∧ H2 a = some (.lst vs) ∧ vs.length ≤ 500 ∧ ∀ {H3 : Hp} {c : Addr}, Same H2 H3 → H3 c = some (.tup [.int y, .int f]) → Bd (upd H3 a (.lst (vs ++ [.ref c]))) B As (fun z => N z ++ if z = x then [(y, f)] else []) ∧ Same H (upd H3 a (.lst (vs ++ [.ref c]))) := by
      intro H2 N x y f s2 hB x0 x1 ln
      have hj : x.toNat < As.length := by omega
      obtain ⟨vs, h1, h2⟩ := hB.each x.toNat _ (List.getElem?_eq_getElem hj)
      have ex : x = (x.toNat : Int) := by omega
      have lv := Paired.length h2
      rw [← ex] at lv
      refine ⟨x.toNat, As[x.toNat], vs, ex, List.getElem?_eq_getElem hj, h1, by omega, fun {H3 c} s3 hc => ?_⟩
      have := (hB.same s3).put (q := (y, f)) (List.getElem?_eq_getElem hj) (s3 _ _ h1) hc
      rw [← ex] at this
      exact ⟨this, Same.mut (s2.trans s3) (hf _ (List.getElem_mem hj))⟩
    refine ⟨fun σ' H' => ∃ (y3 y4 y5 y6 : Option V), σ' = [some (.ref wa), some (.int s), some (.ref B), y3, y4, y5, y6, none, none, none, none, none, none, none] ∧ Bd H' B As (nb ts) ∧ Same H H', ?_, ?_⟩
    · refine ⟨.ref wa, rfl, wa, _, 1, .ref wb, rfl, rfl, SqT.of (s1 _ _ hwa), rfl, wb, rfl, ⟨_, SqT.of (s1 _ _ hwb)⟩, ?_⟩
      refine for_tup (xs := us) (fun i σ' H' => ∃ (y3 y4 y5 y6 : Option V), σ' = [some (.ref wa), some (.int s), some (.ref B), y3, y4, y5, y6, none, none, none, none, none, none, none] ∧ Bd H' B As (nb (ts.take i)) ∧ Same H H') ⟨_, _, _, _, rfl, hA, s1⟩ (fun i σ' H' _ h => by
        obtain ⟨_, _, _, _, _, _, s2⟩ := h
        exact SqT.of (s2 _ _ hwb)) ?_ ?_
      · rintro i v σ' H2 ev ⟨y3, y4, y5, y6, rfl, hB, s2⟩
        obtain ⟨t, et, c, rfl, hc⟩ := Paired.at hp ev
        have okt := ok.ok t (List.mem_of_getElem? et)
        have ln : ∀ x, (nb (ts.take i) x).length ≤ 240 := fun x => by
          have := nb_len (ts.take i) x
          rw [List.length_take] at this
          omega
        have ek : decide (V.str (kindS t.foe) = V.str "foe") = t.foe := by cases t.foe <;> decide +kernel
        refine ⟨c, _, rfl, SqT.of (s2 _ _ hc), rfl, _, _, rfl, _, _, rfl, _, _, rfl, rfl, ?_⟩
        refine ⟨fun σ' H' => ∃ y3 : Option V, σ' = [some (.ref wa), some (.int s), some (.ref B), y3, some (.int t.one), some (.int t.other), some (.str (kindS t.foe)), none, none, none, none, none, none, none] ∧ Bd H' B As (fun z => nb (ts.take i) z ++ if z = t.one then [(t.other, bI t.foe)] else []) ∧ Same H H', ?_, ?_⟩
        · obtain ⟨j, a, vs, ej, ea, hv, lv, fin⟩ := put (y := t.other) (f := bI t.foe) s2 hB okt.1 okt.2.1 (by have := ln t.one; omega)
          have eat : atI (As.map V.ref) t.one = some (.ref a) := by rw [ej]; exact atI_nat (by rw [List.getElem?_map, ea]; rfl)
          refine ⟨.ref B, rfl, .int t.one, rfl, B, _, t.one, _, rfl, rfl, SqL.of hB.at', eat, .inl ⟨rfl, _, SqL.of hv⟩, .int t.other, rfl, .str (kindS t.foe), rfl, rfl, .inr ⟨_, rfl, by show 2 ≤ sizeLine; decide, fun e ne => ?_⟩⟩
          rw [ek]
          have se := same_new (o := .tup [.int t.other, .int (if t.foe = true then 1 else 0)]) ne
          exact ⟨a, vs, _, rfl, rfl, se _ _ hv, small1000 (by omega), _, rfl, (fin se upd_same).1, (fin se upd_same).2⟩
        clear hB s2
        rintro σ' H2 ⟨y3, rfl, hB, s2⟩
        obtain ⟨j, a, vs, ej, ea, hv, lv, fin⟩ := put (y := t.one) (f := bI t.foe) s2 hB okt.2.2.1 okt.2.2.2.1 (by
          have := ln t.other
          show (nb (ts.take i) t.other ++ if t.other = t.one then [(t.other, bI t.foe)] else []).length ≤ 500
          rw [List.length_append]
          split <;> simp only [List.length_cons, List.length_nil] <;> omega)
        have eat : atI (As.map V.ref) t.other = some (.ref a) := by rw [ej]; exact atI_nat (by rw [List.getElem?_map, ea]; rfl)
        refine ⟨.ref B, rfl, .int t.other, rfl, B, _, t.other, _, rfl, rfl, SqL.of hB.at', eat, .inl ⟨rfl, _, SqL.of hv⟩, .int t.one, rfl, .str (kindS t.foe), rfl, rfl, .inr ⟨_, rfl, by show 2 ≤ sizeLine; decide, fun e ne => ?_⟩⟩
        rw [ek]
        have se := same_new (o := .tup [.int t.one, .int (if t.foe = true then 1 else 0)]) ne
        have eN : nb (ts.take (i + 1)) = fun z => (nb (ts.take i) z ++ if z = t.one then [(t.other, bI t.foe)] else []) ++ if z = t.other then [(t.one, bI t.foe)] else [] := by
          funext z
          rw [take_snoc et, nb_snoc]
          unfold nb1
          rw [List.append_assoc]
        refine ⟨a, vs, _, rfl, rfl, se _ _ hv, small1000 (by omega), _, _, _, _, rfl, ?_, (fin se upd_same).2⟩
        rw [eN]
        exact (fin se upd_same).1
      · rintro σ' H2 ⟨y3, y4, y5, y6, rfl, hB, s2⟩
        rw [lu, List.take_length] at hB
        exact ⟨_, _, _, _, rfl, hB, s2⟩
    clear hA s1 put
    rintro σ' H2 ⟨y3', y4, y5, y6, rfl, hB, s2⟩
    have hNr : ∀ x q, q ∈ nb ts x → 0 ≤ q.1 ∧ q.1 < (n : Int) := fun x q hq => by
      obtain ⟨t, ht, h, _⟩ := mem_nb.mp hq
      have o := ok.ok t ht
      rcases h with ⟨_, e⟩ | ⟨_, e⟩
      · rw [e]; exact ⟨o.2.2.1, o.2.2.2.1⟩
      · rw [e]; exact ⟨o.1, o.2.1⟩
    -- the first place
    refine fun D nD => ?_
    have eD := same_new (o := .dT []) nD
    have nD0 : H D = none := s2.free nD
    refine ⟨.ref D, rfl, .int s, rfl, by show 2 ≤ sizeLine; decide, fun k0 nk => ⟨D, _, rfl, DPut.t (k := [Sum.inl s, Sum.inl 0]) (same_new nk _ _ upd_same) upd_same (by decide), ?_⟩⟩
    have ek0 := same_new (o := .tup [.int s, .int 0]) nk
    have s3 : Same H2 (upd (upd (upd H2 D (.dT [])) k0 (.tup [.int s, .int 0])) D (.dT (putK [] [Sum.inl s, Sum.inl 0] (.int 0)))) := Same.mut (eD.trans ek0) nD
    have hD3 : (upd (upd (upd H2 D (.dT [])) k0 (.tup [.int s, .int 0])) D (.dT (putK [] [Sum.inl s, Sum.inl 0] (.int 0)))) D = some (.dT (kv3 [(s, 0, 0)])) := upd_same
    generalize upd (upd (upd H2 D (.dT [])) k0 (.tup [.int s, .int 0])) D (.dT (putK [] [Sum.inl s, Sum.inl 0] (.int 0))) = H3 at s3 hD3
    clear ek0 eD nk k0
    refine ⟨.int s, rfl, by show 2 ≤ sizeLine; decide, fun k1 n1' => ⟨by show 1 ≤ sizeLine; decide, fun L nL => ?_⟩⟩
    have e1 := same_new (o := .tup [.int s, .int 0]) n1'
    have eL := same_new (o := .lst [.ref k1]) nL
    have nL2 : H2 L = none := s3.free (e1.free nL)
    have hL4 := upd_same (H := upd H3 k1 (.tup [.int s, .int 0])) (a := L) (o := .lst [.ref k1])
    have hk4 := eL _ _ (upd_same (H := H3) (a := k1) (o := .tup [.int s, .int 0]))
    have hD4 := eL _ _ (e1 _ _ hD3)
    have s4 := (s3.trans e1).trans eL
    have hLD : L ≠ D := ne_of hL4 hD4 (by intro z; cases z)
    generalize upd (upd H3 k1 (.tup [.int s, .int 0])) L (.lst [.ref k1]) = H4 at hL4 hk4 hD4 s4
    clear e1 eL s3 hD3 nL n1'
    refine ⟨.ref wa, rfl, wa, _, 0, .int n, rfl, rfl, SqT.of ((s2.trans s4) _ _ hwa), rfl, 2, n, rfl, rfl, .inl ⟨by decide, by decide⟩, _, rfl, by omega, by omega, ?_⟩
    refine for_range (lo := 0) (n := ((2 : Int) * (n : Int)).toNat) (fun i σ' H' => ∃ (y3 y9 y10 y11 y12 y13 : Option V) (es : List Sp3) (ls : List V), σ' = [some (.ref wa), some (.int s), some (.ref B), y3, y4, y5, y6, some (.ref D), some (.ref L), y9, y10, y11, y12, y13] ∧ H' D = some (.dT (kv3 es)) ∧ H' L = some (.lst ls) ∧ Paired (P2V H') ls (es.map key2) ∧ Bq (nb ts) s n es i ∧ Same H2 H') ⟨_, none, none, none, none, none, [(s, 0, 0)], [.ref k1], rfl, hD4, hL4, .cons ⟨k1, rfl, hk4⟩ .nil, ⟨by simp, by simp, fun e he => by rw [List.mem_singleton.mp he]; exact ⟨hs, .inl rfl, Int.le_refl _⟩, by simp, fun c hc e he => by rw [List.mem_singleton.mp he]; have := List.mem_singleton.mp (List.mem_of_getElem? hc); rw [this]; show (0 : Int) ≤ 0 + 1; omega, fun j e hj => by omega⟩, s4⟩ ?_ ?_
    · clear hD4 hL4 hk4 s4
      rintro i σ' H5 hi ⟨y3, y9, y10, y11, y12, y13, es, ls, rfl, hD5, hL5, hl5, bq, s5⟩
      rw [show (0 : Int) + (i : Nat) = i from by omega]
      have ll : ls.length = es.length := by rw [Paired.length hl5, List.length_map]
      have fw := bq.few
      refine ⟨.int i, rfl, .ref L, rfl, L, ls, rfl, .inl (SqL.of hL5), i, _, rfl, rfl, _, rfl, ite2 (fun hlt => ?_) (fun hlt => ?_)⟩
      · have hlt : (i : Int) < (ls.length : Int) := of_decide_eq_true hlt
        have hil : i < es.length := by omega
        obtain ⟨c, ec⟩ : ∃ c, es[i]? = some c := ⟨_, List.getElem?_eq_getElem hil⟩
        obtain ⟨v, ev, a, rfl, hac⟩ := Paired.at' hl5 (show (es.map key2)[i]? = some (key2 c) by rw [List.getElem?_map, ec]; rfl)
        have cok := bq.ok c (List.mem_of_getElem? ec)
        refine ⟨.ref L, rfl, .int i, rfl, L, ls, i, .ref a, rfl, rfl, SqL.of hL5, atI_nat ev, a, _, rfl, SqT.of hac, rfl, _, _, rfl, _, _, rfl, rfl, ?_⟩
        have hB5 := hB.same s5
        have hcn : c.1.toNat < As.length := by have := cok.x; omega
        obtain ⟨vs, hv, hpv⟩ := hB.each c.1.toNat _ (List.getElem?_eq_getElem hcn)
        have ecx : ((c.1.toNat : Nat) : Int) = c.1 := by have := cok.x; omega
        rw [ecx] at hpv
        have eat : atI (As.map V.ref) c.1 = some (.ref As[c.1.toNat]) := atI_of cok.x.1 (by rw [List.getElem?_map, List.getElem?_eq_getElem hcn]; rfl)
        refine ⟨.ref B, rfl, .int c.1, rfl, B, _, c.1, _, rfl, rfl, SqL.of hB5.at', eat, _, rfl, ⟨_, SqL.of (s5 _ _ hv)⟩, ?_⟩
        refine for_list (xs := vs) (fun j σ' H' => ∃ (y3 y12 y13 : Option V) (es : List Sp3) (ls : List V), σ' = [some (.ref wa), some (.int s), some (.ref B), y3, y4, y5, y6, some (.ref D), some (.ref L), some (.int i), some (.int c.1), some (.int c.2.1), y12, y13] ∧ H' D = some (.dT (kv3 es)) ∧ H' L = some (.lst ls) ∧ Paired (P2V H') ls (es.map key2) ∧ Bi (nb ts) s n es i c ((nb ts c.1).take j) ∧ es.length ≤ 80 ∧ Same H2 H') ⟨_, _, _, es, ls, rfl, hD5, hL5, hl5, bq.go ec, by omega, s5⟩ (fun j σ' H' _ h => by
          obtain ⟨_, _, _, _, _, _, _, _, _, _, _, s6⟩ := h
          exact SqL.of (s6 _ _ hv)) ?_ ?_
        · clear hD5 hL5 hl5 bq s5 ll hlt hil ec ev hac fw hB5
          rintro j u σ' H6 eu ⟨y3, y12, y13, es, ls, rfl, hD6, hL6, hl6, bi, few6, s6⟩
          obtain ⟨q, eq, b, rfl, hb⟩ := Paired.at hpv eu
          have hqm := List.mem_of_getElem? eq
          have qr := hNr _ _ hqm
          have etk : (nb ts c.1).take (j + 1) = (nb ts c.1).take j ++ [q] := by rw [List.take_add_one, eq]; rfl
          have ll : ls.length = es.length := by rw [Paired.length hl6, List.length_map]
          refine ⟨b, _, rfl, SqT.of (s6 _ _ hb), rfl, _, _, rfl, _, _, rfl, rfl, ?_⟩
          refine ⟨.int q.1, rfl, .int c.2.1, rfl, .int q.2, rfl, c.2.1, q.2, rfl, rfl, _, 2, rfl, rfl, (show (0 : Int) < 2 by decide), by show 2 ≤ sizeLine; decide, fun Z nZ => ?_⟩
          have eZ := same_new (o := .tup [.int q.1, .int ((c.2.1 + q.2) % 2)]) nZ
          have hD7 := eZ _ _ hD6
          have hL7 := eZ _ _ hL6
          have hl7 := p2_tk (Same.tk eZ) hl6
          have s7 := s6.trans eZ
          have hZ7 := upd_same (H := H6) (a := Z) (o := .tup [.int q.1, .int ((c.2.1 + q.2) % 2)])
          have ZD : Z ≠ D := (ne_of_none hD6 nZ).symm
          generalize upd H6 Z (.tup [.int q.1, .int ((c.2.1 + q.2) % 2)]) = H7 at hD7 hL7 hl7 s7 hZ7
          refine ⟨.ref Z, rfl, .ref D, rfl, D, _, rfl, DGet.t (k := [Sum.inl q.1, Sum.inl ((c.2.1 + q.2) % 2)]) hD7 hZ7, _, rfl, ?_⟩
          by_cases hin : (q.1, (c.2.1 + q.2) % 2) ∈ es.map key2
          · obtain ⟨v, hv'⟩ := key_in hin
            rw [kv3_some bi.nd hv']
            exact ⟨_, _, _, es, ls, rfl, hD7, hL7, hl7, by rw [etk]; exact bi.old hin, few6, s7⟩
          · rw [kv3_none hin]
            have bn := bi.new hin qr
            have f80 : es.length + 1 ≤ 80 := by
              have := (Bi.few bn)
              rw [List.length_append] at this
              simp at this
              omega
            refine ⟨.ref D, rfl, .int c.1, rfl, .int c.2.1, rfl, by show 2 ≤ sizeLine; decide, fun Y nY => ?_⟩
            have eY := same_new (o := .tup [.int c.1, .int c.2.1]) nY
            have gt : DGet (upd H7 Y (.tup [.int c.1, .int c.2.1])) D (.ref Y) (some (.int c.2.2)) := by
              rw [← kv3_some bi.nd (show (c.1, c.2.1, c.2.2) ∈ es from List.mem_of_getElem? bi.at')]
              exact DGet.t (k := [Sum.inl c.1, Sum.inl c.2.1]) (eY _ _ hD7) upd_same
            refine ⟨D, _, rfl, gt, c.2.2, 1, rfl, rfl, .ref D, rfl, .ref Z, rfl, D, _, rfl, DPut.t (k := [Sum.inl q.1, Sum.inl ((c.2.1 + q.2) % 2)]) (eY _ _ hD7) (eY _ _ hZ7) (by rw [kv3_len]; exact small1000 (by omega)), ?_⟩
            rw [kv3_put hin]
            have tk8 : Tk (upd H7 Y (.tup [.int c.1, .int c.2.1])) (upd (upd H7 Y (.tup [.int c.1, .int c.2.1])) D (.dT (kv3 (es ++ [(q.1, (c.2.1 + q.2) % 2, c.2.2 + 1)])))) := fun b xs e => by
              rw [upd_ne (ne_of e (eY _ _ hD7) (by intro z; cases z))]
              exact e
            have hL8 : (upd (upd H7 Y (.tup [.int c.1, .int c.2.1])) D (.dT (kv3 (es ++ [(q.1, (c.2.1 + q.2) % 2, c.2.2 + 1)])))) L = some (.lst ls) := by rw [upd_ne hLD]; exact eY _ _ hL7
            refine ⟨.ref L, rfl, .inl ⟨rfl, _, SqL.of hL8⟩, .ref Z, rfl, L, ls, _, rfl, rfl, hL8, small1000 (by omega), ?_⟩
            have tk9 := tk_lst (ys := ls ++ [.ref Z]) hL8
            have tk := (Same.tk eY).trans (tk8.trans tk9)
            refine ⟨_, _, _, es ++ [(q.1, (c.2.1 + q.2) % 2, c.2.2 + 1)], ls ++ [.ref Z], rfl, by rw [upd_ne (Ne.symm hLD)]; exact upd_same, upd_same, ?_, by rw [etk]; exact bn, by rw [List.length_append]; exact f80, Same.mut (Same.mut (s7.trans eY) nD) nL2⟩
            rw [List.map_append]
            exact Paired.snoc (p2_tk tk hl7) ⟨Z, rfl, tk _ _ hZ7⟩
        · rintro σ' H6 ⟨y3, y12, y13, es, ls, rfl, hD6, hL6, hl6, bi, few6, s6⟩
          rw [Paired.length hpv, List.take_length] at bi
          exact ⟨_, _, _, _, _, _, es, ls, rfl, hD6, hL6, hl6, bi.end', s6⟩
      · have hlt : ¬ (i : Int) < (ls.length : Int) := fun z => hlt (decide_eq_true z)
        refine ⟨_, _, _, _, _, _, es, ls, rfl, hD5, hL5, hl5, ⟨bq.nd, bq.root, bq.ok, bq.mono, fun c hc => ?_, fun j e hj ej => ?_⟩, s5⟩
        · have := (List.getElem?_eq_some_iff.mp hc).1
          omega
        · have := (List.getElem?_eq_some_iff.mp ej).1
          exact bq.done j e (by omega) ej
    · rintro σ' H5 ⟨y3, y9, y10, y11, y12, y13, es, ls, rfl, hD5, hL5, hl5, bq, s5⟩
      have fw := bq.few
      exact ⟨.ref D, rfl, q D es H5 (s2.trans s5) hD5 (bq.far (by omega)) (by omega)⟩
end
/-! ### rows and layers -/
def gI (row : List Int) (i : Int) : Int := row.getD i.toNat 0
def nearZ (a b : Int) : Bool := decide (a - b ≤ 1) && decide (b - a ≤ 1)
def nearI (row : List Int) (t : Tie) : Bool := nearZ (gI row (2 * t.one)) (gI row (2 * t.other + bI t.foe)) && nearZ (gI row (2 * t.one + 1)) (gI row (2 * t.other + 1 - bI t.foe))
structure RowG (ts : List Tie) (n : Nat) (s : Int) (row : List Int) : Prop where
  len : row.length = 2 * n
  pos : ∀ x ∈ row, 0 ≤ x
  up : ∀ x ∈ row, x ≤ 10 ^ 9
  zero : gI row (2 * s) = 0
  near : ∀ t ∈ ts, nearI row t = true
def rowL (f : Int → Int → Int) : Nat → List Int
  | 0 => []
  | n + 1 => rowL f n ++ [f n 0, f n 1]
theorem rowL_len (f : Int → Int → Int) : ∀ n, (rowL f n).length = 2 * n
  | 0 => rfl
  | n + 1 => by
    show (rowL f n ++ [f n 0, f n 1]).length = _
    rw [List.length_append, rowL_len f n]
    show 2 * n + 2 = _
    omega
theorem rowL_get (f : Int → Int → Int) {x o : Int} (h0 : 0 ≤ x) (ho : o = 0 ∨ o = 1) : ∀ {n : Nat}, x < n → gI (rowL f n) (2 * x + o) = f x o
  | 0, h => by omega
  | n + 1, h => by
    show (rowL f n ++ [f n 0, f n 1]).getD (2 * x + o).toNat 0 = _
    rw [List.getD_eq_getElem?_getD]
    by_cases e : x < n
    · rw [List.getElem?_append_left (by rw [rowL_len]; omega)]
      have := rowL_get f h0 ho e
      unfold gI at this
      rw [List.getD_eq_getElem?_getD] at this
      exact this
    · have e : x = n := by omega
      subst e
      rw [List.getElem?_append_right (by rw [rowL_len]; omega), rowL_len]
      rcases ho with rfl | rfl
      · rw [show ((2 * ((n : Nat) : Int) + 0).toNat - 2 * n) = 0 from by omega]
        rfl
      · rw [show ((2 * ((n : Nat) : Int) + 1).toNat - 2 * n) = 1 from by omega]
        rfl
theorem rowL_mem (f : Int → Int → Int) {v : Int} : ∀ {n : Nat}, v ∈ rowL f n → ∃ x o, v = f x o
  | n + 1, h => by
    rcases List.mem_append.mp h with z | z
    · exact rowL_mem f z
    · simp only [List.mem_cons, List.not_mem_nil, or_false] at z
      rcases z with z | z
      · exact ⟨_, _, z⟩
      · exact ⟨_, _, z⟩
def numV (es : List Sp3) (bey cap : Int) (half : Bool) (x o : Int) : Int := let v := (farV es x o).getD bey; let u := if half = true then v / 2 else v; if cap < u then cap else u
theorem num_near {u v cap : Int} {half : Bool} (h1 : u ≤ v + 1) (h2 : v ≤ u + 1) : nearZ (let w := if half = true then u / 2 else u; if cap < w then cap else w) (let w := if half = true then v / 2 else v; if cap < w then cap else w) = true := by
  unfold nearZ
  simp only [Bool.and_eq_true, decide_eq_true_eq]
  cases half
  · simp only [Bool.false_eq_true, if_false]
    constructor <;> split <;> split <;> omega
  · simp only [if_true]
    constructor <;> split <;> split <;> omega
theorem numV_near {ts : List Tie} {s : Int} {n : Nat} {es : List Sp3} {bey cap : Int} {half : Bool} (h : Far ts s n es) {t : Tie} (ht : t ∈ ts) {o : Int} (ho : o = 0 ∨ o = 1) : nearZ (numV es bey cap half t.one o) (numV es bey cap half t.other ((o + bI t.foe) % 2)) = true := by
  unfold numV
  rcases h.along ht ho with ⟨e1, e2⟩ | ⟨u, v, e1, e2, _, _, l1, l2⟩
  · rw [e1, e2]
    exact num_near (by omega) (by omega)
  · rw [e1, e2]
    exact num_near l1 l2
theorem numV_pos {ts : List Tie} {s : Int} {n : Nat} {es : List Sp3} {bey cap : Int} {half : Bool} (h : Far ts s n es) (hb : 0 ≤ bey) (hc : 0 ≤ cap) (x o : Int) : 0 ≤ numV es bey cap half x o := by
  have : 0 ≤ (farV es x o).getD bey := by
    by_cases e : (x, o) ∈ es.map key2
    · obtain ⟨v, hv⟩ := key_in e
      rw [farV_some h.nd hv]
      exact (h.ok _ hv).v
    · rw [farV_none e]
      exact hb
  unfold numV
  simp only
  cases half
  · simp only [Bool.false_eq_true, if_false]
    split <;> omega
  · simp only [if_true]
    split <;> omega
theorem row_good {ts : List Tie} {s : Int} {n : Nat} {es : List Sp3} {bey cap : Int} {half : Bool} (h : Far ts s n es) (ok : WebOk n ts) (hs : 0 ≤ s ∧ s < n) (hb : 0 ≤ bey) (hc : 0 ≤ cap) (hc9 : cap ≤ 10 ^ 9) : RowG ts n s (rowL (numV es bey cap half) n) := by
  refine ⟨rowL_len _ _, fun x hx => ?_, fun x hx => ?_, ?_, fun t ht => ?_⟩
  · obtain ⟨a, b, rfl⟩ := rowL_mem _ hx
    exact numV_pos h hb hc a b
  · obtain ⟨a, b, rfl⟩ := rowL_mem _ hx
    unfold numV
    simp only
    split <;> omega
  · have := rowL_get (numV es bey cap half) (o := 0) hs.1 (.inl rfl) hs.2
    rw [Int.add_zero] at this
    rw [this]
    unfold numV
    rw [farV_some h.nd h.root]
    simp only [Option.getD_some]
    cases half <;> simp <;> omega
  · have o := ok.ok t ht
    have n0 := numV_near (bey := bey) (cap := cap) (half := half) h ht (o := 0) (.inl rfl)
    have n1 := numV_near (bey := bey) (cap := cap) (half := half) h ht (o := 1) (.inr rfl)
    have g1 := rowL_get (numV es bey cap half) (o := 0) o.1 (.inl rfl) o.2.1
    have g2 := rowL_get (numV es bey cap half) (o := 1) o.1 (.inr rfl) o.2.1
    have g3 := rowL_get (numV es bey cap half) (o := 0) o.2.2.1 (.inl rfl) o.2.2.2.1
    have g4 := rowL_get (numV es bey cap half) (o := 1) o.2.2.1 (.inr rfl) o.2.2.2.1
    unfold nearI
    rw [Int.add_zero] at g1 g3
    cases hf : t.foe
    · rw [hf] at n0 n1
      have e0 : bI false = 0 := rfl
      rw [e0] at n0 n1 ⊢
      rw [Int.add_zero, Int.sub_zero, g1, g3, g2, g4]
      rw [show ((0 : Int) + 0) % 2 = 0 from rfl] at n0
      rw [show ((1 : Int) + 0) % 2 = 1 from rfl] at n1
      rw [n0, n1]
      rfl
    · rw [hf] at n0 n1
      have e0 : bI true = 1 := rfl
      rw [e0] at n0 n1 ⊢
      rw [Int.add_sub_cancel, g1, g4, g2, g3]
      rw [show ((0 : Int) + 1) % 2 = 1 from rfl] at n0
      rw [show ((1 : Int) + 1) % 2 = 0 from rfl] at n1
      rw [n0, n1]
      rfl
def spRow15 : Sp := fun vs H Q _ => ∃ (wv : V) (n : Nat) (ts : List Tie) (s bey cap : Int) (half : Bool), vs = [wv, .int s, .int bey, .int cap, .bl half] ∧ WebAt H wv n ts ∧ WebOk n ts ∧ (0 ≤ s ∧ s < n) ∧ 0 ≤ bey ∧ (0 ≤ cap ∧ cap ≤ 10 ^ 9) ∧ ∀ r row H', Same H H' → H' r = some (.tup (row.map V.int)) → RowG ts n s row → Q (.ref r) H'
def LayAt (H : Hp) (v : V) (n : Nat) (ts : List Tie) (rs : List (List Int)) : Prop := ∃ a vs, v = .ref a ∧ H a = some (.tup vs) ∧ Paired (IntsV H) vs rs ∧ rs.length = n ∧ ∀ (s : Nat) row, rs[s]? = some row → RowG ts n s row
theorem LayAt.tk {H H' : Hp} (k : Tk H H') {v : V} {n : Nat} {ts : List Tie} {rs : List (List Int)} (h : LayAt H v n ts rs) : LayAt H' v n ts rs := by
  obtain ⟨a, vs, e, h1, h2, h3, h4⟩ := h
  exact ⟨a, vs, e, k _ _ h1, Paired.mono (fun _ _ x => x.tk k) h2, h3, h4⟩
def spLayers : Sp := fun vs H Q _ => ∃ (d : Addr) (b : Nat) (wv : V) (n : Nat) (ts : List Tie), vs = [.ref d, wv] ∧ Well H d b ∧ b < 2 ^ 50 ∧ WebAt H wv n ts ∧ WebOk n ts ∧ ∀ v rs H', LayAt H' v n ts rs → Well H' d (b + 200) → Kp d d H H' → Q v H'
section
variable {P : Program} {w : World} {K : PySem.W.Frag} {mg : Str → Option Value} {base : Heap}
theorem ok_l_row {f : Addr} {fd : FuncData} (F : Fun K "_law_row" "_law_row" s_l_row f fd) (M : Free mg) (m_min : mg "min" = none) (D_l_far : Df P w K mg base 1 "_law_far" ["_law_web_here", "_law_place"] spFar) : FnOk P w K mg base CX0 2 f fd ["_law_web_here", "_law_place", "_law_beyond", "_law_cap", "_law_half"] spRow15 := by
  obtain ⟨f_l_far, fd_l_far, G_l_far, g_l_far, k_l_far, b_l_far⟩ := D_l_far
  refine F.ok sc_l_row (fun vs H Q E h => ?_) (fun cdv A outer sh H vs Q E hr h => ?_)
  · obtain ⟨wv, n, ts, s, bey, cap, half, rfl, _⟩ := h
    rfl
  · obtain ⟨wv, n, ts, s, bey, cap, half, rfl, hW, ok, hs, hb, hc, q⟩ := h
    have hu := room1 hr
    refine ⟨_, (pss_cons (ps_set (i := 5) sc_l_row.nd rfl (.inl rfl) (pe_call G_l_far (hr.mono (by decide)) (by rfl) g_l_far k_l_far b_l_far .nil pass0 (pa_cons (pv 0) (pa_cons (pv 1) pa_nil))))
      (pss_cons (ps_set (i := 6) sc_l_row.nd rfl (.inl rfl) (pe_lst pa_nil))
      (pss_cons (ps_for PassesOwn.never rfl (pi_range1 (by rfl) M.range (pa_cons (pe_ix ix_tup (pv 0) pe_int (fun _ _ => rfl)) pa_nil)) (pg_name (i := 7) sc_l_row.nd rfl (.inl rfl))
        (pss_one (ps_for PassesOwn.never rfl (pi_tup (pe_tup (pa_cons pe_int (pa_cons pe_int pa_nil)))) (pg_name (i := 8) sc_l_row.nd rfl (.inl rfl))
          (pss_cons (ps_set (i := 9) sc_l_row.nd rfl (.inl rfl) (pe_dget2 hu (pv 5) (pe_tup (pa_cons (pv 7) (pa_cons (pv 8) pa_nil))) (pv 2) ⟨rfl, rfl, rfl, rfl⟩))
          (Evl.pss_cut (ps_if (pt_val (pv 4))
            (pss_one (ps_set (i := 9) sc_l_row.nd rfl (.inl rfl) (pe_op op_fdiv (pv 9) pe_int)))
            pss_nil)
          (pss_one (ps_expr (pe_bm PySem.F.plainAttrs_list PySem.F.slot_list_append PySem.F.type_list_append mt_append (pv 6) (pa_cons (pe_callB (call_min2 rfl) (by rfl) m_min (by decide +kernel) (pa_cons (pv 9) (pa_cons (pv 3) pa_nil))) pa_nil)))))))))
      (pss_one (ps_ret (pe_callTy call_tuple_of (by rfl) M.tuple (by decide +kernel) (pa_cons (pv 6) pa_nil))))))), ?_⟩
    obtain ⟨wa, wb, us, rfl, hwa, hwb, hp⟩ := id hW
    have n1 : 1 ≤ n := by have := ok.lo; omega
    have n40 : n ≤ 40 := by have := ok.hi; omega
    refine ⟨.ref wa, rfl, .int s, rfl, .ref wa, n, ts, s, rfl, hW, ok, hs, fun D es H1 s1 hD far few => ?_⟩
    refine ⟨Nat.zero_le _, fun L nL => ?_⟩
    have eL := same_new (o := .lst []) nL
    have nL0 : H L = none := s1.free nL
    have hD2 := eL _ _ hD
    have hL2 := upd_same (H := H1) (a := L) (o := .lst [])
    have s2 := s1.trans eL
    have hLD : L ≠ D := (ne_of_none hD nL).symm
    generalize upd H1 L (.lst []) = H2 at hD2 hL2 s2
    refine ⟨.ref wa, rfl, wa, _, 0, .int n, rfl, rfl, SqT.of (s2 _ _ hwa), rfl, n, rfl, by omega, by omega, ?_⟩
    rw [Int.toNat_natCast]
    refine for_range (lo := 0) (n := n) (fun i σ' H' => ∃ (y7 y8 y9 : Option V), σ' = [some (.ref wa), some (.int s), some (.int bey), some (.int cap), some (.bl half), some (.ref D), some (.ref L), y7, y8, y9] ∧ H' L = some (.lst ((rowL (numV es bey cap half) i).map V.int)) ∧ H' D = some (.dT (kv3 es)) ∧ Same H H') ⟨none, none, none, rfl, hL2, hD2, s2⟩ ?_ ?_
    · clear hL2 hD2 s2 eL nL hD s1
      rintro i σ' H3 hi ⟨y7, y8, y9, rfl, hL, hD, s3⟩
      rw [show (0 : Int) + (i : Nat) = i from by omega]
      refine ⟨by show 2 ≤ sizeLine; decide, fun t0 nt => ?_⟩
      have et := same_new (o := .tup [.int 0, .int 1]) nt
      refine ⟨t0, rfl, ⟨_, SqT.of upd_same⟩, ?_⟩
      refine for_tup (xs := [V.int 0, V.int 1]) (fun j σ' H' => ∃ (y8 y9 : Option V), σ' = [some (.ref wa), some (.int s), some (.int bey), some (.int cap), some (.bl half), some (.ref D), some (.ref L), some (.int i), y8, y9] ∧ H' t0 = some (.tup [.int 0, .int 1]) ∧ H' L = some (.lst ((rowL (numV es bey cap half) i ++ [numV es bey cap half i 0, numV es bey cap half i 1].take j).map V.int)) ∧ H' D = some (.dT (kv3 es)) ∧ Same H H') ⟨_, _, rfl, upd_same, by rw [List.take_zero, List.append_nil]; exact et _ _ hL, et _ _ hD, s3.trans et⟩ (fun j σ' H' _ h => by
        obtain ⟨_, _, _, h, _⟩ := h
        exact SqT.of h) ?_ ?_
      · clear hL hD s3
        rintro j v σ' H4 ev ⟨y8, y9, rfl, ht0, hL, hD, s4⟩
        obtain ⟨o, rfl, ho, hto⟩ : ∃ o : Int, v = .int o ∧ (o = 0 ∨ o = 1) ∧ [numV es bey cap half i 0, numV es bey cap half i 1].take (j + 1) = [numV es bey cap half i 0, numV es bey cap half i 1].take j ++ [numV es bey cap half i o] := by
          match j, ev with
          | 0, ev => exact ⟨0, (Option.some.inj ev).symm, .inl rfl, rfl⟩
          | 1, ev => exact ⟨1, (Option.some.inj ev).symm, .inr rfl, rfl⟩
          | j + 2, ev => simp at ev
        refine ⟨.ref D, rfl, D, rfl, .inr ⟨_, .inl hD⟩, .int i, rfl, .int o, rfl, by show 2 ≤ sizeLine; decide, fun k0 nk => ?_⟩
        have ek := same_new (o := .tup [.int i, .int o]) nk
        have hget : ∃ g : Option V, DGet (upd H4 k0 (.tup [.int i, .int o])) D (.ref k0) g ∧ g.getD (.int bey) = .int ((farV es i o).getD bey) := by
          refine ⟨_, DGet.t (k := [Sum.inl (i : Int), Sum.inl o]) (ek _ _ hD) upd_same, ?_⟩
          by_cases e : ((i : Int), o) ∈ es.map key2
          · obtain ⟨v, hv⟩ := key_in e
            rw [kv3_some far.nd hv, farV_some far.nd hv]
            rfl
          · rw [kv3_none e, farV_none e]
            rfl
        obtain ⟨g, hg, eg⟩ := hget
        refine ⟨.int bey, rfl, g, hg, ?_⟩
        rw [eg]
        have ht5 := ek _ _ ht0
        have hL5 := ek _ _ hL
        have hD5 := ek _ _ hD
        have s5 := s4.trans ek
        generalize upd H4 k0 (.tup [.int i, .int o]) = H5 at ht5 hL5 hD5 s5
        refine ⟨fun σ' H' => σ' = [some (.ref wa), some (.int s), some (.int bey), some (.int cap), some (.bl half), some (.ref D), some (.ref L), some (.int i), some (.int o), some (.int (if half = true then ((farV es i o).getD bey) / 2 else (farV es i o).getD bey))] ∧ H' = H5, ?_, ?_⟩
        · refine ⟨.bl half, rfl, half, rfl, ?_⟩
          cases half
          · exact ⟨rfl, rfl⟩
          · exact ⟨.int _, rfl, _, 2, rfl, rfl, ⟨by decide, by decide⟩, rfl, rfl⟩
        rintro σ' H' ⟨rfl, eH⟩
        subst eH
        have ll : ((rowL (numV es bey cap half) i ++ [numV es bey cap half i 0, numV es bey cap half i 1].take j).map V.int).length ≤ 100 := by
          rw [List.length_map, List.length_append, rowL_len, List.length_take]
          simp
          omega
        refine ⟨.ref L, rfl, .inl ⟨rfl, _, SqL.of hL5⟩, .int _, rfl, .int cap, rfl, _, cap, rfl, L, _, _, rfl, rfl, hL5, small1000 (by omega), ?_⟩
        refine ⟨_, _, rfl, by rw [upd_ne (ne_of ht5 hL5 (by intro z; cases z))]; exact ht5, ?_, by rw [upd_ne (Ne.symm hLD)]; exact hD5, Same.mut s5 nL0⟩
        rw [upd_same, hto]
        simp only [List.map_append, List.append_assoc]
        rfl
      · rintro σ' H4 ⟨y8, y9, rfl, ht0, hL, hD, s4⟩
        exact ⟨_, _, _, rfl, hL, hD, s4⟩
    · rintro σ' H3 ⟨y7, y8, y9, rfl, hL, hD, s3⟩
      refine ⟨.ref L, rfl, L, _, rfl, .inl ⟨SqL.of hL, fun r nr => ?_⟩⟩
      exact q r _ _ (s3.trans (same_new nr)) upd_same (row_good far ok hs hb hc.1 hc.2)
theorem ok_l_layers {f : Addr} {fd : FuncData} (F : Fun K "_law_layers" "_law_layers" s_l_layers f fd) (M : Free mg) (D_l_draw : Df P w K mg base 1 "_law_draw" ["_law_well_here", "_law_many"] spDraw) (D_l_row : Df P w K mg base 2 "_law_row" ["_law_web_here", "_law_place", "_law_beyond", "_law_cap", "_law_half"] spRow15) : FnOk P w K mg base CX0 3 f fd ["_law_well_here", "_law_web_here"] spLayers := by
  obtain ⟨f_l_draw, fd_l_draw, G_l_draw, g_l_draw, k_l_draw, b_l_draw⟩ := D_l_draw
  obtain ⟨f_l_row, fd_l_row, G_l_row, g_l_row, k_l_row, b_l_row⟩ := D_l_row
  refine F.ok sc_l_layers (fun vs H Q E h => ?_) (fun cdv A outer s H vs Q E hr h => ?_)
  · obtain ⟨d, b, wv, n, ts, rfl, _⟩ := h
    rfl
  · obtain ⟨d, b, wv, n, ts, rfl, hD, hB, hW, ok, q⟩ := h
    refine ⟨_, (pss_cons (ps_set (i := 2) sc_l_layers.nd rfl (.inl rfl) (pe_lst pa_nil))
      (pss_cons (ps_for PassesOwn.never rfl (pi_range1 (by rfl) M.range (pa_cons (pe_ix ix_tup (pv 1) pe_int (fun _ _ => rfl)) pa_nil)) (pg_name (i := 3) sc_l_layers.nd rfl (.inl rfl))
        (pss_cons (ps_set (i := 4) sc_l_layers.nd rfl (.inl rfl) (pe_call G_l_draw (hr.mono (by decide)) (by rfl) g_l_draw k_l_draw b_l_draw .nil pass0 (pa_cons (pv 0) (pa_cons pe_int pa_nil))))
        (pss_cons (ps_set (i := 5) sc_l_layers.nd rfl (.inl rfl) (pe_call G_l_draw (hr.mono (by decide)) (by rfl) g_l_draw k_l_draw b_l_draw .nil pass0 (pa_cons (pv 0) (pa_cons pe_int pa_nil))))
        (pss_cons (ps_set (i := 6) sc_l_layers.nd rfl (.inl rfl) (pe_call G_l_draw (hr.mono (by decide)) (by rfl) g_l_draw k_l_draw b_l_draw .nil pass0 (pa_cons (pv 0) (pa_cons pe_int pa_nil))))
        (Evl.pss_cut (ps_if (pt_cmpR op_lt (pv 4) pe_int (nomark _))
          (pss_one (ps_set (i := 6) sc_l_layers.nd rfl (.inl rfl) (pe_op op_pow pe_int pe_int)))
          pss_nil)
        (pss_one (ps_expr (pe_bm PySem.F.plainAttrs_list PySem.F.slot_list_append PySem.F.type_list_append mt_append (pv 2) (pa_cons (pe_call G_l_row (hr.mono (by decide)) (by rfl) g_l_row k_l_row b_l_row .nil pass0 (pa_cons (pv 1) (pa_cons (pv 3) (pa_cons (pv 5) (pa_cons (pv 6) (pa_cons (pe_cmpR op_eq (pv 4) pe_int (nomark _)) pa_nil)))))) pa_nil)))))))))
      (pss_one (ps_ret (pe_callTy call_tuple_of (by rfl) M.tuple (by decide +kernel) (pa_cons (pv 2) pa_nil)))))), ?_⟩
    obtain ⟨wa, wb, us, rfl, hwa, hwb, hp⟩ := id hW
    have n1 : 1 ≤ n := by have := ok.lo; omega
    have n40 : n ≤ 40 := by have := ok.hi; omega
    refine ⟨Nat.zero_le _, fun L nL => ?_⟩
    have ld := hD.ned nL
    have eL := same_new (o := .lst []) nL
    have D1 := hD.same eL
    have K1 : Kp d d H (upd H L (.lst [])) := Same.kp eL
    have hL1 := upd_same (H := H) (a := L) (o := .lst [])
    have hW1 := hW.tk (Same.tk eL)
    generalize upd H L (.lst []) = H1 at D1 K1 hL1 hW1 eL
    refine ⟨.ref wa, rfl, wa, _, 0, .int n, rfl, rfl, SqT.of (eL _ _ hwa), rfl, n, rfl, by omega, by omega, ?_⟩
    rw [Int.toNat_natCast]
    refine for_range (lo := 0) (n := n) (fun i σ' H' => ∃ (y3 y4 y5 y6 : Option V) (vs : List V) (rs : List (List Int)), σ' = [some (.ref d), some (.ref wa), some (.ref L), y3, y4, y5, y6] ∧ H' L = some (.lst vs) ∧ Paired (IntsV H') vs rs ∧ rs.length = i ∧ (∀ (s : Nat) row, rs[s]? = some row → RowG ts n s row) ∧ WebAt H' (.ref wa) n ts ∧ Well H' d (b + 3 * i) ∧ Kp d d H H') ⟨none, none, none, none, [], [], rfl, hL1, .nil, rfl, fun s row e => (by simp at e), hW1, D1, K1⟩ ?_ ?_
    · clear hL1 hW1 D1 K1 eL
      rintro i σ' H2 hi ⟨y3, y4, y5, y6, vs, rs, rfl, hL, hpr, lr, rg, hW2, D2, K2⟩
      rw [show (0 : Int) + (i : Nat) = i from by omega]
      refine ⟨.ref d, rfl, d, _, 6, rfl, D2, by omega, by decide, by decide, fun wy H3 a3 b3 D3 K3 => ?_⟩
      refine ⟨.ref d, rfl, d, _, 60, rfl, D3, by omega, by decide, by decide, fun bey H4 a4 b4 D4 K4 => ?_⟩
      refine ⟨.ref d, rfl, d, _, 8, rfl, D4, by omega, by decide, by decide, fun cap H5 a5 b5 D5 K5 => ?_⟩
      have K25 := (K3.trans K4).trans K5
      have tk := ((K3.tk D2).trans (K4.tk D3)).trans (K5.tk D4)
      refine ⟨fun σ' H' => ∃ cap : Int, σ' = [some (.ref d), some (.ref wa), some (.ref L), some (.int i), some (.int wy), some (.int bey), some (.int cap)] ∧ (0 ≤ cap ∧ cap ≤ 10 ^ 9) ∧ H' = H5, ?_, ?_⟩
      · refine ⟨.int wy, rfl, wy, 4, rfl, rfl, _, rfl, ?_⟩
        refine ite2 (fun _ => ?_) (fun _ => ⟨cap, rfl, ⟨a5, by omega⟩, rfl⟩)
        exact ⟨10, 9, rfl, rfl, ⟨by decide, by decide, by decide⟩, _, rfl, ⟨by decide, by decide⟩, rfl⟩
      rintro σ' H' ⟨cap, rfl, hcap, eH⟩
      subst eH
      have hL5 := K25 _ _ ld ld hL
      have hp5 : Paired (IntsV H') vs rs := Paired.mono (fun _ _ x => x.tk tk) hpr
      have lv : vs.length = rs.length := Paired.length hpr
      refine ⟨.ref L, rfl, .inl ⟨rfl, _, SqL.of hL5⟩, .ref wa, rfl, .int i, rfl, .int bey, rfl, .int cap, rfl, .int wy, rfl, rfl, .ref wa, n, ts, i, bey, cap, _, rfl, hW2.tk tk, ok, ⟨by omega, by omega⟩, a4, hcap, fun r row H6 s6 hr6 good => ?_⟩
      have hL6 := s6 _ _ hL5
      refine ⟨L, vs, _, rfl, rfl, hL6, small1000 (by omega), ?_⟩
      have tk6 := tk_lst (ys := vs ++ [.ref r]) hL6
      have tkk := (Same.tk s6).trans tk6
      refine ⟨_, _, _, _, vs ++ [.ref r], rs ++ [row], rfl, upd_same, Paired.snoc (Paired.mono (fun _ _ x => x.tk tkk) hp5) ⟨r, rfl, tk6 _ _ hr6⟩, by simp [lr], fun s2 row2 e2 => ?_, (hW2.tk tk).tk tkk, ((D5.same s6).mut ld).mono (by omega), ((K2.trans K25).trans (Same.kp s6)).mut nL⟩
      by_cases hs2 : s2 < rs.length
      · rw [List.getElem?_append_left hs2] at e2
        exact rg s2 row2 e2
      · have : s2 = i := by
          have := (List.getElem?_eq_some_iff.mp e2).1
          rw [List.length_append] at this
          simp at this
          omega
        subst this
        rw [← lr, List.getElem?_append_right (Nat.le_refl _)] at e2
        have : row = row2 := by simpa using e2
        subst this
        exact good
    · rintro σ' H2 ⟨y3, y4, y5, y6, vs, rs, rfl, hL, hpr, lr, rg, hW2, D2, K2⟩
      refine ⟨.ref L, rfl, L, _, rfl, .inl ⟨SqL.of hL, fun r nr => ?_⟩⟩
      have er := same_new (o := .tup vs) nr
      exact q _ rs _ ⟨r, vs, rfl, upd_same, Paired.mono (fun _ _ x => x.tk (Same.tk er)) hpr, lr, rg⟩ ((D2.same er).mono (by omega)) (K2.trans (Same.kp er))
end
/-! ### what is asked of layers -/
def toI : V → Int
  | .int i => i
  | _ => 0
def PartK (H : Hp) (x : V) : Prop := Kn H x ∧ ∀ ys, parts H x = some ys → ∀ y ∈ ys, Kn H y
def ThingK (H : Hp) (v : V) : Prop := Kn H v ∧ ∀ xs, parts H v = some xs → ∀ x ∈ xs, PartK H x
theorem kt_parts {Ps : List Addr} {H H' : Hp} (k : Kt Ps H H') (t : Tabs Ps H) {v : V} (h : Kn H v) : parts H' v = parts H v := by
  cases v with
  | ref a =>
    unfold parts
    rcases h with ⟨xs, h⟩ | ⟨xs, h⟩ | ⟨xs, h⟩
    · simp only [h, k.lst t h]
    · simp only [h, k.tup t h]
    · simp only [h, k.dct t h]
  | _ => rfl
theorem parts_at {H : Hp} {v : V} {xs : List V} (h : parts H v = some xs) : ∃ a, v = .ref a ∧ H a = some (.tup xs) := by
  cases v with
  | ref a =>
    unfold parts at h
    cases e : H a with
    | none => simp only [e] at h; cases h
    | some o =>
      cases o with
      | tup ys => simp only [e] at h; cases h; exact ⟨a, rfl, e⟩
      | _ => simp only [e] at h; cases h
  | _ => cases h
theorem PartK.kt {Ps : List Addr} {H H' : Hp} (k : Kt Ps H H') (t : Tabs Ps H) {v : V} (h : PartK H v) : PartK H' v :=
  ⟨k.kn t h.1, fun ys e y hy => by
    rw [kt_parts k t h.1] at e
    exact k.kn t (h.2 ys e y hy)⟩
theorem ThingK.kt {Ps : List Addr} {H H' : Hp} (k : Kt Ps H H') (t : Tabs Ps H) {v : V} (h : ThingK H v) : ThingK H' v :=
  ⟨k.kn t h.1, fun ys e y hy => by
    rw [kt_parts k t h.1] at e
    exact (h.2 ys e y hy).kt k t⟩
theorem ints0 : ∀ {xs : List V}, xs.all (wfrom 0) = true → ∃ ns : List Int, xs = ns.map V.int ∧ ∀ n ∈ ns, 0 ≤ n
  | [], _ => ⟨[], rfl, fun n hn => by simp at hn⟩
  | x :: xs, h => by
    rw [List.all_cons, Bool.and_eq_true] at h
    obtain ⟨ns, e, h2⟩ := ints0 h.2
    cases x with
    | int i =>
      have h1 : decide ((0 : Int) ≤ i) = true := h.1
      refine ⟨i :: ns, by rw [e]; rfl, fun n hn => ?_⟩
      rcases List.mem_cons.mp hn with z | z
      · rw [z]
        exact of_decide_eq_true h1
      · exact h2 n z
    | _ => exact absurd (show false = true from h.1) Bool.false_ne_true
theorem all_ints {ns : List Int} (h : ∀ n ∈ ns, 0 ≤ n) : (ns.map V.int).all (wfrom 0) = true := by
  rw [List.all_eq_true]
  intro x hx
  obtain ⟨n, hn, rfl⟩ := List.mem_map.mp hx
  exact decide_eq_true (h n hn)
theorem toI_map (ns : List Int) : (ns.map V.int).map toI = ns := by
  rw [List.map_map]
  exact List.map_id ns
theorem atI_gI {ns : List Int} {i : Int} (h0 : 0 ≤ i) (h1 : i < (ns.length : Int)) : atI (ns.map V.int) i = some (.int (gI ns i)) := by
  refine atI_of h0 ?_
  unfold gI
  rw [List.getElem?_map, List.getD_eq_getElem?_getD, List.getElem?_eq_getElem (by omega)]
  rfl
def isRowB (n : Nat) : Option (List V) → Bool
  | some xs => decide (xs.length = 2 * n) && xs.all (wfrom 0)
  | none => false
def rowC (ts : List Tie) (num s : Int) (r : List Int) : Bool := decide (gI r (2 * s) = 0) && (decide (num ≤ gI r (2 * s + 1)) && ts.all (nearI r))
def rowB (n : Nat) (ts : List Tie) (num s : Int) (o : Option (List V)) : Bool := isRowB n o && rowC ts num s ((o.getD []).map toI)
def layB (H : Hp) (n : Nat) (ts : List Tie) (num : Int) (v : V) : Bool := match parts H v with
  | some rows => decide (rows.length = n) && (List.range n).all fun s : Nat => rowB n ts num (s : Int) (parts H (rows.getD s .non))
  | none => false
theorem take_all_step {α : Type} {p : α → Bool} {xs : List α} {i : Nat} {x : α} (ex : xs[i]? = some x) (h : (xs.take i).all p = true) : (xs.take (i + 1)).all p = p x := by
  rw [List.take_add_one, ex, List.all_append, h]
  simp
theorem all_no {α : Type} {p : α → Bool} {xs : List α} {i : Nat} {x : α} (ex : xs[i]? = some x) (h : p x = false) : xs.all p = false := by
  rw [Bool.eq_false_iff]
  intro z
  rw [List.all_eq_true] at z
  rw [z x (List.mem_of_getElem? ex)] at h
  cases h
theorem range_step {p : Nat → Bool} {n i : Nat} (h : (List.range i).all p = true) : (List.range (i + 1)).all p = p i := by
  rw [List.range_succ, List.all_append, h]
  simp
theorem range_no {p : Nat → Bool} {n i : Nat} (hi : i < n) (h : p i = false) : (List.range n).all p = false := by
  rw [Bool.eq_false_iff]
  intro z
  rw [List.all_eq_true] at z
  rw [z i (List.mem_range.mpr hi)] at h
  cases h
def spIsRow (Ps : List Addr) : Sp := fun vs H Q _ => ∃ (n : Nat) (v : V), vs = [.int n, v] ∧ PartK H v ∧ Tabs Ps H ∧ ∀ H', Kt Ps H H' → Q (.bl (isRowB n (parts H v))) H'
def spNear : Sp := fun vs H Q _ => ∃ a b : Int, vs = [.int a, .int b] ∧ Q (.bl (nearZ a b)) H
def spAlong : Sp := fun vs H Q _ => ∃ (a c : Addr) (n : Nat) (ns : List Int) (t : Tie), vs = [.ref a, .ref c] ∧ H a = some (.tup (ns.map V.int)) ∧ ns.length = 2 * n ∧ TieOk n t ∧ H c = some (.tup [.int t.one, .int t.other, .str (kindS t.foe)]) ∧ ∀ H', Same H H' → Q (.bl (nearI ns t)) H'
def spRowHolds (Ps : List Addr) : Sp := fun vs H Q _ => ∃ (wv : V) (n : Nat) (ts : List Tie) (num : Int) (s : Nat) (v : V), vs = [wv, .int num, .int s, v] ∧ WebAt H wv n ts ∧ WebOk n ts ∧ s < n ∧ PartK H v ∧ Tabs Ps H ∧ ∀ H', Kt Ps H H' → Q (.bl (rowB n ts num s (parts H v))) H'
def spLayersHold (Ps : List Addr) : Sp := fun vs H Q _ => ∃ (wv : V) (n : Nat) (ts : List Tie) (num : Int) (v : V), vs = [wv, .int num, v] ∧ WebAt H wv n ts ∧ WebOk n ts ∧ ThingK H v ∧ Tabs Ps H ∧ ∀ H', Kt Ps H H' → Q (.bl (layB H n ts num v)) H'
theorem mul2 (x : Int) : (-(2 ^ 20) : Int) ≤ 2 ∧ (2 : Int) ≤ 2 ^ 20 := ⟨by decide, by decide⟩
theorem dec_near (a b : Int) : decide ((if a - b < 0 then -(a - b) else a - b) ≤ 1) = nearZ a b := by
  unfold nearZ
  rw [Bool.eq_iff_iff, Bool.and_eq_true, decide_eq_true_iff, decide_eq_true_iff, decide_eq_true_iff]
  split <;> omega
section
variable {P : Program} {w : World} {K : PySem.W.Frag} {mg : Str → Option Value} {base : Heap}
theorem ok_is_row {f c Pt : Addr} {fd : FuncData} {Ps : List Addr} (F : FunC K "is_row" "is_row" s_is_row f fd c) (TB : GxR.TabB base mg c Pt) (hPt : Pt ∈ Ps) (m_all : mg "all" = none) (D_is_whole_from : Df P w K mg base 2 "is_whole_from" ["low", "thing"] spFrom) (D_is_tuple_of : Df P w K mg base 1 "is_tuple_of" ["length", "thing"] spTupleOf) : FnOk P w K mg base CX0 4 f fd ["many", "thing"] (spIsRow Ps) := by
  obtain ⟨f_is_whole_from, fd_is_whole_from, G_is_whole_from, g_is_whole_from, k_is_whole_from, b_is_whole_from⟩ := D_is_whole_from
  obtain ⟨f_is_tuple_of, fd_is_tuple_of, G_is_tuple_of, g_is_tuple_of, k_is_tuple_of, b_is_tuple_of⟩ := D_is_tuple_of
  refine F.ok sc_is_row (fun vs H Q E h => ?_) (fun A outer s H vs Q E hr h => ?_)
  · obtain ⟨n, v, rfl, _⟩ := h
    rfl
  · obtain ⟨n, v, rfl, hk, hT, q⟩ := h
    refine ⟨_, (pss_one (ps_ret (pe_and (pe_call G_is_tuple_of (hr.mono (by decide)) (by rfl) g_is_tuple_of k_is_tuple_of b_is_tuple_of .nil pass0 (pa_cons (pe_op op_mul pe_int (pv 0)) (pa_cons (pv 1) pa_nil))) (pe_one (pe_all (k := 2) (own := [("number", 2)]) (g := gName 2) hr TB rfl rfl sc_is_row.nd (by rfl) m_all (pi_tup (pv 1)) (blkOk_by (N := N_is_row) (sc := defScope s_is_row) (own := [("number", 2)]) (by decide +kernel)) ⟨rfl, by decide +kernel, by decide +kernel⟩ (show (".0" : Str) ∉ N_is_row by decide +kernel) (fun _ _ _ _ _ _ _ => (pg_name (i := 2) sc_is_row.nd rfl (.inl rfl))) (fun _ _ _ _ _ _ _ hr' => (pe_call G_is_whole_from hr' (by rfl) g_is_whole_from k_is_whole_from b_is_whole_from .nil pass0 (pa_cons pe_int (pa_cons (pv 2) pa_nil))))))))), ?_⟩
    refine ⟨.int n, rfl, 2, n, rfl, rfl, .inl ⟨by decide, by decide⟩, v, rfl, _, v, rfl, hk.1, _, rfl, ?_⟩
    cases hpv : parts H v with
    | none =>
      have e1 : lenIs H v (2 * (n : Int)) = false := by unfold lenIs; rw [hpv]
      rw [hpv] at q
      rw [e1]
      exact q _ (Kt.refl hT)
    | some xs =>
    have e1 : lenIs H v (2 * (n : Int)) = decide ((xs.length : Int) = 2 * (n : Int)) := by unfold lenIs; rw [hpv]
    rw [hpv] at q
    rw [e1]
    by_cases hl : xs.length = 2 * n
    · rw [decide_eq_true (show (xs.length : Int) = 2 * (n : Int) by omega)]
      have eb : isRowB n (some xs) = xs.all (wfrom 0) := by
        show (decide (xs.length = 2 * n) && xs.all (wfrom 0)) = _
        rw [decide_eq_true hl, Bool.true_and]
      rw [eb] at q
      obtain ⟨a, rfl, ea⟩ := parts_at hpv
      refine ⟨.ref a, rfl, a, rfl, ⟨_, SqT.of ea⟩, hT Pt hPt, fun i m H' => i + m = xs.length ∧ Kt Ps H H' ∧ (xs.take i).all (wfrom 0) = true, fun H2 hH2 => ⟨xs.length, by omega, Kt.tabbed hT hPt hH2, rfl⟩, fun i m H' hw => ?_⟩
      obtain ⟨em, kt, hal⟩ := hw
      have ea' := kt.tup hT ea
      by_cases hi : i < xs.length
      · refine .inr ⟨⟨_, _, SqT.of ea', List.getElem?_eq_getElem hi⟩, fun H3 => Kt Ps H H3 ∧ (xs.take (i + 1)).all (wfrom 0) = true, fun H3 n3 => ⟨m - 1, by omega, by omega, n3.1, n3.2⟩, fun x H3 hy => ?_⟩
        obtain ⟨rfl, fy⟩ := hy
        have ex : xs[i]? = some x := fy _ (SqT.of ea')
        refine ⟨rfl, x, rfl, 0, x, rfl, kt.kn hT (hk.2 xs hpv x (List.mem_of_getElem? ex)), _, rfl, ?_⟩
        cases hb : wfrom 0 x with
        | true => exact ⟨kt, (take_all_step ex hal).trans hb⟩
        | false =>
          rw [all_no ex hb] at q
          exact q _ kt
      · refine .inl ⟨⟨_, SqT.of ea', by omega⟩, ?_⟩
        rw [List.take_of_length_le (by omega)] at hal
        rw [hal] at q
        exact q _ kt
    · rw [decide_eq_false (show ¬ (xs.length : Int) = 2 * (n : Int) by omega)]
      have eb : isRowB n (some xs) = false := by
        show (decide (xs.length = 2 * n) && xs.all (wfrom 0)) = _
        rw [decide_eq_false hl, Bool.false_and]
      rw [eb] at q
      exact q _ (Kt.refl hT)
theorem ok_are_near {f : Addr} {fd : FuncData} (F : Fun K "are_near" "are_near" s_are_near f fd) (m_abs : mg "abs" = none) : FnOk P w K mg base CX0 1 f fd ["one", "other"] spNear := by
  refine F.ok sc_are_near (fun vs H Q E h => ?_) (fun cdv A outer s H vs Q E hr h => ?_)
  · obtain ⟨a, b, rfl, _⟩ := h
    rfl
  · obtain ⟨a, b, rfl, q⟩ := h
    refine ⟨_, (pss_one (ps_ret (pe_cmpR op_le (pe_callB call_abs (by rfl) m_abs (by decide +kernel) (pa_cons (pe_op op_sub (pv 0) (pv 1)) pa_nil)) pe_int (nomark _)))), ?_⟩
    refine ⟨.int a, rfl, .int b, rfl, a, b, rfl, rfl, _, rfl, _, 1, rfl, rfl, ?_⟩
    rw [← dec_near] at q
    exact q
theorem ok_near_along {f : Addr} {fd : FuncData} (F : Fun K "near_along" "near_along" s_near_along f fd) (D_are_near : Df P w K mg base 1 "are_near" ["one", "other"] spNear) : FnOk P w K mg base CX0 2 f fd ["row", "tie"] spAlong := by
  obtain ⟨f_are_near, fd_are_near, G_are_near, g_are_near, k_are_near, b_are_near⟩ := D_are_near
  refine F.ok sc_near_along (fun vs H Q E h => ?_) (fun cdv A outer s H vs Q E hr h => ?_)
  · obtain ⟨a, c, n, ns, t, rfl, _⟩ := h
    rfl
  · obtain ⟨a, c, n, ns, t, rfl, ha, ln, okt, hc, q⟩ := h
    refine ⟨_, (pss_cons (ps_asg (pv 1) (pg_tup rfl (pgs_cons (pg_name (i := 2) sc_near_along.nd rfl (.inl rfl)) (pgs_cons (pg_name (i := 3) sc_near_along.nd rfl (.inl rfl)) (pgs_cons (pg_name (i := 4) sc_near_along.nd rfl (.inl rfl)) pgs_nil)))))
      (Evl.pss_cut (ps_set (i := 5) sc_near_along.nd rfl (.inl rfl) (pe_ifExp (pt_cmpR op_eq (pv 4) pe_str (nomark _)) pe_int pe_int))
      (pss_one (ps_ret (pe_and (pe_call G_are_near (hr.mono (by decide)) (by rfl) g_are_near k_are_near b_are_near .nil pass0 (pa_cons (pe_ix ix_tup (pv 0) (pe_op op_mul pe_int (pv 2)) (fun _ _ => rfl)) (pa_cons (pe_ix ix_tup (pv 0) (pe_op op_add (pe_op op_mul pe_int (pv 3)) (pv 5)) (fun _ _ => rfl)) pa_nil))) (pe_one (pe_call G_are_near (hr.mono (by decide)) (by rfl) g_are_near k_are_near b_are_near .nil pass0 (pa_cons (pe_ix ix_tup (pv 0) (pe_op op_add (pe_op op_mul pe_int (pv 2)) pe_int) (fun _ _ => rfl)) (pa_cons (pe_ix ix_tup (pv 0) (pe_op op_sub (pe_op op_add (pe_op op_mul pe_int (pv 3)) pe_int) (pv 5)) (fun _ _ => rfl)) pa_nil))))))))), ?_⟩
    have ek : decide (V.str (kindS t.foe) = V.str "foe") = t.foe := by cases t.foe <;> decide +kernel
    refine ⟨.ref c, rfl, c, _, rfl, SqT.of hc, rfl, _, _, rfl, _, _, rfl, _, _, rfl, rfl, ?_⟩
    refine ⟨fun σ' H' => σ' = [some (.ref a), some (.ref c), some (.int t.one), some (.int t.other), some (.str (kindS t.foe)), some (.int (bI t.foe))] ∧ H' = H, ?_, ?_⟩
    · refine ⟨.str (kindS t.foe), rfl, rfl, _, rfl, ?_⟩
      rw [ek]
      cases t.foe
      · exact ⟨rfl, rfl⟩
      · exact ⟨rfl, rfl⟩
    rintro σ' H' ⟨rfl, eH⟩
    subst eH
    have b01 : bI t.foe = 0 ∨ bI t.foe = 1 := by unfold bI; split <;> simp
    have o := okt
    have ln' : (ns.length : Int) = 2 * (n : Int) := by omega
    obtain ⟨o1, o2, o3, o4, _⟩ := o
    refine ⟨.ref a, rfl, .int t.one, rfl, 2, t.one, rfl, rfl, .inl ⟨by decide, by decide⟩, a, _, 2 * t.one, _, rfl, rfl, SqT.of ha, atI_gI (by omega) (by omega), .ref a, rfl, .int t.other, rfl, 2, t.other, rfl, rfl, .inl ⟨by decide, by decide⟩, .int (bI t.foe), rfl, _, _, rfl, rfl, a, _, 2 * t.other + bI t.foe, _, rfl, rfl, SqT.of ha, atI_gI (by omega) (by omega), _, _, rfl, _, rfl, ?_⟩
    unfold nearI at q
    cases h1 : nearZ (gI ns (2 * t.one)) (gI ns (2 * t.other + bI t.foe)) with
    | false =>
      rw [h1, Bool.false_and] at q
      exact q _ (Same.refl _)
    | true =>
      rw [h1, Bool.true_and] at q
      exact ⟨.ref a, rfl, .int t.one, rfl, 2, t.one, rfl, rfl, .inl ⟨by decide, by decide⟩, _, 1, rfl, rfl, a, _, 2 * t.one + 1, _, rfl, rfl, SqT.of ha, atI_gI (by omega) (by omega), .ref a, rfl, .int t.other, rfl, 2, t.other, rfl, rfl, .inl ⟨by decide, by decide⟩, _, 1, rfl, rfl, .int (bI t.foe), rfl, _, _, rfl, rfl, a, _, 2 * t.other + 1 - bI t.foe, _, rfl, rfl, SqT.of ha, atI_gI (by omega) (by omega), _, _, rfl, q _ (Same.refl _)⟩
theorem ok_row_holds {f c Pt : Addr} {fd : FuncData} {Ps : List Addr} (F : FunC K "row_holds" "row_holds" s_row_holds f fd c) (TB : GxR.TabB base mg c Pt) (hPt : Pt ∈ Ps) (m_all : mg "all" = none) (D_is_row : Df P w K mg base 4 "is_row" ["many", "thing"] (spIsRow Ps)) (D_near_along : Df P w K mg base 2 "near_along" ["row", "tie"] spAlong) : FnOk P w K mg base CX0 6 f fd ["web", "number", "start", "thing"] (spRowHolds Ps) := by
  obtain ⟨f_is_row, fd_is_row, G_is_row, g_is_row, k_is_row, b_is_row⟩ := D_is_row
  obtain ⟨f_near_along, fd_near_along, G_near_along, g_near_along, k_near_along, b_near_along⟩ := D_near_along
  refine F.ok sc_row_holds (fun vs H Q E h => ?_) (fun A outer sh H vs Q E hr h => ?_)
  · obtain ⟨wv, n, ts, num, s, v, rfl, _⟩ := h
    rfl
  · obtain ⟨wv, n, ts, num, s, v, rfl, hW, ok, hs, hk, hT, q⟩ := h
    refine ⟨_, (pss_cons (ps_if (pt_not (pt_val (pe_call G_is_row (hr.mono (by decide)) (by rfl) g_is_row k_is_row b_is_row .nil pass0 (pa_cons (pe_ix ix_tup (pv 0) pe_int (fun _ _ => rfl)) (pa_cons (pv 3) pa_nil)))))
        (pss_one (ps_ret pe_bl))
        pss_nil)
      (pss_cons (ps_if (PW.pt (pw_or (pt_cmpR op_ne (pe_ix ix_tup (pv 3) (pe_op op_mul pe_int (pv 2)) (fun _ _ => rfl)) pe_int (nomark _)) (pw_or1 (pt_cmpR op_lt (pe_ix ix_tup (pv 3) (pe_op op_add (pe_op op_mul pe_int (pv 2)) pe_int) (fun _ _ => rfl)) (pv 1) (nomark _)))))
        (pss_one (ps_ret pe_bl))
        pss_nil)
      (pss_one (ps_ret (pe_all (k := 4) (own := [("tie", 4)]) (g := gName 4) hr TB rfl rfl sc_row_holds.nd (by rfl) m_all (pi_tup (pe_ix ix_tup (pv 0) pe_int (fun _ _ => rfl))) (blkOk_by (N := N_row_holds) (sc := defScope s_row_holds) (own := [("tie", 4)]) (by decide +kernel)) ⟨rfl, by decide +kernel, by decide +kernel⟩ (show (".0" : Str) ∉ N_row_holds by decide +kernel) (fun _ _ _ _ _ _ _ => (pg_name (i := 4) sc_row_holds.nd rfl (.inl rfl))) (fun _ _ _ _ _ _ _ hr' => (pe_call G_near_along (hr'.mono (by decide)) (by rfl) g_near_along k_near_along b_near_along .nil pass0 (pa_cons (pv 3) (pa_cons (pv 4) pa_nil))))))))), ?_⟩
    obtain ⟨wa, wb, us, rfl, hwa, hwb, hp⟩ := id hW
    have lu : us.length = ts.length := Paired.length hp
    refine ⟨.ref wa, rfl, wa, _, 0, .int n, rfl, rfl, SqT.of hwa, rfl, v, rfl, n, v, rfl, hk, hT, fun H1 k1 => ⟨_, rfl, ?_⟩⟩
    cases hb : isRowB n (parts H v) with
    | false =>
      have e : rowB n ts num s (parts H v) = false := by unfold rowB; rw [hb, Bool.false_and]
      rw [e] at q
      exact q _ k1
    | true =>
    cases hpv : parts H v with
    | none => rw [hpv] at hb; cases hb
    | some xs =>
    rw [hpv] at hb
    have hb' : (decide (xs.length = 2 * n) && xs.all (wfrom 0)) = true := hb
    rw [Bool.and_eq_true, decide_eq_true_iff] at hb'
    obtain ⟨ln, al⟩ := hb'
    obtain ⟨ns, rfl, pos⟩ := ints0 al
    rw [List.length_map] at ln
    have e : rowB n ts num s (parts H v) = rowC ts num s ns := by
      unfold rowB
      rw [hpv, hb, Bool.true_and]
      show rowC ts num s ((ns.map V.int).map toI) = _
      rw [toI_map]
    rw [e] at q
    obtain ⟨a, rfl, ea⟩ := parts_at hpv
    have ea1 := k1.tup hT ea
    have ln' : (ns.length : Int) = 2 * (n : Int) := by omega
    refine ⟨.ref a, rfl, .int s, rfl, 2, s, rfl, rfl, .inl ⟨by decide, by decide⟩, a, _, 2 * (s : Int), _, rfl, rfl, SqT.of ea1, atI_gI (by omega) (by omega), rfl, _, rfl, ?_⟩
    unfold rowC at q
    rw [dec_int]
    by_cases h0 : gI ns (2 * (s : Int)) = 0
    · rw [decide_eq_true h0] at q ⊢
      rw [Bool.true_and] at q
      refine ⟨.ref a, rfl, .int s, rfl, 2, s, rfl, rfl, .inl ⟨by decide, by decide⟩, _, 1, rfl, rfl, a, _, 2 * (s : Int) + 1, _, rfl, rfl, SqT.of ea1, atI_gI (by omega) (by omega), .int num, rfl, _, num, rfl, rfl, _, rfl, ?_⟩
      by_cases h1 : num ≤ gI ns (2 * (s : Int) + 1)
      · rw [decide_eq_true h1, Bool.true_and] at q
        rw [decide_eq_false (show ¬ gI ns (2 * (s : Int) + 1) < num by omega)]
        have hwa1 := k1.tup hT hwa
        have hwb1 := k1.tup hT hwb
        refine ⟨.ref wa, rfl, wa, _, 1, .ref wb, rfl, rfl, SqT.of hwa1, rfl, wb, rfl, ⟨_, SqT.of hwb1⟩, k1.tab Pt hPt, fun i m H' => i + m = ts.length ∧ Kt Ps H H' ∧ (ts.take i).all (nearI ns) = true, fun H2 hH2 => ⟨ts.length, by omega, k1.trans (Kt.tabbed k1.tab hPt hH2), rfl⟩, fun i m H' hw => ?_⟩
        obtain ⟨em, kt, hal⟩ := hw
        have hwb' := kt.tup hT hwb
        have ea' := kt.tup hT ea
        by_cases hi : i < ts.length
        · refine .inr ⟨⟨_, _, SqT.of hwb', List.getElem?_eq_getElem (show i < us.length by omega)⟩, fun H3 => Kt Ps H H3 ∧ (ts.take (i + 1)).all (nearI ns) = true, fun H3 n3 => ⟨m - 1, by omega, by omega, n3.1, n3.2⟩, fun x H3 hy => ?_⟩
          obtain ⟨rfl, fy⟩ := hy
          have ex : us[i]? = some x := fy _ (SqT.of hwb')
          obtain ⟨t, et, c, rfl, hc⟩ := Paired.at (ties_tk (kt.tk hT) hp) ex
          refine ⟨rfl, .ref a, rfl, .ref c, rfl, a, c, n, ns, t, rfl, ea', ln, ok.ok t (List.mem_of_getElem? et), hc, fun H4 s4 => ⟨_, rfl, ?_⟩⟩
          have kt4 : Kt Ps H H4 := kt.trans (Kt.same kt.tab s4)
          cases hb : nearI ns t with
          | true => exact ⟨kt4, (take_all_step et hal).trans hb⟩
          | false =>
            rw [all_no et hb] at q
            exact q _ kt4
        · refine .inl ⟨⟨_, SqT.of hwb', by omega⟩, ?_⟩
          rw [List.take_of_length_le (by omega)] at hal
          rw [hal] at q
          exact q _ kt
      · rw [decide_eq_false h1, Bool.false_and] at q
        rw [decide_eq_true (show gI ns (2 * (s : Int) + 1) < num by omega)]
        exact q _ k1
    · rw [decide_eq_false h0] at q ⊢
      rw [Bool.false_and] at q
      exact q _ k1
theorem ok_layers_hold {f c Pt : Addr} {fd : FuncData} {Ps : List Addr} (F : FunC K "layers_hold" "layers_hold" s_layers_hold f fd c) (TB : GxR.TabB base mg c Pt) (hPt : Pt ∈ Ps) (m_all : mg "all" = none) (m_enumerate : mg "enumerate" = none) (D_is_tuple_of : Df P w K mg base 1 "is_tuple_of" ["length", "thing"] spTupleOf) (D_row_holds : Df P w K mg base 6 "row_holds" ["web", "number", "start", "thing"] (spRowHolds Ps)) : FnOk P w K mg base CX0 8 f fd ["web", "number", "thing"] (spLayersHold Ps) := by
  obtain ⟨f_is_tuple_of, fd_is_tuple_of, G_is_tuple_of, g_is_tuple_of, k_is_tuple_of, b_is_tuple_of⟩ := D_is_tuple_of
  obtain ⟨f_row_holds, fd_row_holds, G_row_holds, g_row_holds, k_row_holds, b_row_holds⟩ := D_row_holds
  refine F.ok sc_layers_hold (fun vs H Q E h => ?_) (fun A outer s H vs Q E hr h => ?_)
  · obtain ⟨wv, n, ts, num, v, rfl, _⟩ := h
    rfl
  · obtain ⟨wv, n, ts, num, v, rfl, hW, ok, hk, hT, q⟩ := h
    refine ⟨_, (pss_cons (ps_if (pt_not (pt_val (pe_call G_is_tuple_of (hr.mono (by decide)) (by rfl) g_is_tuple_of k_is_tuple_of b_is_tuple_of .nil pass0 (pa_cons (pe_ix ix_tup (pv 0) pe_int (fun _ _ => rfl)) (pa_cons (pv 2) pa_nil)))))
        (pss_one (ps_ret pe_bl))
        pss_nil)
      (pss_one (ps_ret (pe_all (k := 6) (own := [("start", 3), ("row", 4)]) (g := gTup K 2 (gCons (gName 3) (gCons (gName 4) gNil))) hr TB rfl rfl sc_layers_hold.nd (by rfl) m_all (pi_enumT (by rfl) m_enumerate (pa_cons (pv 2) pa_nil)) (blkOk_by (N := N_layers_hold) (sc := defScope s_layers_hold) (own := [("start", 3), ("row", 4)]) (by decide +kernel)) ⟨rfl, by decide +kernel, by decide +kernel⟩ (show (".0" : Str) ∉ N_layers_hold by decide +kernel) (fun _ _ _ _ _ _ _ => (pg_tup rfl (pgs_cons (pg_name (i := 3) sc_layers_hold.nd rfl (.inl rfl)) (pgs_cons (pg_name (i := 4) sc_layers_hold.nd rfl (.inl rfl)) pgs_nil)))) (fun _ _ _ _ _ _ _ hr' => (pe_call G_row_holds hr' (by rfl) g_row_holds k_row_holds b_row_holds .nil pass0 (pa_cons (pv 0) (pa_cons (pv 1) (pa_cons (pv 3) (pa_cons (pv 4) pa_nil)))))))))), ?_⟩
    obtain ⟨wa, wb, us, rfl, hwa, hwb, hp⟩ := id hW
    refine ⟨.ref wa, rfl, wa, _, 0, .int n, rfl, rfl, SqT.of hwa, rfl, v, rfl, _, v, rfl, hk.1, _, rfl, ?_⟩
    cases hpv : parts H v with
    | none =>
      have e1 : lenIs H v (n : Int) = false := by unfold lenIs; rw [hpv]
      have e2 : layB H n ts num v = false := by unfold layB; rw [hpv]
      rw [e2] at q
      rw [e1]
      exact q _ (Kt.refl hT)
    | some rows =>
    have e1 : lenIs H v (n : Int) = decide ((rows.length : Int) = (n : Int)) := by unfold lenIs; rw [hpv]
    have e2 : layB H n ts num v = (decide (rows.length = n) && (List.range n).all fun s : Nat => rowB n ts num (s : Int) (parts H (rows.getD s .non))) := by unfold layB; rw [hpv]
    rw [e2] at q
    rw [e1]
    by_cases hl : rows.length = n
    · rw [decide_eq_true hl, Bool.true_and] at q
      rw [decide_eq_true (show (rows.length : Int) = (n : Int) by omega)]
      obtain ⟨a, rfl, ea⟩ := parts_at hpv
      refine ⟨.ref a, rfl, a, _, rfl, SqT.of ea, hT Pt hPt, fun i m H' => i + m = n ∧ Kt Ps H H' ∧ ((List.range i).all fun s : Nat => rowB n ts num (s : Int) (parts H (rows.getD s .non))) = true, fun H2 hH2 => ⟨n, by omega, Kt.tabbed hT hPt hH2, rfl⟩, fun i m H' hw => ?_⟩
      obtain ⟨em, kt, hal⟩ := hw
      have ea' := kt.tup hT ea
      by_cases hi : i < n
      · refine .inr ⟨⟨_, _, SqT.of ea', List.getElem?_eq_getElem (show i < rows.length by omega)⟩, fun H3 => Kt Ps H H3 ∧ ((List.range (i + 1)).all fun s : Nat => rowB n ts num (s : Int) (parts H (rows.getD s .non))) = true, fun H3 n3 => ⟨m - 1, by omega, by omega, n3.1, n3.2⟩, fun x H3 hy => ?_⟩
        obtain ⟨T, y, rfl, nT, rfl, fy⟩ := hy
        have ex : rows[i]? = some y := fy _ (SqT.of ea')
        have eT := same_new (o := .tup [.int (i : Nat), y]) nT
        have kt3 : Kt Ps H (upd H' T (.tup [.int (i : Nat), y])) := kt.trans (Kt.same kt.tab eT)
        have hpk := hk.2 rows hpv y (List.mem_of_getElem? ex)
        have eg : rows.getD i .non = y := by rw [List.getD_eq_getElem?_getD, ex]; rfl
        refine ⟨T, _, rfl, SqT.of upd_same, rfl, _, _, rfl, _, _, rfl, rfl, rfl, .ref wa, rfl, .int num, rfl, .int i, rfl, y, rfl, .ref wa, n, ts, num, i, y, rfl, hW.tk (kt3.tk hT), ok, hi, hpk.kt kt3 hT, kt3.tab, fun H4 k4 => ⟨_, rfl, ?_⟩⟩
        have kt4 := kt3.trans k4
        rw [kt_parts kt3 hT hpk.1]
        cases hb : rowB n ts num (i : Int) (parts H y) with
        | true => exact ⟨kt4, by rw [range_step (n := n) hal, eg]; exact hb⟩
        | false =>
          rw [range_no (n := n) hi (by rw [eg]; exact hb)] at q
          exact q _ kt4
      · refine .inl ⟨⟨_, SqT.of ea', by omega⟩, ?_⟩
        have : i = n := by omega
        subst this
        rw [hal] at q
        exact q _ kt
    · rw [decide_eq_false hl, Bool.false_and] at q
      rw [decide_eq_false (show ¬ (rows.length : Int) = (n : Int) by omega)]
      exact q _ (Kt.refl hT)
end
/-! ### the script stays -/
theorem Kt.seq {Ps : List Addr} {K : PySem.W.Frag} {H H' : Hp} {a : Addr} {xs : List V} (k : Kt Ps H H') (t : Tabs Ps H) (h : SqL K H a xs) : SqL K H' a xs := by
  rcases h with (h | ⟨o, h⟩) | h
  · exact .inl (.inl (k.lst t h))
  · exact .inl (.inr ⟨o, k.keep _ _ (t.out h fun _ z => by cases z) h⟩)
  · exact .inr h
theorem sql_ne {K : PySem.W.Frag} {H : Hp} {a d : Addr} {xs : List V} (h : SqL K H a xs) (nd : H d = none) : a ≠ d ∨ ∀ H', SqL K H' a xs := by
  rcases h with (h | ⟨o, h⟩) | h
  · exact .inl (ne_of_none h nd)
  · exact .inl (ne_of_none h nd)
  · exact .inr fun _ => .inr h
theorem sql_well {K : PySem.W.Frag} {H H' : Hp} {a d : Addr} {xs : List V} (h : SqL K H a xs) (ne : a ≠ d ∨ ∀ H', SqL K H' a xs) (k : Kp d d H H') : SqL K H' a xs := by
  rcases ne with ne | f
  · rcases h with (h | ⟨o, h⟩) | h
    · exact .inl (.inl (k _ _ ne ne h))
    · exact .inl (.inr ⟨o, k _ _ ne ne h⟩)
    · exact .inr h
  · exact f H'
theorem map_take_snoc {α β : Type} {f : α → β} {xs : List α} {i : Nat} {x : α} (h : xs[i]? = some x) : (xs.take (i + 1)).map f = (xs.take i).map f ++ [f x] := by
  rw [List.take_add_one, h, List.map_append]
  rfl
/-! ### the law's own look at layers -/
def spIsRowL : Sp := fun vs H Q _ => ∃ (n : Nat) (v : V), vs = [.int n, v] ∧ PartK H v ∧ Q (.bl (isRowB n (parts H v))) H
def spDue15 : Sp := fun vs H Q _ => ∃ (wv : V) (n : Nat) (ts : List Tie) (num : Int) (v : V), vs = [wv, .int num, v] ∧ WebAt H wv n ts ∧ WebOk n ts ∧ ThingK H v ∧ ∀ H', Same H H' → Q (.bl (layB H n ts num v)) H'
def spTold15 (Ps : List Addr) : Sp := fun vs H Q _ => ∃ (wv : V) (n : Nat) (ts : List Tie) (num : Int) (v : V), vs = [wv, .int num, v] ∧ WebAt H wv n ts ∧ WebOk n ts ∧ ThingK H v ∧ Tabs Ps H ∧ ∀ H', Kt Ps H H' → Q (.bl true) H'
def swapT (t : Tie) : Tie := ⟨t.other, t.one, t.foe⟩
theorem TieOk.swap {n : Int} {t : Tie} (h : TieOk n t) : TieOk n (swapT t) := ⟨h.2.2.1, h.2.2.2.1, h.1, h.2.1, Ne.symm h.2.2.2.2⟩
theorem nearZ_comm (a b : Int) : nearZ a b = nearZ b a := Bool.and_comm _ _
theorem near_swap (r : List Int) (t : Tie) : nearI r (swapT t) = nearI r t := by
  unfold nearI swapT
  simp only
  cases t.foe
  · have e : bI false = 0 := rfl
    rw [e, Int.add_zero, Int.add_zero, Int.sub_zero, Int.sub_zero, nearZ_comm (gI r (2 * t.other)), nearZ_comm (gI r (2 * t.other + 1))]
  · have e : bI true = 1 := rfl
    rw [e, Int.add_sub_cancel, Int.add_sub_cancel, nearZ_comm (gI r (2 * t.other)), nearZ_comm (gI r (2 * t.other + 1)), Bool.and_comm]
theorem rowC_swap (ts : List Tie) (num s : Int) (r : List Int) : rowC (ts.map swapT) num s r = rowC ts num s r := by
  unfold rowC
  rw [List.all_map]
  congr 2
  exact List.all_congr rfl fun t => near_swap r t
theorem layB_swap (H : Hp) (n : Nat) (ts : List Tie) (num : Int) (v : V) : layB H n (ts.map swapT) num v = layB H n ts num v := by
  unfold layB rowB
  cases parts H v with
  | none => rfl
  | some rows =>
    simp only [rowC_swap]
theorem layB_kt {Ps : List Addr} {H H' : Hp} (k : Kt Ps H H') (t : Tabs Ps H) {n : Nat} {ts : List Tie} {num : Int} {v : V} (h : ThingK H v) : layB H' n ts num v = layB H n ts num v := by
  unfold layB
  rw [kt_parts k t h.1]
  cases hp : parts H v with
  | none => rfl
  | some rows =>
    simp only
    by_cases hl : rows.length = n
    · rw [decide_eq_true hl, Bool.true_and, Bool.true_and]
      rw [Bool.eq_iff_iff, List.all_eq_true, List.all_eq_true]
      have e : ∀ s ∈ List.range n, parts H' (rows.getD s .non) = parts H (rows.getD s .non) := fun s hs => by
        have hs := List.mem_range.mp hs
        rw [List.getD_eq_getElem?_getD, List.getElem?_eq_getElem (by omega)]
        exact kt_parts k t (h.2 rows hp _ (List.getElem_mem _)).1
      constructor
      · intro z s hs
        rw [← e s hs]
        exact z s hs
      · intro z s hs
        rw [e s hs]
        exact z s hs
    · rw [decide_eq_false hl, Bool.false_and, Bool.false_and]
theorem LayAt.thing {H : Hp} {v : V} {n : Nat} {ts : List Tie} {rs : List (List Int)} (h : LayAt H v n ts rs) : ThingK H v := by
  obtain ⟨a, vs, rfl, h1, h2, _⟩ := h
  refine ⟨.inr (.inl ⟨_, h1⟩), fun xs e x hx => ?_⟩
  rw [parts_of' h1] at e
  cases e
  obtain ⟨i, hi⟩ := List.getElem?_of_mem hx
  obtain ⟨row, _, b, rfl, hb⟩ := Paired.at h2 hi
  refine ⟨.inr (.inl ⟨_, hb⟩), fun ys e y hy => ?_⟩
  rw [parts_of' hb] at e
  cases e
  obtain ⟨z, _, rfl⟩ := List.mem_map.mp hy
  trivial
theorem LayAt.judge {H : Hp} {v : V} {n : Nat} {ts : List Tie} {rs : List (List Int)} (h : LayAt H v n ts rs) (num : Int) : layB H n ts num v = true ↔ ∀ (s : Nat) row, rs[s]? = some row → num ≤ gI row (2 * (s : Int) + 1) := by
  obtain ⟨a, vs, rfl, h1, h2, h3, h4⟩ := h
  have lv : vs.length = rs.length := Paired.length h2
  unfold layB
  rw [parts_of' h1]
  simp only
  rw [decide_eq_true (show vs.length = n by omega), Bool.true_and, List.all_eq_true]
  have each : ∀ (s : Nat) row, rs[s]? = some row → rowB n ts num (s : Int) (parts H (vs.getD s .non)) = decide (num ≤ gI row (2 * (s : Int) + 1)) := fun s row e => by
    obtain ⟨u, eu, b, rfl, hb⟩ := Paired.at' h2 e
    have g := h4 s row e
    rw [List.getD_eq_getElem?_getD, eu, Option.getD_some, parts_of' hb]
    unfold rowB
    have e1 : isRowB n (some (row.map V.int)) = true := by
      show (decide ((row.map V.int).length = 2 * n) && (row.map V.int).all (wfrom 0)) = true
      rw [List.length_map, decide_eq_true g.len, all_ints g.pos]
      rfl
    rw [e1, Bool.true_and]
    show rowC ts num s ((row.map V.int).map toI) = _
    rw [toI_map]
    unfold rowC
    rw [decide_eq_true g.zero, Bool.true_and]
    have e2 : ts.all (nearI row) = true := List.all_eq_true.mpr fun t ht => g.near t ht
    rw [e2, Bool.and_true]
  constructor
  · intro z s row e
    have hs := (List.getElem?_eq_some_iff.mp e).1
    have := z s (List.mem_range.mpr (by omega))
    rw [each s row e] at this
    exact of_decide_eq_true this
  · intro z s hs
    have hs := List.mem_range.mp hs
    have e := List.getElem?_eq_getElem (show s < rs.length by omega)
    rw [each s _ e]
    exact decide_eq_true (z s _ e)
section
variable {P : Program} {w : World} {K : PySem.W.Frag} {mg : Str → Option Value} {base : Heap}
theorem ok_l_is_row {f : Addr} {fd : FuncData} (F : Fun K "_law_is_row" "_law_is_row" s_l_is_row f fd) (M : Free mg) : FnOk P w K mg base CX0 1 f fd ["_law_many", "_law_row_here"] spIsRowL := by
  refine F.ok sc_l_is_row (fun vs H Q E h => ?_) (fun cdv A outer s H vs Q E hr h => ?_)
  · obtain ⟨n, v, rfl, _⟩ := h
    rfl
  · obtain ⟨n, v, rfl, hk, q⟩ := h
    refine ⟨_, (pss_cons (ps_if (PW.pt (pw_or (pt_not (pt_val (pe_callB call_isi (by rfl) M.isinstance (by decide +kernel) (pa_cons (pv 1) (pa_cons (pe_bltn (v := .ty "tuple") (by rfl) M.tuple (by decide +kernel) rfl) pa_nil))))) (pw_or1 (pt_cmpR op_ne (pe_callB call_len_seq (by rfl) M.len PySem.boot_len (pa_cons (pv 1) pa_nil)) (pe_op op_mul pe_int (pv 0)) (nomark _)))))
        (pss_one (ps_ret pe_bl))
        pss_nil)
      (pss_cons (ps_for PassesOwn.never rfl (pi_tup (pv 1)) (pg_name (i := 2) sc_l_is_row.nd rfl (.inl rfl))
        (pss_one (ps_if (PW.pt (pw_or (pt_val (pe_callB call_isi (by rfl) M.isinstance (by decide +kernel) (pa_cons (pv 2) (pa_cons (pe_bltn (v := .ty "bool") (by rfl) M.bool (by decide +kernel) rfl) pa_nil)))) (pw_or (pt_not (pt_val (pe_callB call_isi (by rfl) M.isinstance (by decide +kernel) (pa_cons (pv 2) (pa_cons (pe_bltn (v := .ty "int") (by rfl) M.int (by decide +kernel) rfl) pa_nil))))) (pw_or1 (pt_cmpR op_lt (pv 2) pe_int (nomark _))))))
          (pss_one (ps_ret pe_bl))
          pss_nil)))
      (pss_one (ps_ret pe_bl)))), ?_⟩
    obtain ⟨t1, h1, e1⟩ := kn_tup (K := K) hk.1
    refine ⟨v, rfl, v, _, t1, _, _, rfl, .ty "tuple", h1, e1, _, rfl, ?_⟩
    cases hi : isT H v with
    | false =>
      rw [parts_none hi] at q
      exact q
    | true =>
    obtain ⟨a, xs, rfl, ea⟩ := isT_at hi
    have hpv := parts_of' ea
    rw [hpv] at q
    refine ⟨.ref a, rfl, a, xs, rfl, .inr (SqT.of ea), .int n, rfl, 2, n, rfl, rfl, .inl ⟨by decide, by decide⟩, rfl, _, rfl, ?_⟩
    rw [dec_int]
    by_cases hl : xs.length = 2 * n
    · rw [decide_eq_true (show (xs.length : Int) = 2 * (n : Int) by omega)]
      have eb : isRowB n (some xs) = xs.all (wfrom 0) := by
        show (decide (xs.length = 2 * n) && xs.all (wfrom 0)) = _
        rw [decide_eq_true hl, Bool.true_and]
      rw [eb] at q
      refine ⟨.ref a, rfl, a, rfl, ⟨_, SqT.of ea⟩, ?_⟩
      refine for_tup (xs := xs) (fun i σ' H' => ∃ y2 : Option V, σ' = [some (.int n), some (.ref a), y2] ∧ H' = H ∧ (xs.take i).all (wfrom 0) = true) ⟨none, rfl, rfl, rfl⟩ (fun i σ' H' _ h => by
        obtain ⟨_, _, rfl, _⟩ := h
        exact SqT.of ea) ?_ ?_
      · rintro i x σ' H' ex ⟨y2, rfl, rfl, hal⟩
        have hkx := hk.2 xs hpv x (List.mem_of_getElem? ex)
        obtain ⟨t2, h2, e2⟩ := kn_bool (K := K) hkx
        obtain ⟨t3, h3, e3⟩ := kn_int (K := K) hkx
        refine ⟨x, rfl, x, _, t2, _, _, rfl, .ty "bool", h2, e2, _, rfl, ?_⟩
        have no : wfrom 0 x = false → Q (.bl false) H' := fun h => by
          rw [all_no ex h] at q
          exact q
        have yes : wfrom 0 x = true → ∃ y2 : Option V, [some (V.int n), some (.ref a), some x] = [some (.int n), some (.ref a), y2] ∧ H' = H' ∧ (xs.take (i + 1)).all (wfrom 0) = true := fun h => ⟨_, rfl, rfl, (take_all_step ex hal).trans h⟩
        cases x with
        | int z =>
          refine ⟨.int z, rfl, .int z, _, t3, _, _, rfl, .ty "int", h3, e3, _, rfl, .int z, rfl, z, 0, rfl, rfl, _, rfl, ?_⟩
          by_cases hz : z < 0
          · rw [decide_eq_true hz]
            exact no (decide_eq_false (by omega))
          · rw [decide_eq_false hz]
            exact yes (decide_eq_true (by omega))
        | bl b => exact no rfl
        | _ =>
          refine ⟨_, rfl, _, _, t3, _, _, rfl, .ty "int", h3, e3, _, rfl, ?_⟩
          exact no rfl
      · rintro σ' H' ⟨y2, rfl, rfl, hal⟩
        rw [List.take_length] at hal
        rw [hal] at q
        exact q
    · rw [decide_eq_false (show ¬ (xs.length : Int) = 2 * (n : Int) by omega)]
      have eb : isRowB n (some xs) = false := by
        show (decide (xs.length = 2 * n) && xs.all (wfrom 0)) = _
        rw [decide_eq_false hl, Bool.false_and]
      rw [eb] at q
      exact q
theorem ok_l_near {f : Addr} {fd : FuncData} (F : Fun K "_law_near" "_law_near" s_l_near f fd) (M : Free mg) : FnOk P w K mg base CX0 1 f fd ["_law_row_here", "_law_tie"] spAlong := by
  refine F.ok sc_l_near (fun vs H Q E h => ?_) (fun cdv A outer s H vs Q E hr h => ?_)
  · obtain ⟨a, c, n, ns, t, rfl, _⟩ := h
    rfl
  · obtain ⟨a, c, n, ns, t, rfl, ha, ln, okt, hc, q⟩ := h
    refine ⟨_, (pss_cons (ps_asg (pv 1) (pg_tup rfl (pgs_cons (pg_name (i := 2) sc_l_near.nd rfl (.inl rfl)) (pgs_cons (pg_name (i := 3) sc_l_near.nd rfl (.inl rfl)) (pgs_cons (pg_name (i := 4) sc_l_near.nd rfl (.inl rfl)) pgs_nil)))))
      (pss_cons (ps_for PassesOwn.never rfl (pi_tup (pe_tup (pa_cons pe_int (pa_cons pe_int pa_nil)))) (pg_name (i := 5) sc_l_near.nd rfl (.inl rfl))
        (Evl.pss_cut (ps_set (i := 6) sc_l_near.nd rfl (.inl rfl) (pe_op op_mod (pe_op op_add (pv 5) (pe_callTy call_int1 (by rfl) M.int (by decide +kernel) (pa_cons (pe_cmpR op_eq (pv 4) pe_str (nomark _)) pa_nil))) pe_int))
        (pss_cons (ps_set (i := 7) sc_l_near.nd rfl (.inl rfl) (pe_op op_sub (pe_ix ix_tup (pv 0) (pe_op op_add (pe_op op_mul pe_int (pv 2)) (pv 5)) (fun _ _ => rfl)) (pe_ix ix_tup (pv 0) (pe_op op_add (pe_op op_mul pe_int (pv 3)) (pv 6)) (fun _ _ => rfl))))
        (pss_one (ps_if (PW.pt (pw_or (pt_cmpR op_gt (pv 7) pe_int (nomark _)) (pw_or1 (pt_cmpR op_lt (pv 7) (pe_un un_neg pe_int) (nomark _)))))
          (pss_one (ps_ret pe_bl))
          pss_nil)))))
      (pss_one (ps_ret pe_bl)))), ?_⟩
    have ek : decide (V.str (kindS t.foe) = V.str "foe") = t.foe := by cases t.foe <;> decide +kernel
    obtain ⟨o1, o2, o3, o4, _⟩ := okt
    have ln' : (ns.length : Int) = 2 * (n : Int) := by omega
    have b01 : bI t.foe = 0 ∨ bI t.foe = 1 := by unfold bI; split <;> simp
    have e0 : (0 + bI t.foe) % 2 = bI t.foe := by omega
    have e1 : (1 + bI t.foe) % 2 = 1 - bI t.foe := by omega
    let N : Int → Bool := fun o => nearZ (gI ns (2 * t.one + o)) (gI ns (2 * t.other + (o + bI t.foe) % 2))
    have eN : nearI ns t = (N 0 && N 1) := by
      show _ = (nearZ (gI ns (2 * t.one + 0)) (gI ns (2 * t.other + (0 + bI t.foe) % 2)) && nearZ (gI ns (2 * t.one + 1)) (gI ns (2 * t.other + (1 + bI t.foe) % 2)))
      rw [e0, e1, Int.add_zero, show 2 * t.other + (1 - bI t.foe) = 2 * t.other + 1 - bI t.foe from by omega]
      rfl
    rw [eN] at q
    refine ⟨.ref c, rfl, c, _, rfl, SqT.of hc, rfl, _, _, rfl, _, _, rfl, _, _, rfl, rfl, ?_⟩
    refine ⟨by show 2 ≤ sizeLine; decide, fun t0 nt => ⟨t0, rfl, ⟨_, SqT.of upd_same⟩, ?_⟩⟩
    have et := same_new (o := .tup [.int 0, .int 1]) nt
    refine for_tup (xs := [V.int 0, V.int 1]) (fun j σ' H' => ∃ (y5 y6 y7 : Option V), σ' = [some (.ref a), some (.ref c), some (.int t.one), some (.int t.other), some (.str (kindS t.foe)), y5, y6, y7] ∧ H' = upd H t0 (.tup [.int 0, .int 1]) ∧ (1 ≤ j → N 0 = true) ∧ (2 ≤ j → N 1 = true)) ⟨none, none, none, rfl, rfl, fun z => by omega, fun z => by omega⟩ (fun j σ' H' _ h => by
      obtain ⟨_, _, _, _, rfl, _⟩ := h
      exact SqT.of upd_same) ?_ ?_
    · rintro j v σ' H' ev ⟨y5, y6, y7, rfl, rfl, n0, n1⟩
      obtain ⟨o, rfl, ho, hj⟩ : ∃ o : Int, v = .int o ∧ (o = 0 ∨ o = 1) ∧ (j : Int) = o := by
        match j, ev with
        | 0, ev => exact ⟨0, (Option.some.inj ev).symm, .inl rfl, rfl⟩
        | 1, ev => exact ⟨1, (Option.some.inj ev).symm, .inr rfl, rfl⟩
        | j + 2, ev => simp at ev
      refine ⟨fun σ' H' => σ' = [some (.ref a), some (.ref c), some (.int t.one), some (.int t.other), some (.str (kindS t.foe)), some (.int o), some (.int ((o + bI t.foe) % 2)), y7] ∧ H' = upd H t0 (.tup [.int 0, .int 1]), ?_, ?_⟩
      · refine ⟨.int o, rfl, .str (kindS t.foe), rfl, rfl, .inr ⟨_, rfl, o, _, rfl, rfl, _, 2, rfl, rfl, (show (0 : Int) < 2 by decide), ?_⟩⟩
        rw [ek]
        exact ⟨rfl, rfl⟩
      rintro σ' H' ⟨rfl, rfl⟩
      have m01 : (o + bI t.foe) % 2 = 0 ∨ (o + bI t.foe) % 2 = 1 := by omega
      refine ⟨.ref a, rfl, .int t.one, rfl, 2, t.one, rfl, rfl, .inl ⟨by decide, by decide⟩, .int o, rfl, _, o, rfl, rfl, a, _, 2 * t.one + o, _, rfl, rfl, SqT.of (et _ _ ha), atI_gI (by omega) (by omega), .ref a, rfl, .int t.other, rfl, 2, t.other, rfl, rfl, .inl ⟨by decide, by decide⟩, .int _, rfl, _, _, rfl, rfl, a, _, 2 * t.other + (o + bI t.foe) % 2, _, rfl, rfl, SqT.of (et _ _ ha), atI_gI (by omega) (by omega), _, _, rfl, rfl, ?_⟩
      have eo : N o = nearZ (gI ns (2 * t.one + o)) (gI ns (2 * t.other + (o + bI t.foe) % 2)) := rfl
      unfold nearZ at eo
      generalize gI ns (2 * t.one + o) = x at eo ⊢
      generalize gI ns (2 * t.other + (o + bI t.foe) % 2) = y at eo ⊢
      have fal : N o = false → Q (.bl false) (upd H t0 (.tup [.int 0, .int 1])) := fun h => by
        have : (N 0 && N 1) = false := by
          rcases ho with rfl | rfl
          · rw [h, Bool.false_and]
          · rw [h, Bool.and_false]
        rw [this] at q
        exact q _ et
      refine ⟨.int (x - y), rfl, x - y, 1, rfl, rfl, _, rfl, ?_⟩
      by_cases h1 : 1 < x - y
      · rw [decide_eq_true h1]
        exact fal (by rw [eo, decide_eq_false (show ¬ x - y ≤ 1 by omega), Bool.false_and])
      · rw [decide_eq_false h1]
        refine ⟨.int (x - y), rfl, 1, rfl, x - y, -1, rfl, rfl, _, rfl, ?_⟩
        by_cases h2 : x - y < -1
        · rw [decide_eq_true h2]
          exact fal (by rw [eo, decide_eq_false (show ¬ y - x ≤ 1 by omega), Bool.and_false])
        · rw [decide_eq_false h2]
          have ok : N o = true := by rw [eo, decide_eq_true (show x - y ≤ 1 by omega), decide_eq_true (show y - x ≤ 1 by omega)]; rfl
          refine ⟨_, _, _, rfl, rfl, fun z => ?_, fun z => ?_⟩
          · rcases ho with rfl | rfl
            · exact ok
            · exact n0 (by omega)
          · rcases ho with rfl | rfl
            · omega
            · exact ok
    · rintro σ' H' ⟨y5, y6, y7, rfl, rfl, n0, n1⟩
      rw [n0 (by decide), n1 (by decide)] at q
      exact q _ et
theorem ok_l_due {f : Addr} {fd : FuncData} (F : Fun K "_law_due" "_law_due" s_l_due f fd) (M : Free mg) (D_l_is_row : Df P w K mg base 1 "_law_is_row" ["_law_many", "_law_row_here"] spIsRowL) (D_l_near : Df P w K mg base 1 "_law_near" ["_law_row_here", "_law_tie"] spAlong) : FnOk P w K mg base CX0 2 f fd ["_law_web_here", "_law_number", "_law_thing"] spDue15 := by
  obtain ⟨f_l_is_row, fd_l_is_row, G_l_is_row, g_l_is_row, k_l_is_row, b_l_is_row⟩ := D_l_is_row
  obtain ⟨f_l_near, fd_l_near, G_l_near, g_l_near, k_l_near, b_l_near⟩ := D_l_near
  refine F.ok sc_l_due (fun vs H Q E h => ?_) (fun cdv A outer s H vs Q E hr h => ?_)
  · obtain ⟨wv, n, ts, num, v, rfl, _⟩ := h
    rfl
  · obtain ⟨wv, n, ts, num, v, rfl, hW, ok, hk, q⟩ := h
    refine ⟨_, (pss_cons (ps_asg (pv 0) (pg_tup rfl (pgs_cons (pg_name (i := 3) sc_l_due.nd rfl (.inl rfl)) (pgs_cons (pg_name (i := 4) sc_l_due.nd rfl (.inl rfl)) pgs_nil))))
      (pss_cons (ps_if (PW.pt (pw_or (pt_not (pt_val (pe_callB call_isi (by rfl) M.isinstance (by decide +kernel) (pa_cons (pv 2) (pa_cons (pe_bltn (v := .ty "tuple") (by rfl) M.tuple (by decide +kernel) rfl) pa_nil))))) (pw_or1 (pt_cmpR op_ne (pe_callB call_len_seq (by rfl) M.len PySem.boot_len (pa_cons (pv 2) pa_nil)) (pv 3) (nomark _)))))
        (pss_one (ps_ret pe_bl))
        pss_nil)
      (pss_cons (ps_for PassesOwn.never rfl (pi_range1 (by rfl) M.range (pa_cons (pv 3) pa_nil)) (pg_name (i := 5) sc_l_due.nd rfl (.inl rfl))
        (pss_cons (ps_set (i := 6) sc_l_due.nd rfl (.inl rfl) (pe_ix ix_tup (pv 2) (pv 5) (fun _ _ => rfl)))
        (pss_cons (ps_if (PW.pt (pw_or (pt_not (pt_val (pe_call G_l_is_row (hr.mono (by decide)) (by rfl) g_l_is_row k_l_is_row b_l_is_row .nil pass0 (pa_cons (pv 3) (pa_cons (pv 6) pa_nil))))) (pw_or (pt_cmpR op_ne (pe_ix ix_tup (pv 6) (pe_op op_mul pe_int (pv 5)) (fun _ _ => rfl)) pe_int (nomark _)) (pw_or1 (pt_cmpR op_lt (pe_ix ix_tup (pv 6) (pe_op op_add (pe_op op_mul pe_int (pv 5)) pe_int) (fun _ _ => rfl)) (pv 1) (nomark _))))))
          (pss_one (ps_ret pe_bl))
          pss_nil)
        (pss_one (ps_for PassesOwn.never rfl (pi_tup (pv 4)) (pg_name (i := 7) sc_l_due.nd rfl (.inl rfl))
          (pss_one (ps_if (pt_not (pt_val (pe_call G_l_near (hr.mono (by decide)) (by rfl) g_l_near k_l_near b_l_near .nil pass0 (pa_cons (pv 6) (pa_cons (pv 7) pa_nil)))))
            (pss_one (ps_ret pe_bl))
            pss_nil)))))))
      (pss_one (ps_ret pe_bl))))), ?_⟩
    obtain ⟨wa, wb, us, rfl, hwa, hwb, hp⟩ := id hW
    have lu : us.length = ts.length := Paired.length hp
    have n40 : n ≤ 40 := by have := ok.hi; omega
    refine ⟨.ref wa, rfl, wa, _, rfl, SqT.of hwa, rfl, _, _, rfl, _, _, rfl, rfl, ?_⟩
    obtain ⟨t1, h1, e1⟩ := kn_tup (K := K) hk.1
    refine ⟨v, rfl, v, _, t1, _, _, rfl, .ty "tuple", h1, e1, _, rfl, ?_⟩
    cases hi : isT H v with
    | false =>
      have e2 : layB H n ts num v = false := by unfold layB; rw [parts_none hi]
      rw [e2] at q
      exact q _ (Same.refl H)
    | true =>
    obtain ⟨a, rows, rfl, ea⟩ := isT_at hi
    have hpv := parts_of' ea
    have e2 : layB H n ts num (.ref a) = (decide (rows.length = n) && (List.range n).all fun s : Nat => rowB n ts num (s : Int) (parts H (rows.getD s .non))) := by unfold layB; rw [hpv]
    rw [e2] at q
    refine ⟨.ref a, rfl, a, rows, rfl, .inr (SqT.of ea), .int n, rfl, rfl, _, rfl, ?_⟩
    rw [dec_int]
    by_cases hl : rows.length = n
    · rw [decide_eq_true hl, Bool.true_and] at q
      rw [decide_eq_true (show (rows.length : Int) = (n : Int) by omega)]
      refine ⟨.int n, rfl, n, rfl, by omega, by omega, ?_⟩
      rw [Int.toNat_natCast]
      refine for_range (lo := 0) (n := n) (fun i σ' H' => ∃ (y5 y6 y7 : Option V), σ' = [some (.ref wa), some (.int num), some (.ref a), some (.int n), some (.ref wb), y5, y6, y7] ∧ Same H H' ∧ ((List.range i).all fun s : Nat => rowB n ts num (s : Int) (parts H (rows.getD s .non))) = true) ⟨none, none, none, rfl, Same.refl H, rfl⟩ ?_ ?_
      · rintro i σ' H1 hi ⟨y5, y6, y7, rfl, s1, hal⟩
        rw [show (0 : Int) + (i : Nat) = i from by omega]
        have ex := List.getElem?_eq_getElem (show i < rows.length by omega)
        obtain ⟨y, ey⟩ : ∃ y, y = rows[i] := ⟨_, rfl⟩
        rw [← ey] at ex
        have eg : rows.getD i .non = y := by rw [List.getD_eq_getElem?_getD, ex]; rfl
        have hpk := hk.2 rows hpv y (List.mem_of_getElem? ex)
        have tb : Tabs [] H := fun P hP => by cases hP
        have ktE : Kt [] H H1 := Kt.same tb s1
        have fal : ∀ H', Same H H' → rowB n ts num (i : Int) (parts H y) = false → Q (.bl false) H' := fun H' s' h => by
          rw [range_no (n := n) hi (by rw [eg]; exact h)] at q
          exact q _ s'
        refine ⟨.ref a, rfl, .int i, rfl, a, rows, i, y, rfl, rfl, SqT.of (s1 _ _ ea), atI_nat ex, ?_⟩
        refine ⟨.int n, rfl, y, rfl, n, y, rfl, hpk.kt ktE tb, _, rfl, ?_⟩
        rw [kt_parts ktE tb hpk.1]
        cases hb : isRowB n (parts H y) with
        | false => exact fal _ s1 (by unfold rowB; rw [hb, Bool.false_and])
        | true =>
        cases hpy : parts H y with
        | none => rw [hpy] at hb; cases hb
        | some xs =>
        rw [hpy] at hb
        have hb' : (decide (xs.length = 2 * n) && xs.all (wfrom 0)) = true := hb
        rw [Bool.and_eq_true, decide_eq_true_iff] at hb'
        obtain ⟨ln, al⟩ := hb'
        obtain ⟨ns, rfl, pos⟩ := ints0 al
        rw [List.length_map] at ln
        have e : rowB n ts num (i : Int) (parts H y) = rowC ts num i ns := by
          unfold rowB
          rw [hpy, hb, Bool.true_and]
          show rowC ts num i ((ns.map V.int).map toI) = _
          rw [toI_map]
        rw [e] at fal
        obtain ⟨c, rfl, hc⟩ := parts_at hpy
        have hc1 := s1 _ _ hc
        have ln' : (ns.length : Int) = 2 * (n : Int) := by omega
        refine ⟨.ref c, rfl, .int i, rfl, 2, i, rfl, rfl, .inl ⟨by decide, by decide⟩, c, _, 2 * (i : Int), _, rfl, rfl, SqT.of hc1, atI_gI (by omega) (by omega), rfl, _, rfl, ?_⟩
        rw [dec_int]
        unfold rowC at fal e
        by_cases h0 : gI ns (2 * (i : Int)) = 0
        · rw [decide_eq_true h0, Bool.true_and] at fal e
          rw [decide_eq_true h0]
          refine ⟨.ref c, rfl, .int i, rfl, 2, i, rfl, rfl, .inl ⟨by decide, by decide⟩, _, 1, rfl, rfl, c, _, 2 * (i : Int) + 1, _, rfl, rfl, SqT.of hc1, atI_gI (by omega) (by omega), .int num, rfl, _, num, rfl, rfl, _, rfl, ?_⟩
          by_cases h1 : num ≤ gI ns (2 * (i : Int) + 1)
          · rw [decide_eq_true h1, Bool.true_and] at fal e
            rw [decide_eq_false (show ¬ gI ns (2 * (i : Int) + 1) < num by omega)]
            refine ⟨.ref wb, rfl, wb, rfl, ⟨_, SqT.of (s1 _ _ hwb)⟩, ?_⟩
            refine for_tup (xs := us) (fun j σ' H' => ∃ (y7 : Option V), σ' = [some (.ref wa), some (.int num), some (.ref a), some (.int n), some (.ref wb), some (.int i), some (.ref c), y7] ∧ Same H H' ∧ (ts.take j).all (nearI ns) = true) ⟨_, rfl, s1, rfl⟩ (fun j σ' H' _ h => by
              obtain ⟨_, _, s2, _⟩ := h
              exact SqT.of (s2 _ _ hwb)) ?_ ?_
            · rintro j x σ' H2 ex ⟨y7, rfl, s2, hal2⟩
              obtain ⟨t, et, d, rfl, hd⟩ := Paired.at hp ex
              refine ⟨.ref c, rfl, .ref d, rfl, c, d, n, ns, t, rfl, s2 _ _ hc, ln, ok.ok t (List.mem_of_getElem? et), s2 _ _ hd, fun H3 s3 => ⟨_, rfl, ?_⟩⟩
              cases hb : nearI ns t with
              | true => exact ⟨_, rfl, s2.trans s3, (take_all_step et hal2).trans hb⟩
              | false => exact fal _ (s2.trans s3) (all_no et hb)
            · rintro σ' H2 ⟨y7, rfl, s2, hal2⟩
              rw [lu, List.take_length] at hal2
              refine ⟨_, _, _, rfl, s2, ?_⟩
              rw [range_step (n := n) hal, eg, e]
              exact hal2
          · rw [decide_eq_true (show gI ns (2 * (i : Int) + 1) < num by omega)]
            exact fal _ s1 (by rw [decide_eq_false h1, Bool.false_and])
        · rw [decide_eq_false h0]
          exact fal _ s1 (by rw [decide_eq_false h0, Bool.false_and])
      · rintro σ' H1 ⟨y5, y6, y7, rfl, s1, hal⟩
        rw [hal] at q
        exact q _ s1
    · rw [decide_eq_false hl, Bool.false_and] at q
      rw [decide_eq_false (show ¬ (rows.length : Int) = (n : Int) by omega)]
      exact q _ (Same.refl H)
end
/-! ### the law: other webs -/
theorem cut_take {xs : List V} {k : Nat} (h : k ≤ xs.length) : cutV xs none (some (k : Int)) = xs.take k := by
  unfold cutV
  rw [HT.sIx_none, HT.sIx_nat, Nat.min_eq_left h, List.drop_zero]
  rfl
theorem cut_drop {xs : List V} {k : Nat} (h : k ≤ xs.length) : cutV xs (some (k : Int)) none = xs.drop k := by
  unfold cutV
  rw [HT.sIx_none, HT.sIx_nat, Nat.min_eq_left h]
  exact List.take_of_length_le (by rw [List.length_drop]; omega)
/-! ### webs as data -/
def tieD (t : Tie) : PyData := .tuple [.int t.one, .int t.other, .str (kindS t.foe)]
def webD (n : Int) (ts : List Tie) : PyData := .tuple [.int n, .tuple (ts.map tieD)]
theorem kind_ok (b : Bool) : (PyData.str (kindS b)).canLay0 = true ∧ (kindS b).cps.size ≤ 100 := by cases b <;> decide +kernel
theorem dp_ties {K : PySem.W.Frag} {H : Hp} : ∀ {vs : List V} {ts : List Tie}, Paired (TieV H) vs ts → DpAll K H vs (ts.map tieD)
  | _, _, .nil => .nil
  | _, _, .cons r t => by
    obtain ⟨a, rfl, e⟩ := r
    exact .cons (.tup (SqT.of e) (.cons (.int _) (.cons (.int _) (.cons (.str _) .nil)))) (dp_ties t)
theorem WebAt.dp {K : PySem.W.Frag} {H : Hp} {v : V} {n : Int} {ts : List Tie} (h : WebAt H v n ts) : Dp K H v (webD n ts) := by
  obtain ⟨a, b, vs, rfl, h1, h2, h3⟩ := h
  exact .tup (SqT.of h1) (.cons (.int _) (.cons (.tup (SqT.of h2) (dp_ties h3)) .nil))
theorem lay_tie (t : Tie) : (tieD t).canLay0 = true := by
  unfold tieD
  have h := (kind_ok t.foe).1
  simp only [PyData.canLay0, PyData.canLayAll0, Bool.true_and, Bool.and_true] at h ⊢
  exact h
theorem lay_ties : ∀ ts : List Tie, PyData.canLayAll0 (ts.map tieD) = true
  | [] => by simp [PyData.canLayAll0]
  | t :: ts => by rw [List.map_cons, PyData.canLayAll0, lay_tie t, lay_ties ts]; rfl
theorem lay_web (n : Int) (ts : List Tie) : (webD n ts).canLay0 = true := by
  unfold webD
  rw [PyData.canLay0, PyData.canLayAll0, PyData.canLayAll0, PyData.canLay0, PyData.canLay0, lay_ties, PyData.canLayAll0]
  rfl
theorem deep_ties : ∀ ts : List Tie, PyData.depthAll (ts.map tieD) ≤ 1
  | [] => by simp [PyData.depthAll]
  | t :: ts => by
    have h := deep_ties ts
    have g : (tieD t).depth = 1 := by simp [tieD, PyData.depth, PyData.depthAll]
    rw [List.map_cons, PyData.depthAll, g]
    omega
theorem shaped_web (n : Int) (ts : List Tie) : SeqAt.shaped (webD n ts) = true := by
  have h := deep_ties ts
  have d : (webD n ts).depth ≤ 3 := by
    simp only [webD, PyData.depth, PyData.depthAll]
    omega
  unfold SeqAt.shaped
  rw [lay_web]
  simp
  omega
/-! ### rows of numbers, in lists -/
def listD (xs : List Int) : PyData := .list (xs.map PyData.int)
theorem shaped_listD (xs : List Int) : SeqAt.shaped (listD xs) = true := by
  unfold SeqAt.shaped listD
  rw [PyData.canLay0, PyData.depth, lay_ints, deep_ints]
  rfl
theorem eqvAll_ints : ∀ xs ys : List Int, PyData.eqvAll (xs.map PyData.int) (ys.map PyData.int) = decide (xs = ys)
  | [], [] => by simp [PyData.eqvAll]
  | [], y :: ys => by simp [PyData.eqvAll]
  | x :: xs, [] => by simp [PyData.eqvAll]
  | x :: xs, y :: ys => by
    rw [List.map_cons, List.map_cons, PyData.eqvAll, eqvAll_ints xs ys, PyData.eqv]
    by_cases h1 : x = y <;> by_cases h2 : xs = ys <;> simp [h1, h2]
theorem eqv_listD (xs ys : List Int) : PyData.eqv (listD xs) (listD ys) = decide (xs = ys) := by
  unfold listD
  rw [PyData.eqv]
  exact eqvAll_ints xs ys
theorem filter_rng_succ (p : Int → Bool) (i : Nat) : ((rng (i + 1)).filter p).map V.int = ((rng i).filter p).map V.int ++ (if p i = true then [V.int i] else []) := by
  rw [rng_succ, List.filter_append, List.map_append, List.filter_cons]
  by_cases h : p i = true
  · rw [if_pos h, if_pos h]
    rfl
  · rw [if_neg h, if_neg h]
    rfl
theorem filter_rng_len (p : Int → Bool) (i : Nat) : ((rng i).filter p).length ≤ i := by
  have := List.length_filter_le p (rng i)
  rw [rng_length] at this
  exact this
/-! ### a tuple times one is the tuple -/
theorem tuple_mul1 (l : Addr) (items : Array Value) (n : Nat) (dd : Option Addr) (sl : Array (Option Value)) (u : Tok) :
    Meets (Builtin.«tuple.__mul__» ⟨[.ref l, .int 1 u], []⟩) (fun _ R s => s.heap.get? l = some { cls := .type "tuple", dict := dd, data := .seq items n, slots := sl } ∧ R (.ok (.ret (Value.ref l))) s) :=
  .of_wp fun prog w A R s h => by
    obtain ⟨hp, g, d, tk, os⟩ := s
    obtain ⟨hl, h⟩ := h
    have f1 := AutoSeq1.idx_int
    have c1 : (items.isEmpty || (1 : Int) == 1) = true := by simp
    wp_walk using wpAny_loadPart' hl
    repeat (first
      | (refine wpAny_ite_false (decide_eq_false (by decide)) ?_; wp_walk using wpAny_loadPart' hl)
      | (refine wpAny_ite_true (decide_eq_true c1) ?_; wp_walk using wpAny_loadPart' hl))
    exact ⟨_, rfl, h⟩
def rRep1 (K : PySem.W.Frag) : R2 := fun x y H Q => ∃ l xs, x = .ref l ∧ y = .int 1 ∧ SqT K H l xs ∧ Q (.ref l) H
theorem op_rep1 {X : Cx} : OpR X (binaryOp .Mult) (rRep1 X.K) := by
  intro pins s σ H x y v u Q I rx ry h
  obtain ⟨l, xs, rfl, rfl, hT, q⟩ := h
  cases rx
  obtain ⟨t, rfl⟩ := ry
  obtain ⟨its, r, ⟨⟨cls, dd, data, sl⟩, ho, hc, n, hd⟩, hs⟩ := I.tuple hT
  simp only at hc hd
  subst hc hd
  refine wpAny_binaryOp_repeat_ref (T := "tuple") (U := "int") (by decide) ⟨_, ho, rfl⟩ (fun s' => typeIs_int s' 1 t) noFill_tuple_mul F.fills_int_mul F.slot_int_rmul repeat_tuple F.slot_int_index.lookup
    (call_meets F.slot_int_rmul (typeIs_int s 1 t) F.entry_int_rmul (F.args_int_rmul_2 _ _) (int_rmul_tuple 1 t l its.toArray n dd sl)
      ⟨ho, rfl, ⟨_, ho, rfl⟩, call_meets F.slot_tuple_mul ⟨_, ho, rfl⟩ F.entry_tuple_mul (F.args_tuple_mul_2 _ _) (tuple_mul1 l its.toArray n dd sl t) ⟨ho, ?_⟩⟩)
  exact ⟨.ref l, H, I, rfl, q⟩
/-- one or more times: the same tuple, or a new one -/
def rRepA (K : PySem.W.Frag) : R2 := fun x y H Q => ∃ l k xs, x = .ref l ∧ y = .int k ∧ SqT K H l xs ∧ xs ≠ [] ∧ 1 ≤ k ∧ k ≤ 1000 ∧ xs.length ≤ 1000 ∧ (k = 1 → Q (.ref l) H) ∧ ∀ p, H p = none → Q (.ref p) (upd H p (.tup (List.replicate k.toNat xs).flatten))
theorem op_repA {X : Cx} : OpR X (binaryOp .Mult) (rRepA X.K) := by
  intro pins s σ H x y v u Q I rx ry h
  obtain ⟨l, k, xs, ex, ey, hT, hne, h1, h2, hz, q1, q2⟩ := h
  by_cases e : k = 1
  · exact op_rep1 pins s σ H x y v u Q I rx ry ⟨l, xs, ex, by rw [ey, e], hT, q1 e⟩
  · exact op_repT pins s σ H x y v u Q I rx ry ⟨l, k, xs, ex, ey, hT, hne, by omega, h2, hz, q2⟩
/-! ### sum(t, ()) of a tuple of tuples -/
abbrev Cx1 (X : Cx) : Cx := { X with A := X.A.in1, xe := fun _ _ => False }
theorem inv_in1 {X : Cx} {pins : List (Addr × Obj)} {σ : L2.St} {H : Hp} {s : Shared} (I : Inv X pins σ H s) : Inv (Cx1 X) pins σ H s := by
  have ok := I.ok
  exact ⟨⟨ok.mod, ok.kind, ok.glob, ok.blt, ok.above, ok.inj, ok.has, ok.cab, ok.hd, ok.frames, ok.stk, ok.exf, ok.bs, ok.bsz, ok.noex, ok.exfs, ok.funs, ok.frf⟩, I.os, I.bare, I.base, I.loc, I.cell, I.free, I.freeC, I.pin, I.hok, I.len⟩
theorem inv_out1 {X : Cx} {pins : List (Addr × Obj)} {σ : L2.St} {H : Hp} {s : Shared} (I : Inv (Cx1 X) pins σ H s) : Inv X pins σ H s := by
  have ok := I.ok
  exact ⟨⟨ok.mod, ok.kind, ok.glob, ok.blt, ok.above, ok.inj, ok.has, ok.cab, ok.hd, ok.frames, ok.stk, ok.exf, ok.bs, ok.bsz, ok.noex, ok.exfs, ok.funs, ok.frf⟩, I.os, I.bare, I.base, I.loc, I.cell, I.free, I.freeC, I.pin, I.hok, I.len⟩
def TupV (H : Hp) (x : V) (ys : List V) : Prop := ∃ b, x = .ref b ∧ H b = some (.tup ys)
def rSumT : List V → Hp → VK → Prop := fun vs H Q => ∃ (t e : Addr) (xs : List V) (yss : List (List V)), vs = [.ref t, .ref e] ∧ H t = some (.tup xs) ∧ H e = some (.tup []) ∧ Paired (TupV H) xs yss ∧ yss.flatten.length ≤ 100000 ∧ ∀ r H', Same H H' → H' r = some (.tup yss.flatten) → Q (.ref r) H'
theorem sumT_loop {X : Cx} {pins : List (Addr × Obj)} {σ : L2.St} {t It S : Addr} {xs : List V} {yss : List (List V)} {Q : VK} (hc : X.calm = true) (hIS : It ≠ S) (few : yss.flatten.length ≤ 100000) :
    ∀ (k i : Nat) (s : Shared) (H : Hp) (r : Addr) (c : Nat), yss.length - i = k → i ≤ yss.length → Inv X pins σ H s → s.heap.IsTupleIter It t i → s.heap.get? S = some { cls := .type "list", dict := none, data := .seq #[.ref r] c, slots := #[] } →
      FpOk X pins H It → FpOk X pins H S → H t = some (.tup xs) → Paired (TupV H) xs yss → H r = some (.tup (yss.take i).flatten) → (∀ r H', Same H H' → H' r = some (.tup yss.flatten) → Q (.ref r) H') →
      codeAny (model X.prog X.w) X.A (.builtin "sum.loop" ⟨[.ref It, .ref S, rawInt 2, rawInt 0], []⟩) (fun res s' => ∃ v, res = .ok (.ret v) ∧ EP X pins σ Q v s') s := by
  intro k
  induction k with
  | zero =>
    intro i s H r c hk hi I st hS fI fS ht hp hr q
    have hin : i = yss.length := by omega
    refine codeAny_builtin PySem.F.entry_sum_loop ?_
    rw [Around.under_plainId PySem.F.plain_sum_loop _]
    show wpAny _ X.A.in1 (seqItems? (.ref S) >>= _) _ _ s
    refine wpAny_bind (wpAny_seqItems hS rfl ?_)
    show wpAny _ X.A.in1 (tryCatch (pyNext (.ref It)) _ >>= _) _ _ s
    obtain ⟨its, rv, p, hz⟩ := I.tuple (SqT.of ht)
    have hl := rv.length
    have lx := Paired.length hp
    refine wpAny_bind (wpAny_tryCatch (wpAny_pyNext_tuple_end (I.ok.hd hc) st (show s.heap.IsTuple t its.toArray from p) (by simp; omega) fun h' eb => ?_))
    refine wpAny_pure ⟨.ref r, rfl, .ref r, H, I.turned (t' := s.toks) (fun b o hb e => eb b o hb e) fI.1 fI.2.1 fI.2.2.2.1 fI.2.2.2.2.1 fI.2.2.2.2.2, rfl, q r H (Same.refl H) ?_⟩
    rw [hr, hin, List.take_length]
  | succ k ih =>
    intro i s H r c hk hi I st hS fI fS ht hp hr q
    have hlt : i < yss.length := by omega
    refine codeAny_builtin PySem.F.entry_sum_loop ?_
    rw [Around.under_plainId PySem.F.plain_sum_loop _]
    show wpAny _ X.A.in1 (seqItems? (.ref S) >>= _) _ _ s
    refine wpAny_bind (wpAny_seqItems hS rfl ?_)
    show wpAny _ X.A.in1 (tryCatch (pyNext (.ref It)) _ >>= _) _ _ s
    obtain ⟨its, rv, p, hz⟩ := I.tuple (SqT.of ht)
    have hl := rv.length
    have lx := Paired.length hp
    have ey : yss[i]? = some yss[i] := List.getElem?_eq_getElem hlt
    obtain ⟨x, ex, b, rfl, hb⟩ := Paired.at' hp ey
    obtain ⟨u, hu, ru⟩ := rv.get ex
    refine wpAny_bind (wpAny_tryCatch (wpAny_pyNext_tuple_item st (show s.heap.IsTuple t its.toArray from p) (x := u) (by simpa using hu) fun h' st' sb => ?_))
    have I1 : Inv X pins σ H { s with heap := h' } := I.turned (t' := s.toks) (fun b o hb e => (sb.2 b hb).trans e) fI.1 fI.2.1 fI.2.2.2.1 fI.2.2.2.2.1 fI.2.2.2.2.2
    have hS1 : h'.get? S = _ := (sb.2 S (Ne.symm hIS)).trans hS
    cases ru
    show wpAny _ X.A.in1 ((holding [Value.ref b] (binaryOp .Add (.ref r) (.ref b))).attempt >>= _) _ _ _
    refine wpAny_bind (wpAny_attempt (wpAny_holding ?_))
    have fpp : ∀ c ∈ [It, S], FpOk X pins H c := fun c hc => by
      rcases List.mem_cons.mp hc with z | z
      · rw [z]; exact fI
      · rw [List.mem_singleton.mp z]; exact fS
    have obj : ∀ c ∈ [It, S], ∃ o, h'.get? c = some o ∧ ∀ v, o.data ≠ .cell v := fun c hc => by
      rcases List.mem_cons.mp hc with z | z
      · rw [z]
        obtain ⟨o, e, _, d⟩ := st'
        exact ⟨o, e, fun v z => by rw [d] at z; cases z⟩
      · rw [List.mem_singleton.mp z]
        exact ⟨_, hS1, fun v z => by cases z⟩
    have I2 := inv_in1 (I1.pinned fpp obj)
    have lf : (yss.take i).flatten.length + (yss[i]).length ≤ 100000 := by
      have e : yss.flatten = (yss.take i).flatten ++ (yss.drop i).flatten := by rw [← List.flatten_append, List.take_append_drop]
      rw [e, List.length_append, List.drop_eq_getElem_cons hlt, List.flatten_cons, List.length_append] at few
      omega
    refine wpAny_mono (op_catU (X := Cx1 X) _ _ σ H (.ref r) (.ref b) _ _ (fun v H' => ∃ r', v = .ref r' ∧ Same H H' ∧ H' r' = some (.tup ((yss.take i).flatten ++ yss[i]))) I2 rfl rfl ⟨r, b, _, _, rfl, rfl, hr, hb, lf, fun r' H' sm h => ⟨r', rfl, sm, h⟩⟩) (fun v s3 h3 => ?_) (fun _ _ z => z.elim)
    obtain ⟨v', H3, J3, rv3, r', rfl, sm, hr'⟩ := h3
    cases rv3
    have J3 := inv_out1 J3
    obtain ⟨oI, eI, cI, dI⟩ := id st'
    have pI := J3.pin (It, oI) (List.mem_append_right _ (List.mem_append_right _ (mem_pinsAt (by simp) eI)))
    have pS := J3.pin (S, _) (List.mem_append_right _ (List.mem_append_right _ (mem_pinsAt (by simp) hS1)))
    have K3 := J3.unpinned
    have gI : FpOk X pins H3 It := ⟨pI.2.1, fI.2⟩
    have gS : FpOk X pins H3 S := ⟨pS.2.1, fS.2⟩
    have hS3 : s3.heap.get? S = _ := pS.1
    show wpAny _ X.A.in1 (updateSeq S (fun _ => #[.ref r']) >>= _) _ _ _
    refine wpAny_bind (wpAny_updateSeq hS3 rfl ?_)
    have hS4 := Heap.get?_update_self (Obj.mapSeq fun _ => #[Value.ref r']) hS3 rfl
    refine wpAny_bind (wpAny_letGo ?_)
    have hS5 := Heap.get?_update_self (Obj.mapSeq fun _ => #[Value.ref r']) hS4 rfl
    have kp : ∀ b o, b ∉ [S] → s3.heap.get? b = some o → ((s3.heap.update S (Obj.mapSeq fun _ => #[Value.ref r'])).update S (Obj.mapSeq fun _ => #[Value.ref r'])).get? b = some o := fun b o hb e => by
      have hb : S ≠ b := fun z => hb (by rw [z]; simp)
      exact (Heap.get?_update_other _ _ hb).trans ((Heap.get?_update_other _ _ hb).trans e)
    have K5 := K3.turnedL (t' := s3.toks) kp fun b hb => by rw [List.mem_singleton.mp hb]; exact gS
    refine wpAny_bind (wpAny_updateSeq hS4 rfl (wpAny_pure ⟨plainId_quiet PySem.F.plain_sum_loop _, ih (i + 1) _ H3 r' _ (by omega) hlt K5 ⟨oI, kp It oI (by simpa using hIS) pI.1, cI, dI⟩ hS5 gI gS (sm _ _ ht) (Paired.mono (fun x ys h => by
      obtain ⟨b, e, h⟩ := h
      exact ⟨b, e, sm _ _ h⟩) hp) ?_ fun r2 H2 s2 h2 => q r2 H2 (sm.trans s2) h2⟩))
    rw [hr', List.take_add_one, ey, List.flatten_append]
    simp
theorem cr_sumT {X : Cx} (hc : X.calm = true) : CallR X (.builtin "sum") rSumT := by
  intro pins s σ H vs us Q I rv h
  obtain ⟨t, e, xs, yss, rfl, ht, he, hp, few, q⟩ := h
  cases rv with
  | cons r1 rv =>
  cases rv with
  | cons r2 rv =>
  cases rv
  cases r1
  cases r2
  refine call_function_tree PySem.F.kind_sum PySem.F.plain_sum PySem.F.entry_sum (by unfold argsOk; kernel_rfl) ?_
  unfold Builtin.«sum»
  simp only [List.length_cons, List.length_nil]
  rw [if_neg (by decide)]
  refine wpAny_bind (wpAny_of_eq (show Builtin.Builtins.bindParams "sum" ["start"] 0 ⟨[.ref e], []⟩ = pure [some (.ref e)] from rfl) ?_)
  obtain ⟨its, rv, p, hz⟩ := I.tuple (SqT.of ht)
  obtain ⟨its2, rv2, p2, hz2⟩ := I.tuple (SqT.of he)
  refine wpAny_bind (wpAny_pyIter_tuple (show s.heap.IsTuple t its.toArray from p) ?_)
  refine wpAny_bind (wpAny_pure ?_)
  have hT := Heap.IsTuple.typeIs (s := { s with heap := s.heap.push { cls := .type "tuple_iterator", data := .fields #[.ref t, .int 0 0] } }) (Heap.IsTuple.push (show s.heap.IsTuple e its2.toArray from p2) _)
  simp only [List.forIn_cons, List.forIn_nil]
  refine wpAny_bind (wpAny_bind (wpAny_bind (wpAny_isInstance (T := "tuple") (b := false) hT PySem.F.sub_tuple_str ?_)))
  simp only [Bool.false_eq_true, if_false]
  refine wpAny_pure (wpAny_bind (wpAny_bind (wpAny_isInstance (T := "tuple") (b := false) hT PySem.F.sub_tuple_bytes ?_)))
  simp only [Bool.false_eq_true, if_false]
  refine wpAny_pure (wpAny_bind (wpAny_bind (wpAny_isInstance (T := "tuple") (b := false) hT PySem.F.sub_tuple_bytearray ?_)))
  simp only [Bool.false_eq_true, if_false]
  refine wpAny_pure (wpAny_pure ?_)
  refine wpAny_bind (wpAny_newObj_type ?_)
  have I1 : Inv X pins σ H { s with heap := s.heap.push { cls := .type "tuple_iterator", data := .fields #[.ref t, .int 0 0] }, toks := s.toks } := I.kept fun b o e => Heap.get?_push_of_some _ e
  have fI : FpOk X pins H s.heap.objs.size := I.fpOk (Nat.le_refl _) (I.hok.fresh (Nat.le_refl _))
  have hs1 : (s.heap.push { cls := .type "tuple_iterator", data := .fields #[.ref t, .int 0 0] }).objs.size = s.heap.objs.size + 1 := Heap.size_push ..
  refine wpAny_pure ⟨plainId_quiet PySem.F.plain_sum_loop _, ?_⟩
  refine codeAny_mono (sumT_loop (t := t) (It := s.heap.objs.size) (yss := yss) (xs := xs) (Q := Q) hc ?_ few yss.length 0 _ H e 0 rfl (Nat.zero_le _) (I1.kept (t' := s.toks) fun b o e => Heap.get?_push_of_some _ e) ⟨_, Heap.get?_push_of_some _ (Heap.get?_push_size _ rfl), rfl, rfl⟩ (Heap.get?_push_size _ rfl) fI (I.fpOk ?_ (I.hok.fresh ?_)) ht hp he q) ?_
  · rw [hs1]
    exact Nat.ne_of_lt (Nat.lt_succ_self _)
  · rw [hs1]
    exact Nat.le_succ _
  · rw [hs1]
    exact Nat.le_succ _
  · rintro r s' ⟨v, rfl, h⟩
    exact h
/-! ### k17: things of many kinds, made by readings that keep all -/
theorem le1000 {n : Nat} (h : n ≤ 1000) : n ≤ sizeLine := Nat.le_of_lt (small1000 h)
def rRepU : R2 := fun x y H Q => ∃ l k xs, x = .ref l ∧ y = .int k ∧ H l = some (.tup xs) ∧ xs ≠ [] ∧ 1 ≤ k ∧ k ≤ 1000 ∧ xs.length ≤ 1000 ∧ ∀ r H', Same H H' → H' r = some (.tup (List.replicate k.toNat xs).flatten) → Q (.ref r) H'
theorem op_repU {X : Cx} : OpR X (binaryOp .Mult) rRepU := by
  intro pins s σ H x y v u Q I rx ry h
  obtain ⟨l, k, xs, rfl, rfl, hT, hne, h1, h2, hz, q⟩ := h
  refine op_repA pins s σ H _ _ v u Q I rx ry ⟨l, k, xs, rfl, rfl, SqT.of hT, hne, h1, h2, hz, fun e => ?_, fun p np => q p _ (same_new np) upd_same⟩
  subst e
  exact q l H (Same.refl H) (by simpa using hT)
theorem Same.kn {H H' : Hp} (s : Same H H') {v : V} (h : Kn H v) : Kn H' v := by
  cases v with
  | ref a =>
    rcases h with ⟨xs, h⟩ | ⟨xs, h⟩ | ⟨xs, h⟩
    · exact .inl ⟨xs, s _ _ h⟩
    · exact .inr (.inl ⟨xs, s _ _ h⟩)
    · exact .inr (.inr ⟨xs, s _ _ h⟩)
  | _ => exact h
/-- kinds are kept: tuples as they are, lists and dicts as such -/
structure Ks (H H' : Hp) : Prop where
  tup : ∀ a xs, H a = some (.tup xs) → H' a = some (.tup xs)
  lst : ∀ a xs, H a = some (.lst xs) → ∃ ys, H' a = some (.lst ys)
  dct : ∀ a xs, H a = some (.dK xs) → ∃ ys, H' a = some (.dK ys)
theorem Ks.trans {H H1 H2 : Hp} (a : Ks H H1) (b : Ks H1 H2) : Ks H H2 :=
  ⟨fun x xs h => b.tup _ _ (a.tup _ _ h), fun x xs h => by obtain ⟨ys, e⟩ := a.lst _ _ h; exact b.lst _ _ e, fun x xs h => by obtain ⟨ys, e⟩ := a.dct _ _ h; exact b.dct _ _ e⟩
theorem Same.ks {H H' : Hp} (s : Same H H') : Ks H H' := ⟨fun _ _ h => s _ _ h, fun _ _ h => ⟨_, s _ _ h⟩, fun _ _ h => ⟨_, s _ _ h⟩⟩
theorem Ks.mut {H : Hp} {a : Addr} {xs ys : List V} (h : H a = some (.lst xs)) : Ks H (upd H a (.lst ys)) := by
  refine ⟨fun b zs e => ?_, fun b zs e => ?_, fun b zs e => ?_⟩
  · rw [upd_ne (fun z => by rw [z, h] at e; cases e)]
    exact e
  · by_cases z : b = a
    · rw [z, upd_same]
      exact ⟨_, rfl⟩
    · rw [upd_ne z]
      exact ⟨_, e⟩
  · rw [upd_ne (fun z => by rw [z, h] at e; cases e)]
    exact ⟨_, e⟩
theorem Kp.ks {d : Addr} {b b' : Nat} {H H' : Hp} (k : Kp d d H H') (D : Well H d b) (D' : Well H' d b') : Ks H H' := by
  obtain ⟨g, st, i, e, _⟩ := D
  obtain ⟨g', st', i', e', _⟩ := D'
  refine ⟨fun a zs h => ?_, fun a zs h => ?_, fun a zs h => ?_⟩
  · have n : a ≠ d := fun z => by rw [z, e] at h; cases h
    exact k a _ n n h
  · by_cases z : a = d
    · rw [z]
      exact ⟨_, e'⟩
    · exact ⟨_, k a _ z z h⟩
  · have n : a ≠ d := fun z => by rw [z, e] at h; cases h
    exact ⟨_, k a _ n n h⟩
theorem Ks.kn {H H' : Hp} (s : Ks H H') {v : V} (h : Kn H v) : Kn H' v := by
  cases v with
  | ref a =>
    rcases h with ⟨xs, h⟩ | ⟨xs, h⟩ | ⟨xs, h⟩
    · exact .inl (s.lst _ _ h)
    · exact .inr (.inl ⟨xs, s.tup _ _ h⟩)
    · exact .inr (.inr (s.dct _ _ h))
  | _ => exact h
theorem Ks.parts {H H' : Hp} (s : Ks H H') {v : V} (h : Kn H v) : parts H' v = parts H v := by
  cases v with
  | ref a =>
    unfold FF.parts
    rcases h with ⟨xs, h⟩ | ⟨xs, h⟩ | ⟨xs, h⟩
    · obtain ⟨ys, e⟩ := s.lst _ _ h
      simp only [h, e]
    · simp only [h, s.tup _ _ h]
    · obtain ⟨ys, e⟩ := s.dct _ _ h
      simp only [h, e]
  | _ => rfl
theorem PartK.ks {H H' : Hp} (s : Ks H H') {v : V} (h : PartK H v) : PartK H' v := ⟨s.kn h.1, fun ys e y hy => by
  rw [s.parts h.1] at e
  exact s.kn (h.2 ys e y hy)⟩
theorem ThingK.ks {H H' : Hp} (s : Ks H H') {v : V} (h : ThingK H v) : ThingK H' v := ⟨s.kn h.1, fun ys e y hy => by
  rw [s.parts h.1] at e
  exact (h.2 ys e y hy).ks s⟩
theorem ThingK.part {H : Hp} {v : V} (h : ThingK H v) : PartK H v := ⟨h.1, fun ys e y hy => (h.2 ys e y hy).1⟩
theorem thing_sc {H : Hp} {v : V} (h : Kn H v) (n : parts H v = none) : ThingK H v := ⟨h, fun ys e => by rw [n] at e; cases e⟩
theorem thing_lst {H : Hp} {a : Addr} {xs : List V} (h : H a = some (.lst xs)) : ThingK H (.ref a) := thing_sc (.inl ⟨_, h⟩) (by unfold FF.parts; simp only [h])
theorem thing_dct {H : Hp} {a : Addr} {xs : List (Key × V)} (h : H a = some (.dK xs)) : ThingK H (.ref a) := thing_sc (.inr (.inr ⟨_, h⟩)) (by unfold FF.parts; simp only [h])
theorem thing_tup {H : Hp} {a : Addr} {xs : List V} (h : H a = some (.tup xs)) (g : ∀ x ∈ xs, ThingK H x) : ThingK H (.ref a) := ⟨.inr (.inl ⟨_, h⟩), fun ys e y hy => by
  rw [parts_of' h] at e
  cases e
  exact (g y hy).part⟩
theorem thing_ints {H : Hp} {a : Addr} {ns : List Int} (h : H a = some (.tup (ns.map V.int))) : ThingK H (.ref a) := thing_tup h fun x hx => by
  obtain ⟨z, _, rfl⟩ := List.mem_map.mp hx
  exact thing_sc trivial rfl
/-- a reading that makes a thing and keeps all -/
def GE (σ : L2.St) (H0 : Hp) (te : TE) : Prop := ∀ H Q, Same H0 H → (∀ v H', Same H H' → ThingK H' v → Q v H') → te σ H Q
def GA (σ : L2.St) (H0 : Hp) (ta : TA) (n : Nat) : Prop := ∀ H Q, Same H0 H → (∀ vs H', Same H H' → vs.length = n → (∀ v ∈ vs, ThingK H' v) → Q vs H') → ta σ H Q
def GI (σ : L2.St) (te : TE) (k : Int) : Prop := ∀ H Q, Q (.int k) H → te σ H Q
section
variable {σ : L2.St} {H0 : Hp}
theorem ge_non : GE σ H0 (tC .non) := fun H Q _ q => q _ _ (Same.refl H) (thing_sc trivial rfl)
theorem ge_bl {b : Bool} : GE σ H0 (tC (.bl b)) := fun H Q _ q => q _ _ (Same.refl H) (thing_sc trivial rfl)
theorem ge_int {i : Int} : GE σ H0 (tC (.int i)) := fun H Q _ q => q _ _ (Same.refl H) (thing_sc trivial rfl)
theorem ge_str {x : Str} : GE σ H0 (tC (.str x)) := fun H Q _ q => q _ _ (Same.refl H) (thing_sc trivial rfl)
theorem ge_gi {te : TE} {k : Int} (h : GI σ te k) : GE σ H0 te := fun H Q _ q => h H Q (q _ _ (Same.refl H) (thing_sc trivial rfl))
theorem gi_neg {i : Int} : GI σ (tUn (rU fun i => .int (-i)) (tC (.int i))) (-i) := fun H Q q => ⟨i, rfl, q⟩
theorem gi_pow {i j : Int} (h : CPow i j) : GI σ (tOp (rI CPow fun i j => .int (i ^ j.toNat)) (tC (.int i)) (tC (.int j))) (i ^ j.toNat) := fun H Q q => ⟨i, j, rfl, rfl, h, q⟩
theorem gi_var {i : Nat} {k : Int} (h : σ[i]? = some (some (.int k))) : GI σ (tVar i) k := fun H Q q => ⟨_, h, q⟩
theorem gi_twice {te : TE} {k : Int} (h : GI σ te k) : GI σ (tOp (rI CMul fun i j => .int (i * j)) (tC (.int 2)) te) (2 * k) := fun H Q q => h H _ ⟨2, k, rfl, rfl, .inl ⟨by decide, by decide⟩, q⟩
theorem ge_var {i : Nat} {v : V} (h : σ[i]? = some (some v)) (t : ThingK H0 v) : GE σ H0 (tVar i) := fun H Q s q => ⟨v, h, q _ _ (Same.refl H) (t.ks (Same.ks s))⟩
theorem ga_nil : GA σ H0 tNil 0 := fun H Q _ q => q [] H (Same.refl H) rfl (fun v hv => by cases hv)
theorem ga_cons {te : TE} {ta : TA} {n : Nat} (h : GE σ H0 te) (g : GA σ H0 ta n) : GA σ H0 (tCons te ta) (n + 1) := fun H Q s q =>
  h H _ s fun v H1 s1 t1 => g H1 _ (s.trans s1) fun vs H2 s2 l2 t2 => q _ _ (s1.trans s2) (by rw [List.length_cons, l2]) fun x hx => by
    rcases List.mem_cons.mp hx with z | z
    · rw [z]
      exact t1.ks (Same.ks s2)
    · exact t2 x z
theorem ge_tup {ta : TA} {n : Nat} (g : GA σ H0 ta n) (hn : n ≤ 1000) : GE σ H0 (tTup ta) := fun H Q s q =>
  g H _ s fun vs H1 s1 l1 t1 => ⟨by rw [l1]; exact le1000 (by omega), fun p np => q _ _ (s1.trans (same_new np)) (thing_tup upd_same fun x hx => (t1 x hx).ks (Same.ks (same_new np)))⟩
theorem ge_lst {ta : TA} {n : Nat} (g : GA σ H0 ta n) (hn : n ≤ 1000) : GE σ H0 (tLst ta) := fun H Q s q =>
  g H _ s fun vs H1 s1 l1 t1 => ⟨by rw [l1]; exact le1000 (by omega), fun p np => q _ _ (s1.trans (same_new np)) (thing_lst upd_same)⟩
theorem ge_dnew : GE σ H0 tDNewK := fun H Q s q p np => q _ _ (same_new np) (thing_dct upd_same)
/-- a list of things, as such -/
theorem lst_of {ta : TA} {n : Nat} (g : GA σ H0 ta n) (hn : n ≤ 1000) {H : Hp} {Q : VK} (s : Same H0 H) (q : ∀ p vs H', Same H H' → H p = none → H' p = some (.lst vs) → vs.length = n → (∀ v ∈ vs, ThingK H' v) → Q (.ref p) H') : tLst ta σ H Q :=
  g H _ s fun vs H1 s1 l1 t1 => ⟨by rw [l1]; exact le1000 (by omega), fun p np => q p vs _ (s1.trans (same_new np)) (by
    cases e : H p with
    | none => rfl
    | some o => rw [s1 _ _ e] at np; cases np) upd_same l1 fun x hx => (t1 x hx).ks (Same.ks (same_new np))⟩
theorem rep_mem {x v : V} {k : Nat} (h : v ∈ (List.replicate k [x]).flatten) : v = x := by
  obtain ⟨l, hl, hv⟩ := List.mem_flatten.mp h
  rw [(List.mem_replicate.mp hl).2] at hv
  exact List.mem_singleton.mp hv
theorem ge_rep {te tk : TE} {k : Int} (g : GE σ H0 te) (h : GI σ tk k) (k1 : 1 ≤ k) (k2 : k ≤ 1000) : GE σ H0 (tOp rRepU (tTup (tCons te tNil)) tk) := fun H Q s q =>
  g H _ s fun v H1 s1 t1 => ⟨(show 1 ≤ sizeLine from le1000 (by decide)), fun p np => h _ _ ⟨p, k, [v], rfl, rfl, upd_same, by simp, k1, k2, show 1 ≤ 1000 by decide, fun r H' s' h' =>
    q _ _ ((s1.trans (same_new np)).trans s') (thing_tup h' fun x hx => by
      rw [rep_mem hx]
      exact t1.ks (Same.ks ((same_new np).trans s')))⟩⟩
theorem ge_repL {te tk : TE} {k : Int} (g : GE σ H0 te) (h : GI σ tk k) (k1 : 1 ≤ k) (k2 : k ≤ 1000) : GE σ H0 (tOp rRep (tLst (tCons te tNil)) tk) := fun H Q s q =>
  g H _ s fun v H1 s1 t1 => ⟨(show 1 ≤ sizeLine from le1000 (by decide)), fun p np => h _ _ ⟨p, k, [v], rfl, rfl, upd_same, by omega, by omega, (by show 1 * k.toNat ≤ sizeLine; exact le1000 (by omega)), fun r nr =>
    q _ _ ((s1.trans (same_new np)).trans (same_new nr)) (thing_lst upd_same)⟩⟩
theorem ge_repT {te tk : TE} {k : Int} {r : List V → Hp → VK → Prop} (hr : ∀ (p : Addr) (ys : List V) (H : Hp) (Q : VK), H p = some (.lst ys) → (∀ l, H l = none → Q (.ref l) (upd H l (.tup ys))) → r [.ref p] H Q) (g : GE σ H0 te) (h : GI σ tk k) (k1 : 1 ≤ k) (k2 : k ≤ 1000) : GE σ H0 (tCB r (tCons (tOp rRep (tLst (tCons te tNil)) tk) tNil)) := fun H Q s q =>
  g H _ s fun v H1 s1 t1 => ⟨(show 1 ≤ sizeLine from le1000 (by decide)), fun p np => h _ _ ⟨p, k, [v], rfl, rfl, upd_same, by omega, by omega, (by show 1 * k.toNat ≤ sizeLine; exact le1000 (by omega)), fun z nz =>
    hr z _ _ _ upd_same fun l nl => q _ _ (((s1.trans (same_new np)).trans (same_new nz)).trans (same_new nl)) (thing_tup upd_same fun x hx => by
      rw [rep_mem hx]
      exact t1.ks (Same.ks (((same_new np).trans (same_new nz)).trans (same_new nl))))⟩⟩
theorem ge_catU {i : Nat} {a : Addr} {xs : List V} {ta : TA} {n : Nat} (h : σ[i]? = some (some (.ref a))) (ha : H0 a = some (.tup xs)) (lx : xs.length ≤ 1000) (tx : ∀ x ∈ xs, ThingK H0 x) (g : GA σ H0 ta n) (hn : n ≤ 1000) : GE σ H0 (tOp rCatU (tVar i) (tTup ta)) := fun H Q s q =>
  ⟨.ref a, h, g H _ s fun vs H1 s1 l1 t1 => ⟨by rw [l1]; exact le1000 (by omega), fun p np => ⟨a, p, xs, vs, rfl, rfl, same_new np _ _ (s1 _ _ (s _ _ ha)), upd_same, by omega, fun r H' s' h' =>
    q _ _ ((s1.trans (same_new np)).trans s') (thing_tup h' fun x hx => by
      rcases List.mem_append.mp hx with z | z
      · exact (tx x z).ks (Same.ks (((s.trans s1).trans (same_new np)).trans s'))
      · exact (t1 x z).ks (Same.ks ((same_new np).trans s')))⟩⟩⟩
end
/-! steps of a reading, one by one -/
theorem go_asg {te : TE} {g : TG} {D : Ends} {σ : L2.St} {H : Hp} (h : te σ H fun x H1 => g x σ H1 D.nx) : tAsg te g D σ H := h
theorem go_name {i : Nat} {v : V} {σ : L2.St} {H : Hp} {Q : L2.St → Hp → Prop} (h : Q (σ.set i (some v)) H) : gName i v σ H Q := h
theorem go_seq {t u : TS} {D : Ends} {σ : L2.St} {H : Hp} (h : t { D with nx := u D } σ H) : tSeq t u D σ H := h
theorem go_op {r : R2} {ta tb : TE} {σ : L2.St} {H : Hp} {Q : VK} (h : ta σ H fun x H1 => tb σ H1 fun y H2 => r x y H2 Q) : tOp r ta tb σ H Q := h
theorem go_var {i : Nat} {v : V} {σ : L2.St} {H : Hp} {Q : VK} (e : σ[i]? = some (some v)) (h : Q v H) : tVar i σ H Q := ⟨v, e, h⟩
theorem go_ret {te : TE} {D : Ends} {σ : L2.St} {H : Hp} (h : te σ H D.rt) : tRet te D σ H := h
theorem go_set {te : TE} {i : Nat} {u : TS} {D : Ends} {σ : L2.St} {H : Hp} (h : te σ H fun x H1 => u D (σ.set i (some x)) H1) : tSeq (tAsg te (gName i)) u D σ H := h
theorem go_do {te : TE} {u : TS} {D : Ends} {σ : L2.St} {H : Hp} (h : te σ H fun _ H1 => u D σ H1) : tSeq (tDrop te) u D σ H := h
/-! ### k17: _law_within, _law_things -/
def spWithin : Sp := fun vs H Q _ => ∃ (d : Addr) (b : Nat) (v : V), vs = [.ref d, v] ∧ Well H d b ∧ b < 2 ^ 50 ∧ ThingK H v ∧ ∀ v' H', ThingK H' v' → Well H' d (b + 6) → Kp d d H H' → Q v' H'
theorem ge_disp1 {σ : L2.St} {H0 : Hp} {te : TE} (kv : Key) (g : GE σ H0 te) : GE σ H0 (tDisp [(tC (kV kv), te)]) := fun H Q s q p np => by
  refine g _ _ (s.trans (same_new np)) fun v H1 s1 t1 => ?_
  have e1 := s1 _ _ (upd_same (H := H) (a := p) (o := .dK []))
  refine ⟨e1, [(kv, v)], rfl, (by show 1 ≤ 15; decide), q _ _ (fun b o e => ?_) (thing_dct upd_same)⟩
  have nb : b ≠ p := fun z => by rw [z, np] at e; cases e
  rw [upd_ne nb]
  exact s1 _ _ (by rw [upd_ne nb]; exact e)
section
variable {P : Program} {w : World} {K : PySem.W.Frag} {mg : Str → Option Value} {base : Heap}
theorem ok_l_within {f : Addr} {fd : FuncData} (F : Fun K "_law_within" "_law_within" s_l_within f fd) (M : Free mg) (D_l_draw : Df P w K mg base 1 "_law_draw" ["_law_well_here", "_law_many"] spDraw) : FnOk P w K mg base CX0 2 f fd ["_law_well_here", "_law_thing"] spWithin := by
  obtain ⟨f_l_draw, fd_l_draw, G_l_draw, g_l_draw, k_l_draw, b_l_draw⟩ := D_l_draw
  refine F.ok sc_l_within (fun vs H Q E h => ?_) (fun cdv A outer s H vs Q E hr h => ?_)
  · obtain ⟨d, b, v, rfl, _⟩ := h
    rfl
  · obtain ⟨d, b, v, rfl, hD, hB, hv, q⟩ := h
    refine ⟨_, (pss_cons (ps_for PassesOwn.never rfl (pi_range1 (by rfl) M.range (pa_cons (pe_call G_l_draw (hr.mono (by decide)) (by rfl) g_l_draw k_l_draw b_l_draw .nil pass0 (pa_cons (pv 0) (pa_cons pe_int pa_nil))) pa_nil)) (pg_name (i := 2) sc_l_within.nd rfl (.inl rfl))
        (pss_one (ps_set (i := 1) sc_l_within.nd rfl (.inl rfl) (pe_ix ix_list (pe_lst (pa_cons (pe_tup (pa_cons (pv 1) pa_nil)) (pa_cons (pe_lst (pa_cons (pv 1) pa_nil)) (pa_cons (pe_disp (pps_cons pe_str (pv 1) pps_nil) (by rfl) (by rfl) (fun z => by cases z) (by decide)) (pa_cons (pe_disp (pps_cons pe_int (pv 1) pps_nil) (by rfl) (by rfl) (fun z => by cases z) (by decide)) (pa_cons (pe_tup (pa_cons (pv 1) (pa_cons pe_int pa_nil))) pa_nil)))))) (pe_call G_l_draw (hr.mono (by decide)) (by rfl) g_l_draw k_l_draw b_l_draw .nil pass0 (pa_cons (pv 0) (pa_cons pe_int pa_nil))) (fun _ _ => rfl)))))
      (pss_one (ps_ret (pv 1)))), ?_⟩
    refine ⟨.ref d, rfl, d, b, 6, rfl, hD, by omega, by decide, by decide, fun c H1 a1 b1 D1 K1 => ⟨c, rfl, by omega, by omega, ?_⟩⟩
    refine for_range (lo := 0) (n := c.toNat) (fun i σ' H' => ∃ (y : V) (z : Option V), σ' = [some (.ref d), some y, z] ∧ ThingK H' y ∧ Well H' d (b + 1 + i) ∧ Kp d d H H') ⟨v, none, rfl, hv.ks (K1.ks hD D1), D1, K1⟩ ?_ (fun σ' H' h => ?_)
    · rintro i σ' H2 hi ⟨y, z, rfl, ty, D2, K2⟩
      refine go_name (go_asg (go_op ?_))
      refine lst_of (σ := [some (.ref d), some y, some (.int (0 + (i : Nat)))]) (H0 := H2) (n := 5) (ga_cons (ge_tup (ga_cons (ge_var (i := 1) rfl ty) ga_nil) (by decide)) (ga_cons (ge_lst (ga_cons (ge_var (i := 1) rfl ty) ga_nil) (by decide)) (ga_cons (ge_disp1 (.inr "a") (ge_var (i := 1) rfl ty)) (ga_cons (ge_disp1 (.inl 0) (ge_var (i := 1) rfl ty)) (ga_cons (ge_tup (ga_cons (ge_var (i := 1) rfl ty) (ga_cons ge_int ga_nil)) (by decide)) ga_nil))))) (by decide) (Same.refl _) fun L vs H3 s3 nL hL l5 tv => ?_
      have D3 := D2.same s3
      have Ld : L ≠ d := D2.ned nL
      refine ⟨.ref d, rfl, d, _, 5, rfl, D3, by omega, by decide, by decide, fun x H4 a4 b4 D4 K4 => ?_⟩
      obtain ⟨u, e1, e2⟩ := getI (xs := vs) a4 (by omega)
      exact ⟨L, vs, x, u, rfl, rfl, SqL.of (K4 _ _ Ld Ld hL), e1, u, _, rfl, (tv u (List.mem_of_getElem? e2)).ks (K4.ks D3 D4), D4.mono (by omega), (K2.trans (Same.kp s3)).trans K4⟩
    · obtain ⟨y, z, rfl, ty, D2, K2⟩ := h
      exact ⟨y, rfl, q _ _ ty (D2.mono (by omega)) K2⟩
end
/-! ### k17: _law_things -/
def rTupOf (K : PySem.W.Frag) : List V → Hp → VK → Prop := fun xs H Q => ∃ p ys, xs = [V.ref p] ∧ ((SqL K H p ys ∧ ∀ l, H l = none → Q (.ref l) (upd H l (.tup ys))) ∨ (SqT K H p ys ∧ Q (.ref p) H))
def rLstOf (K : PySem.W.Frag) : List V → Hp → VK → Prop := fun xs H Q => ∃ p ys, xs = [V.ref p] ∧ (SqL K H p ys ∨ SqT K H p ys) ∧ ∀ l, H l = none → Q (.ref l) (upd H l (.lst ys))
def rLenK (K : PySem.W.Frag) : List V → Hp → VK → Prop := fun xs H Q => ∃ p ys, xs = [V.ref p] ∧ (SqL K H p ys ∨ SqT K H p ys) ∧ Q (V.int (ys.length : Nat)) H
def rStrI : List V → Hp → VK → Prop := fun xs H Q => ∃ i, xs = [V.int i] ∧ i.natAbs.log2 < 1920 ∧ Q (.str (toString i)) H
def sc17 : Scope := { kind := .function, names := [(".0", .local), ("_law_row_here", .local), ("tuple", .globalImplicit)], isGenerator := false, isCoroutine := false }
def spThings : Sp := fun vs H Q _ => ∃ (d : Addr) (b : Nat) (wv lv : V) (n : Nat) (ts : List Tie) (rs : List (List Int)), vs = [.ref d, wv, lv] ∧ Well H d b ∧ b < 2 ^ 40 ∧ WebAt H wv n ts ∧ WebOk n ts ∧ LayAt H lv n ts rs ∧ ∀ L xs H', H' L = some (.lst xs) → xs.length ≤ 100 → L ≠ d → (∀ x ∈ xs, ThingK H' x) → Well H' d (b + 60) → Kp d d H H' → Q (.ref L) H'
theorem cat_lst {σ : L2.St} {H0 H : Hp} {i : Nat} {L : Addr} {xs : List V} {ta : TA} {n : Nat} {Q : VK} (e : σ[i]? = some (some (.ref L))) (hL : H L = some (.lst xs)) (lx : xs.length ≤ 500) (tx : ∀ x ∈ xs, ThingK H x) (g : GA σ H0 ta n) (hn : n ≤ 100) (s : Same H0 H)
    (q : ∀ p ys H', Same H H' → H p = none → H' p = some (.lst ys) → ys.length = xs.length + n → (∀ y ∈ ys, ThingK H' y) → Q (.ref p) H') : tOp rCat (tVar i) (tLst ta) σ H Q := by
  refine go_op (go_var e ?_)
  refine lst_of g (by omega) s fun p vs H1 s1 np hp lv tv => ?_
  refine ⟨L, p, xs, vs, rfl, rfl, s1 _ _ hL, hp, le1000 (by omega), fun r nr => ?_⟩
  have nr0 : H r = none := by
    cases z : H r with
    | none => rfl
    | some o => rw [s1 _ _ z] at nr; cases nr
  refine q r _ _ (s1.trans (same_new nr)) nr0 upd_same (by rw [List.length_append, lv]) fun y hy => ?_
  rcases List.mem_append.mp hy with z | z
  · exact (tx y z).ks (Same.ks (s1.trans (same_new nr)))
  · exact (tv y z).ks (Same.ks (same_new nr))
theorem go_drop {te : TE} {D : Ends} {σ : L2.St} {H : Hp} (h : te σ H fun _ H1 => D.nx σ H1) : tDrop te D σ H := h
theorem tyL {K : PySem.W.Frag} {H : Hp} {L : Addr} {xs : List V} (h : H L = some (.lst xs)) : tyV K "list" (.ref L) H := .inl ⟨rfl, _, SqL.of h⟩
theorem app_lst {K : PySem.W.Frag} {σ : L2.St} {H0 H : Hp} {i : Nat} {L : Addr} {xs : List V} {te : TE} {Q : VK} (e : σ[i]? = some (some (.ref L))) (hL : H L = some (.lst xs)) (lx : xs.length ≤ 500) (nL : H0 L = none) (tx : ∀ x ∈ xs, ThingK H x) (g : GE σ H0 te) (s : Same H0 H)
    (q : ∀ ys H', Same H0 H' → Ks H H' → H' L = some (.lst ys) → ys.length = xs.length + 1 → (∀ y ∈ ys, ThingK H' y) → Q .non H') : tBM K "list" rAppend (tVar i) (tCons te tNil) σ H Q := by
  refine ⟨.ref L, e, tyL hL, g H _ s fun v H1 s1 t1 => ?_⟩
  have hL1 := s1 _ _ hL
  have k1 : Ks H1 (upd H1 L (.lst (xs ++ [v]))) := Ks.mut hL1
  refine ⟨L, xs, v, rfl, rfl, hL1, small1000 (by omega), q _ _ (Same.mut (s.trans s1) nL) ((Same.ks s1).trans k1) upd_same (by simp) fun y hy => ?_⟩
  rcases List.mem_append.mp hy with z | z
  · exact (tx y z).ks ((Same.ks s1).trans k1)
  · rw [List.mem_singleton.mp z]
    exact t1.ks k1
theorem rs_flat {H : Hp} {vs : List V} {rs : List (List Int)} (h : Paired (IntsV H) vs rs) : Paired (TupV H) vs (rs.map fun r => r.map V.int) := by
  induction h with
  | nil => exact .nil
  | cons r t ih =>
    obtain ⟨b, e, h⟩ := r
    exact .cons ⟨b, e, h⟩ ih
theorem flat_len {m : Nat} : ∀ {rs : List (List Int)}, (∀ r ∈ rs, r.length ≤ m) → (rs.map fun r => r.map V.int).flatten.length ≤ rs.length * m
  | [], _ => by simp
  | r :: rs, h => by
    have h1 := h r (by simp)
    have h2 := flat_len (rs := rs) fun x hx => h x (by simp [hx])
    rw [List.map_cons, List.flatten_cons, List.length_append, List.length_map, List.length_cons, Nat.add_mul]
    omega
theorem ge_sum {σ : L2.St} {H0 : Hp} {i : Nat} {a : Addr} {vs : List V} {rs : List (List Int)} (e : σ[i]? = some (some (.ref a))) (ha : H0 a = some (.tup vs)) (hp : Paired (IntsV H0) vs rs) (few : (rs.map fun r => r.map V.int).flatten.length ≤ 100000) : GE σ H0 (tCB rSumT (tCons (tVar i) (tCons (tTup tNil) tNil))) := fun H Q s q =>
  ⟨.ref a, e, Nat.zero_le _, fun p np => ⟨a, p, vs, _, rfl, same_new np _ _ (s _ _ ha), upd_same, rs_flat (Paired.mono (fun _ _ x => by
    obtain ⟨b, e, h⟩ := x
    exact ⟨b, e, same_new np _ _ (s _ _ h)⟩) hp), few, fun r H' s' h' => q _ _ ((same_new np).trans s') (thing_tup h' fun x hx => by
      obtain ⟨l, hl, hx⟩ := List.mem_flatten.mp hx
      obtain ⟨r, _, rfl⟩ := List.mem_map.mp hl
      obtain ⟨z, _, rfl⟩ := List.mem_map.mp hx
      exact thing_sc trivial rfl)⟩⟩
theorem log_low {x : Int} (h0 : 0 ≤ x) (h1 : x ≤ 10 ^ 9) : x.natAbs.log2 < 1920 := by
  by_cases h : x.natAbs = 0
  · rw [h]
    decide
  · exact (Nat.log2_lt h).mpr (Nat.lt_of_lt_of_le (show x.natAbs < 2 ^ 30 by omega) (Nat.pow_le_pow_right (by decide) (by decide)))
theorem ge_strs {K : PySem.W.Frag} {d wa la ra L : Addr} {n : Int} {H0 : Hp} {vs : List V} {rs : List (List Int)} (hla : H0 la = some (.tup vs)) (hp : Paired (IntsV H0) vs rs) (few : vs.length ≤ 40) (ok : ∀ r ∈ rs, r.length ≤ 80 ∧ ∀ x ∈ r, 0 ≤ x ∧ x ≤ 10 ^ 9) :
    GE [some (.ref d), some (.ref wa), some (.ref la), some (.int n), some (.ref ra), some (.ref L), none, none, none] H0 (tCB (rTupOf K) (tCons (tLc (iTup K (tVar 2)) (gName 4) tYes (tCB (rTupOf K) (tCons (tLc (iTup K (tVar 4)) (gName 6) tYes (tCB rStrI (tCons (tVar 6) tNil)) [6]) tNil)) [4]) tNil)) := fun H Q s q => by
  refine ⟨.ref la, rfl, la, rfl, ⟨_, SqT.of (s _ _ hla)⟩, fun D nD => ?_⟩
  refine lc_tup (K := K) (xs := vs) (fun i H' => ∃ ys, H' D = some (.lst ys) ∧ ys.length = i ∧ (∀ y ∈ ys, ThingK H' y) ∧ Same H H') ⟨[], upd_same, rfl, by simp, same_new nD⟩ (fun i H' _ ⟨_, _, _, _, s'⟩ => SqT.of (s' _ _ (s _ _ hla))) ?_ ?_
  · rintro i x H1 ex ⟨ys, hD, ly, ty, s1⟩
    obtain ⟨row, er, b, rfl, hb⟩ := Paired.at hp ex
    have hb1 := s1 _ _ (s _ _ hb)
    obtain ⟨r80, rok⟩ := ok row (List.mem_of_getElem? er)
    have il : i < vs.length := (List.getElem?_eq_some_iff.mp ex).1
    refine ⟨rfl, .ref b, rfl, b, rfl, ⟨_, SqT.of hb1⟩, fun D2 nD2 => ?_⟩
    refine lc_tup (K := K) (xs := row.map V.int) (fun i H' => ∃ zs, H' D2 = some (.lst zs) ∧ zs.length = i ∧ (∀ z ∈ zs, ∃ t, z = V.str t) ∧ Same H1 H') ⟨[], upd_same, rfl, by simp, same_new nD2⟩ (fun i H' _ ⟨_, _, _, _, s'⟩ => SqT.of (s' _ _ hb1)) ?_ ?_
    · rintro j x H2 ex2 ⟨zs, hD2, lz, tz, s2⟩
      obtain ⟨z, hz, rfl⟩ := List.mem_map.mp (List.mem_of_getElem? ex2)
      have jl : j < (row.map V.int).length := (List.getElem?_eq_some_iff.mp ex2).1
      rw [List.length_map] at jl
      refine ⟨rfl, .int z, rfl, z, rfl, log_low (rok z hz).1 (rok z hz).2, zs, hD2, small1000 (by omega), zs ++ [.str (toString z)], upd_same, by simp [lz], fun y hy => ?_, Same.mut s2 nD2⟩
      rcases List.mem_append.mp hy with h | h
      · exact tz y h
      · exact ⟨_, List.mem_singleton.mp h⟩
    · rintro H2 ⟨zs, hD2, lz, tz, s2⟩
      refine ⟨D2, zs, rfl, .inl ⟨SqL.of hD2, fun l nl => ?_⟩⟩
      have e3 := same_new (o := .tup zs) nl
      have hD3 := e3 _ _ (s2 _ _ hD)
      have k3 := Same.ks (s2.trans e3)
      have k4 := Ks.mut (ys := ys ++ [.ref l]) hD3
      refine ⟨ys, hD3, small1000 (by omega), ys ++ [.ref l], upd_same, by simp [ly], fun y hy => ?_, Same.mut (s1.trans (s2.trans e3)) nD⟩
      rcases List.mem_append.mp hy with h | h
      · exact (ty y h).ks (k3.trans k4)
      · rw [List.mem_singleton.mp h]
        refine (thing_tup upd_same fun x hx => ?_).ks k4
        obtain ⟨t, rfl⟩ := tz x hx
        exact thing_sc trivial rfl
  · rintro H1 ⟨ys, hD, ly, ty, s1⟩
    refine ⟨D, ys, rfl, .inl ⟨SqL.of hD, fun l nl => ?_⟩⟩
    exact q _ _ (s1.trans (same_new nl)) (thing_tup upd_same fun x hx => (ty x hx).ks (Same.ks (same_new nl)))
theorem ge_lists {K : PySem.W.Frag} {d wa la ra L : Addr} {n : Int} {H0 : Hp} {vs : List V} {rs : List (List Int)} (hla : H0 la = some (.tup vs)) (hp : Paired (IntsV H0) vs rs) (few : vs.length ≤ 40) :
    GE [some (.ref d), some (.ref wa), some (.ref la), some (.int n), some (.ref ra), some (.ref L), none, none, none] H0 (tCB (rTupOf K) (tCons (tLc (iTup K (tVar 2)) (gName 6) tYes (tCB (rLstOf K) (tCons (tVar 6) tNil)) [6]) tNil)) := fun H Q s q => by
  refine ⟨.ref la, rfl, la, rfl, ⟨_, SqT.of (s _ _ hla)⟩, fun D nD => ?_⟩
  refine lc_tup (K := K) (xs := vs) (fun i H' => ∃ ys, H' D = some (.lst ys) ∧ ys.length = i ∧ (∀ y ∈ ys, ThingK H' y) ∧ Same H H') ⟨[], upd_same, rfl, by simp, same_new nD⟩ (fun i H' _ ⟨_, _, _, _, s'⟩ => SqT.of (s' _ _ (s _ _ hla))) ?_ ?_
  · rintro i x H1 ex ⟨ys, hD, ly, ty, s1⟩
    obtain ⟨row, er, b, rfl, hb⟩ := Paired.at hp ex
    have hb1 := s1 _ _ (s _ _ hb)
    have il : i < vs.length := (List.getElem?_eq_some_iff.mp ex).1
    refine ⟨rfl, .ref b, rfl, b, _, rfl, .inr (SqT.of hb1), fun l nl => ?_⟩
    have e3 := same_new (o := .lst (row.map V.int)) nl
    have hD3 := e3 _ _ hD
    have k4 := Ks.mut (ys := ys ++ [.ref l]) hD3
    refine ⟨ys, hD3, small1000 (by omega), ys ++ [.ref l], upd_same, by simp [ly], fun y hy => ?_, Same.mut (s1.trans e3) nD⟩
    rcases List.mem_append.mp hy with h | h
    · exact (ty y h).ks ((Same.ks e3).trans k4)
    · rw [List.mem_singleton.mp h]
      exact (thing_lst upd_same).ks k4
  · rintro H1 ⟨ys, hD, ly, ty, s1⟩
    refine ⟨D, ys, rfl, .inl ⟨SqL.of hD, fun l nl => ?_⟩⟩
    exact q _ _ (s1.trans (same_new nl)) (thing_tup upd_same fun x hx => (ty x hx).ks (Same.ks (same_new nl)))
def rDictP (K : PySem.W.Frag) : List V → Hp → VK → Prop := fun xs H Q => ∃ (a : Addr) (ps : List Addr) (kvs : List (Key × V)), xs = [V.ref a] ∧ SqL K H a (ps.map V.ref) ∧ Paired (fun p kv => SqT K H p [kV kv.1, kv.2]) ps kvs ∧ ∀ p, H p = none → Q (.ref p) (upd H p (.dK (mergeK [] kvs)))
theorem ge_dict {K : PySem.W.Frag} {d wa la ra L : Addr} {n : Nat} {H0 : Hp} {vs : List V} (hla : H0 la = some (.tup vs)) (few : vs.length = n) (n40 : n ≤ 40) :
    GE [some (.ref d), some (.ref wa), some (.ref la), some (.int n), some (.ref ra), some (.ref L), none, none, none] H0 (tCB (rDictP K) (tCons (tLc (iRng1 (tCons (tVar 3) tNil)) (gName 7) tYes (tTup (tCons (tVar 7) (tCons (tOp (rIxT K) (tVar 2) (tVar 7)) tNil))) [7]) tNil)) := fun H Q s q => by
  refine ⟨.int n, rfl, n, rfl, by omega, by omega, fun D nD => ?_⟩
  rw [Int.toNat_natCast]
  refine lc_range (lo := 0) (n := n) (fun i H' => ∃ (ps : List Addr) (kvs : List (Key × V)), H' D = some (.lst (ps.map V.ref)) ∧ ps.length = i ∧ Paired (fun p kv => H' p = some (.tup [kV kv.1, kv.2])) ps kvs ∧ Same H H') ⟨[], [], upd_same, rfl, .nil, same_new nD⟩ ?_ ?_
  · rintro i H1 hi ⟨ps, kvs, hD, lp, hp, s1⟩
    rw [show (0 : Int) + (i : Nat) = i from by omega]
    obtain ⟨u, e1, e2⟩ := getI (xs := vs) (i := (i : Int)) (by omega) (by omega)
    refine ⟨rfl, .int i, rfl, .ref la, rfl, .int i, rfl, la, vs, i, u, rfl, rfl, SqT.of (s1 _ _ (s _ _ hla)), e1, le1000 (by show 2 ≤ 1000; decide), fun p np => ?_⟩
    have e3 := same_new (o := .tup [.int i, u]) np
    have hD3 := e3 _ _ hD
    refine ⟨_, hD3, small1000 (by rw [List.length_map]; omega), ps ++ [p], kvs ++ [(.inl (i : Int), u)], by rw [upd_same, List.map_append]; rfl, by simp [lp], Paired.snoc (Paired.mono (fun a kv h => ?_) hp) ?_, Same.mut (s1.trans e3) nD⟩
    · have h := e3 _ _ h
      rw [upd_ne (fun z => by rw [z, hD3] at h; cases h)]
      exact h
    · rw [upd_ne (fun z => by rw [z, hD] at np; cases np)]
      exact upd_same
  · rintro H1 ⟨ps, kvs, hD, lp, hp, s1⟩
    exact ⟨D, ps, kvs, rfl, SqL.of hD, Paired.mono (fun a kv h => SqT.of h) hp, fun p np => q _ _ (s1.trans (same_new np)) (thing_dct upd_same)⟩
section
variable {P : Program} {w : World} {K : PySem.W.Frag} {mg : Str → Option Value} {base : Heap}
set_option maxHeartbeats 2000000 in
theorem ok_l_things {f : Addr} {fd : FuncData} (F : Fun K "_law_things" "_law_things" s_l_things f fd) (M : Free mg) (m_dict : mg "dict" = none) (D_l_draw : Df P w K mg base 1 "_law_draw" ["_law_well_here", "_law_many"] spDraw) (D_l_within : Df P w K mg base 2 "_law_within" ["_law_well_here", "_law_thing"] spWithin) : FnOk P w K mg base CX0 3 f fd ["_law_well_here", "_law_web_here", "_law_layers_here"] spThings := by
  obtain ⟨f_l_draw, fd_l_draw, G_l_draw, g_l_draw, k_l_draw, b_l_draw⟩ := D_l_draw
  obtain ⟨f_l_within, fd_l_within, G_l_within, g_l_within, k_l_within, b_l_within⟩ := D_l_within
  refine F.ok sc_l_things (fun vs H Q E h => ?_) (fun cdv A outer s H vs Q E hr h => ?_)
  · obtain ⟨d, b, wv, lv, n, ts, rs, rfl, _⟩ := h
    rfl
  · obtain ⟨d, b, wv, lv, n, ts, rs, rfl, hD, hB, hW, ok, hlay, q⟩ := h
    refine ⟨_, (pss_cons (ps_set (i := 3) sc_l_things.nd rfl (.inl rfl) (pe_ix ix_tup (pv 1) pe_int (fun _ _ => rfl)))
      (pss_cons (ps_set (i := 4) sc_l_things.nd rfl (.inl rfl) (pe_ix ix_tup (pv 2) (pe_call G_l_draw (hr.mono (by decide)) (by rfl) g_l_draw k_l_draw b_l_draw .nil pass0 (pa_cons (pv 0) (pa_cons (pv 3) pa_nil))) (fun _ _ => rfl)))
      (pss_cons (ps_set (i := 5) sc_l_things.nd rfl (.inr rfl) (pe_lst (pa_cons pe_non (pa_cons pe_bl (pa_cons pe_bl (pa_cons pe_int (pa_cons pe_int (pa_cons (pe_un un_neg pe_int) (pa_cons (pe_op op_pow pe_int pe_int) (pa_cons pe_str (pa_cons pe_str (pa_cons (pe_tup pa_nil) (pa_cons (pe_lst pa_nil) (pa_cons pe_dnewK (pa_cons (pe_tup (pa_cons (pe_tup pa_nil) pa_nil)) (pa_cons (pe_tup (pa_cons (pe_lst pa_nil) pa_nil)) (pa_cons (pe_tup (pa_cons pe_non pa_nil)) (pa_cons (pe_tup (pa_cons pe_str pa_nil)) (pa_cons (pe_tup (pa_cons pe_int pa_nil)) pa_nil)))))))))))))))))))
      (pss_cons (ps_set (i := 5) sc_l_things.nd rfl (.inr rfl) (pe_op op_cat (pv 5) (pe_lst (pa_cons (pe_op op_repU (pe_tup (pa_cons pe_bl pa_nil)) (pv 3)) (pa_cons (pe_op op_repU (pe_tup (pa_cons pe_int pa_nil)) (pv 3)) (pa_cons (pe_op op_repU (pe_tup (pa_cons pe_str pa_nil)) (pv 3)) (pa_cons (pe_tup (pa_cons (pv 4) pa_nil)) (pa_cons (pv 4) (pa_cons (pe_op op_repU (pe_tup (pa_cons (pv 4) pa_nil)) (pv 3)) (pa_cons (pe_op op_rep (pe_lst (pa_cons (pv 4) pa_nil)) (pv 3)) (pa_cons (pe_tup (pa_cons (pv 2) pa_nil)) pa_nil)))))))))))
      (pss_cons (ps_set (i := 5) sc_l_things.nd rfl (.inr rfl) (pe_op op_cat (pv 5) (pe_lst (pa_cons (pe_op op_catU (pv 2) (pe_tup (pa_cons pe_non pa_nil))) (pa_cons (pe_op op_catU (pv 2) (pe_tup (pa_cons (pe_tup pa_nil) pa_nil))) (pa_cons (pe_tup (pa_cons (pv 2) (pa_cons (pv 2) pa_nil))) (pa_cons (pe_tup (pa_cons (pe_tup (pa_cons pe_int (pa_cons pe_int pa_nil))) pa_nil)) (pa_cons (pe_tup (pa_cons (pe_tup (pa_cons pe_int (pa_cons (pe_op op_pow pe_int pe_int) pa_nil))) pa_nil)) (pa_cons (pe_tup (pa_cons (pe_tup (pa_cons pe_int pa_nil)) pa_nil)) pa_nil)))))))))
      (pss_cons (ps_expr (pe_bm PySem.F.plainAttrs_list PySem.F.slot_list_append PySem.F.type_list_append mt_append (pv 5) (pa_cons (pe_tup (pa_cons (pe_tup (pa_cons pe_int (pa_cons pe_int (pa_cons pe_int pa_nil)))) pa_nil)) pa_nil)))
      (pss_cons (ps_set (i := 5) sc_l_things.nd rfl (.inr rfl) (pe_op op_cat (pv 5) (pe_lst (pa_cons (pe_tup (pa_cons (pe_tup (pa_cons pe_bl (pa_cons pe_bl pa_nil))) pa_nil)) (pa_cons (pe_tup (pa_cons (pe_tup (pa_cons pe_str (pa_cons pe_str pa_nil))) pa_nil)) (pa_cons (pe_tup (pa_cons (pe_tup (pa_cons pe_int (pa_cons pe_non pa_nil))) pa_nil)) (pa_cons (pe_tup (pa_cons (pe_tup (pa_cons pe_int (pa_cons (pe_un un_neg pe_int) pa_nil))) pa_nil)) (pa_cons (pe_tup (pa_cons (pe_tup (pa_cons (pe_tup (pa_cons pe_int (pa_cons pe_int pa_nil))) pa_nil)) pa_nil)) (pa_cons (pe_callTy call_tuple_of (by rfl) M.tuple (by decide +kernel) (pa_cons (pe_op op_rep (pe_lst (pa_cons (pe_tup pa_nil) pa_nil)) (pv 3)) pa_nil)) pa_nil)))))))))
      (pss_cons (ps_set (i := 5) sc_l_things.nd rfl (.inr rfl) (pe_op op_cat (pv 5) (pe_lst (pa_cons (pe_callTy call_tuple_of (by rfl) M.tuple (by decide +kernel) (pa_cons (pe_op op_rep (pe_lst (pa_cons (pe_op op_repU (pe_tup (pa_cons pe_int pa_nil)) (pe_op op_mul pe_int (pv 3))) pa_nil)) (pv 3)) pa_nil)) (pa_cons (pe_callTy call_tuple_of (by rfl) M.tuple (by decide +kernel) (pa_cons (pe_op op_rep (pe_lst (pa_cons (pe_op op_repU (pe_tup (pa_cons pe_bl pa_nil)) (pe_op op_mul pe_int (pv 3))) pa_nil)) (pv 3)) pa_nil)) (pa_cons (pe_callB (cr_sumT rfl) (by rfl) M.sum (by decide +kernel) (pa_cons (pv 2) (pa_cons (pe_tup pa_nil) pa_nil))) pa_nil))))))
      (pss_cons (ps_set (i := 5) sc_l_things.nd rfl (.inr rfl) (pe_op op_cat (pv 5) (pe_lst (pa_cons (pe_callTy call_tuple_of (by rfl) M.tuple (by decide +kernel) (pa_cons (pe_op op_rep (pe_lst (pa_cons (pe_op op_repU (pe_tup (pa_cons pe_bl pa_nil)) (pe_op op_mul pe_int (pv 3))) pa_nil)) (pv 3)) pa_nil)) (pa_cons (pe_callTy call_tuple_of (by rfl) M.tuple (by decide +kernel) (pa_cons (pe_lc (own := [("_law_row_here", 4)]) (g := (gName 4)) (tt := tYes) rfl sc_l_things.nd (pi_tup (pv 2)) (blkOk_by (N := N_l_things) (sc := defScope s_l_things) (own := [("_law_row_here", 4)]) (by decide +kernel)) (fun _ _ _ _ _ => (pg_name (i := 4) sc_l_things.nd rfl (.inl rfl))) (fun _ _ _ _ _ => pts_nil) (fun _ _ _ _ _ => (pe_callTy (r := rTupOf K) (T := "tuple") call_tuple_of (by rfl) M.tuple (by decide +kernel) (pa_cons (pe_lc (own := [("_law_one", 6)]) (g := (gName 6)) (tt := tYes) (wi := iTup K (tVar 4)) rfl sc_l_things.nd (pi_tup (pv 4)) (blkOk_by (N := N_l_things) (sc := sc17) (own := [("_law_one", 6)]) (by decide +kernel)) (fun _ _ _ _ _ => (pg_name (i := 6) sc_l_things.nd rfl (.inl rfl))) (fun _ _ _ _ _ => pts_nil) (fun _ _ _ _ _ => (pe_callTy (r := rStrI) (T := "str") call_str_int (by rfl) M.str (by decide +kernel) (pa_cons (pv 6) pa_nil)))) pa_nil)))) pa_nil)) pa_nil)))))
      (pss_cons (ps_expr (pe_bm PySem.F.plainAttrs_list PySem.F.slot_list_append PySem.F.type_list_append mt_append (pv 5) (pa_cons (pe_callTy call_tuple_of (by rfl) M.tuple (by decide +kernel) (pa_cons (pe_lc (own := [("_law_one", 6)]) (g := (gName 6)) (tt := tYes) rfl sc_l_things.nd (pi_tup (pv 2)) (blkOk_by (N := N_l_things) (sc := defScope s_l_things) (own := [("_law_one", 6)]) (by decide +kernel)) (fun _ _ _ _ _ => (pg_name (i := 6) sc_l_things.nd rfl (.inl rfl))) (fun _ _ _ _ _ => pts_nil) (fun _ _ _ _ _ => (pe_callTy (r := rLstOf K) (T := "list") call_list_of (by rfl) M.list (by decide +kernel) (pa_cons (pv 6) pa_nil)))) pa_nil)) pa_nil)))
      (pss_cons (ps_expr (pe_bm PySem.F.plainAttrs_list PySem.F.slot_list_append PySem.F.type_list_append mt_append (pv 5) (pa_cons (pe_callTy (call_dictP rfl) (by rfl) m_dict (by decide +kernel) (pa_cons (pe_lc (own := [("_law_place", 7)]) (g := (gName 7)) (tt := tYes) rfl sc_l_things.nd (pi_range1 (by rfl) M.range (pa_cons (pv 3) pa_nil)) (blkOk_by (N := N_l_things) (sc := defScope s_l_things) (own := [("_law_place", 7)]) (by decide +kernel)) (fun _ _ _ _ _ => (pg_name (i := 7) sc_l_things.nd rfl (.inl rfl))) (fun _ _ _ _ _ => pts_nil) (fun _ _ _ _ _ => (pe_tup (pa_cons (pv 7) (pa_cons (pe_ix (r := rIxT K) ix_tup (pv 2) (pv 7) (fun _ _ => rfl)) pa_nil))))) pa_nil)) pa_nil)))
      (pss_one (ps_ret (pe_op op_cat (pv 5) (pe_lc (own := [("_law_k", 8)]) (g := (gName 8)) (tt := tYes) rfl sc_l_things.nd (pi_range1 (by rfl) M.range (pa_cons pe_int pa_nil)) (blkOk_by (N := N_l_things) (sc := defScope s_l_things) (own := [("_law_k", 8)]) (by decide +kernel)) (fun _ _ _ _ _ => (pg_name (i := 8) sc_l_things.nd rfl (.inl rfl))) (fun _ _ _ _ _ => pts_nil) (fun _ _ _ _ _ => (pe_call G_l_within (hr.mono (by decide)) (by rfl) g_l_within k_l_within b_l_within .nil pass0 (pa_cons (pv 0) (pa_cons (pe_ix (r := rIxL K) ix_list (pv 5) (pe_call G_l_draw (hr.mono (by decide)) (by rfl) g_l_draw k_l_draw b_l_draw .nil pass0 (pa_cons (pv 0) (pa_cons (pe_callB (r := rLenK K) call_len_seq (by rfl) M.len PySem.boot_len (pa_cons (pv 5) pa_nil)) pa_nil))) (fun _ _ => rfl)) pa_nil))))))))))))))))))), ?_⟩
    obtain ⟨wa, wb, us, rfl, hwa, hwb, hp⟩ := id hW
    obtain ⟨la, vs, rfl, hla, hvs, lr, rg⟩ := id hlay
    have n1 : 1 ≤ n := by have := ok.lo; omega
    have n40 : n ≤ 40 := by have := ok.hi; omega
    have lvs : vs.length = rs.length := Paired.length hvs
    refine go_set ⟨.ref wa, rfl, wa, _, 0, .int n, rfl, rfl, SqT.of hwa, rfl, ?_⟩
    refine go_set ⟨.ref la, rfl, .ref d, rfl, .int n, rfl, d, b, n, rfl, hD, by omega, by omega, by omega, fun j H1 a1 b1 D1 K1 => ?_⟩
    have tk1 := K1.tk hD
    have hla1 := tk1 _ _ hla
    have hp1 : Paired (IntsV H1) vs rs := Paired.mono (fun _ _ x => x.tk tk1) hvs
    obtain ⟨u, e1, e2⟩ := getI (xs := vs) a1 (by omega)
    obtain ⟨row, er, ra, rfl, hra⟩ := Paired.at hp1 e2
    refine ⟨la, vs, j, .ref ra, rfl, rfl, SqT.of hla1, e1, ?_⟩
    have tra : ThingK H1 (.ref ra) := thing_ints hra
    have tvs : ∀ x ∈ vs, ThingK H1 x := fun x hx => by
      obtain ⟨i, hi⟩ := List.getElem?_of_mem hx
      obtain ⟨row, _, b, rfl, hb⟩ := Paired.at hp1 hi
      exact thing_ints hb
    have tla : ThingK H1 (.ref la) := thing_tup hla1 tvs
    have few : (rs.map fun r => r.map V.int).flatten.length ≤ 100000 := by
      have h1 := flat_len (m := 80) (rs := rs) fun r hr => by
        obtain ⟨i, hi⟩ := List.getElem?_of_mem hr
        have := (rg i r hi).len
        omega
      have : rs.length * 80 ≤ 40 * 80 := Nat.mul_le_mul_right _ (by omega)
      omega
    refine go_set ?_
    refine lst_of (σ := [some (.ref d), some (.ref wa), some (.ref la), some (.int n), some (.ref ra), none, none, none, none]) (H0 := H1) (n := 17) (ga_cons ge_non (ga_cons ge_bl (ga_cons ge_bl (ga_cons ge_int (ga_cons ge_int (ga_cons (ge_gi gi_neg) (ga_cons (ge_gi (gi_pow ⟨by decide, by decide, by decide⟩)) (ga_cons ge_str (ga_cons ge_str (ga_cons (ge_tup ga_nil (by decide)) (ga_cons (ge_lst ga_nil (by decide)) (ga_cons ge_dnew (ga_cons (ge_tup (ga_cons (ge_tup ga_nil (by decide)) ga_nil) (by decide)) (ga_cons (ge_tup (ga_cons (ge_lst ga_nil (by decide)) ga_nil) (by decide)) (ga_cons (ge_tup (ga_cons ge_non ga_nil) (by decide)) (ga_cons (ge_tup (ga_cons ge_str ga_nil) (by decide)) (ga_cons (ge_tup (ga_cons ge_int ga_nil) (by decide)) ga_nil))))))))))))))))) (by decide) (Same.refl _) fun L1 x1 H2 s2 n2 h2 l2 t2 => ?_
    refine go_set ?_
    refine cat_lst (σ := [some (.ref d), some (.ref wa), some (.ref la), some (.int n), some (.ref ra), some (.ref L1), none, none, none]) (H0 := H1) (n := 8) (i := 5) rfl h2 (by omega) t2 (ga_cons (ge_rep ge_bl (gi_var (i := 3) rfl) (by omega) (by omega)) (ga_cons (ge_rep ge_int (gi_var (i := 3) rfl) (by omega) (by omega)) (ga_cons (ge_rep ge_str (gi_var (i := 3) rfl) (by omega) (by omega)) (ga_cons (ge_tup (ga_cons (ge_var (i := 4) rfl tra) ga_nil) (by decide)) (ga_cons (ge_var (i := 4) rfl tra) (ga_cons (ge_rep (ge_var (i := 4) rfl tra) (gi_var (i := 3) rfl) (by omega) (by omega)) (ga_cons (ge_repL (ge_var (i := 4) rfl tra) (gi_var (i := 3) rfl) (by omega) (by omega)) (ga_cons (ge_tup (ga_cons (ge_var (i := 2) rfl tla) ga_nil) (by decide)) ga_nil)))))))) (by decide) s2 fun L2 x2 H3 s3 n3 h3 l3 t3 => ?_
    refine go_set ?_
    have s13 := s2.trans s3
    refine cat_lst (σ := [some (.ref d), some (.ref wa), some (.ref la), some (.int n), some (.ref ra), some (.ref L2), none, none, none]) (H0 := H1) (n := 6) (i := 5) rfl h3 (by omega) t3 (ga_cons (ge_catU (i := 2) rfl hla1 (by omega) tvs (ga_cons ge_non ga_nil) (by decide)) (ga_cons (ge_catU (i := 2) rfl hla1 (by omega) tvs (ga_cons (ge_tup ga_nil (by decide)) ga_nil) (by decide)) (ga_cons (ge_tup (ga_cons (ge_var (i := 2) rfl tla) (ga_cons (ge_var (i := 2) rfl tla) ga_nil)) (by decide)) (ga_cons (ge_tup (ga_cons (ge_tup (ga_cons ge_int (ga_cons ge_int ga_nil)) (by decide)) ga_nil) (by decide)) (ga_cons (ge_tup (ga_cons (ge_tup (ga_cons ge_int (ga_cons (ge_gi (gi_pow ⟨by decide, by decide, by decide⟩)) ga_nil)) (by decide)) ga_nil) (by decide)) (ga_cons (ge_tup (ga_cons (ge_tup (ga_cons ge_int ga_nil) (by decide)) ga_nil) (by decide)) ga_nil)))))) (by decide) s13 fun L3 x3 H4 s4 n4 h4 l4 t4 => ?_
    have s14 := s13.trans s4
    have fr : ∀ {L : Addr} {H' : Hp}, Same H1 H' → H' L = none → H1 L = none := fun {L H'} s e => by
      cases z : H1 L with
      | none => rfl
      | some o => rw [s _ _ z] at e; cases e
    refine go_do ?_
    refine app_lst (σ := [some (.ref d), some (.ref wa), some (.ref la), some (.int n), some (.ref ra), some (.ref L3), none, none, none]) (H0 := H1) (i := 5) rfl h4 (by omega) (fr s13 n4) t4 (ge_tup (ga_cons (ge_tup (ga_cons ge_int (ga_cons ge_int (ga_cons ge_int ga_nil))) (by decide)) ga_nil) (by decide)) s14 fun x4 H5 s15 k5 h5 l5 t5 => ?_
    refine go_set ?_
    refine cat_lst (σ := [some (.ref d), some (.ref wa), some (.ref la), some (.int n), some (.ref ra), some (.ref L3), none, none, none]) (H0 := H1) (n := 6) (i := 5) rfl h5 (by omega) t5 (ga_cons (ge_tup (ga_cons (ge_tup (ga_cons ge_bl (ga_cons ge_bl ga_nil)) (by decide)) ga_nil) (by decide)) (ga_cons (ge_tup (ga_cons (ge_tup (ga_cons ge_str (ga_cons ge_str ga_nil)) (by decide)) ga_nil) (by decide)) (ga_cons (ge_tup (ga_cons (ge_tup (ga_cons ge_int (ga_cons ge_non ga_nil)) (by decide)) ga_nil) (by decide)) (ga_cons (ge_tup (ga_cons (ge_tup (ga_cons ge_int (ga_cons (ge_gi gi_neg) ga_nil)) (by decide)) ga_nil) (by decide)) (ga_cons (ge_tup (ga_cons (ge_tup (ga_cons (ge_tup (ga_cons ge_int (ga_cons ge_int ga_nil)) (by decide)) ga_nil) (by decide)) ga_nil) (by decide)) (ga_cons (ge_repT (fun p ys H Q h q => ⟨p, ys, rfl, .inl ⟨SqL.of h, q⟩⟩) (ge_tup ga_nil (by decide)) (gi_var (i := 3) rfl) (by omega) (by omega)) ga_nil)))))) (by decide) s15 fun L5 x5 H6 s6 n6 h6 l6 t6 => ?_
    have s16 := s15.trans s6
    refine go_set ?_
    refine cat_lst (σ := [some (.ref d), some (.ref wa), some (.ref la), some (.int n), some (.ref ra), some (.ref L5), none, none, none]) (H0 := H1) (n := 3) (i := 5) rfl h6 (by omega) t6 (ga_cons (ge_repT (fun p ys H Q h q => ⟨p, ys, rfl, .inl ⟨SqL.of h, q⟩⟩) (ge_rep ge_int (gi_twice (gi_var (i := 3) rfl)) (by omega) (by omega)) (gi_var (i := 3) rfl) (by omega) (by omega)) (ga_cons (ge_repT (fun p ys H Q h q => ⟨p, ys, rfl, .inl ⟨SqL.of h, q⟩⟩) (ge_rep ge_bl (gi_twice (gi_var (i := 3) rfl)) (by omega) (by omega)) (gi_var (i := 3) rfl) (by omega) (by omega)) (ga_cons (ge_sum (i := 2) rfl hla1 hp1 few) ga_nil))) (by decide) s16 fun L6 x6 H7 s7 n7 h7 l7 t7 => ?_
    have s17 := s16.trans s7
    refine go_set ?_
    have rok : ∀ r ∈ rs, r.length ≤ 80 ∧ ∀ x ∈ r, 0 ≤ x ∧ x ≤ 10 ^ 9 := fun r hr => by
      obtain ⟨i, hi⟩ := List.getElem?_of_mem hr
      have g := rg i r hi
      have := g.len
      exact ⟨by omega, fun x hx => ⟨g.pos x hx, g.up x hx⟩⟩
    refine cat_lst (σ := [some (.ref d), some (.ref wa), some (.ref la), some (.int n), some (.ref ra), some (.ref L6), none, none, none]) (H0 := H1) (n := 2) (i := 5) rfl h7 (by omega) t7 (ga_cons (ge_repT (fun p ys H Q h q => ⟨p, ys, rfl, .inl ⟨SqL.of h, q⟩⟩) (ge_rep ge_bl (gi_twice (gi_var (i := 3) rfl)) (by omega) (by omega)) (gi_var (i := 3) rfl) (by omega) (by omega)) (ga_cons (ge_strs (K := K) hla1 hp1 (by omega) rok) ga_nil)) (by decide) s17 fun L7 x7 H8 s8 n8 h8 l8 t8 => ?_
    have s18 := s17.trans s8
    have nL7 := fr s17 n8
    refine go_do ?_
    refine app_lst (σ := [some (.ref d), some (.ref wa), some (.ref la), some (.int n), some (.ref ra), some (.ref L7), none, none, none]) (H0 := H1) (i := 5) rfl h8 (by omega) nL7 t8 (ge_lists (K := K) hla1 hp1 (by omega)) s18 fun x8 H9 s19 k9 h9 l9 t9 => ?_
    refine go_do ?_
    refine app_lst (σ := [some (.ref d), some (.ref wa), some (.ref la), some (.int n), some (.ref ra), some (.ref L7), none, none, none]) (H0 := H1) (i := 5) rfl h9 (by omega) nL7 t9 (ge_dict (K := K) hla1 (by omega) n40) s19 fun x9 H10 s110 k10 h10 l10 t10 => ?_
    have D10 := D1.same s110
    have Ld : L7 ≠ d := D1.ned nL7
    refine go_ret (go_op (go_var rfl ?_))
    refine ⟨4, rfl, by decide, by decide, fun D nD => ?_⟩
    rw [show ((4 : Int).toNat) = 4 from rfl]
    have Dd : D ≠ d := D10.ned nD
    have DL : D ≠ L7 := fun z => by rw [z, h10] at nD; cases nD
    refine lc_range (lo := 0) (n := 4) (fun i H' => ∃ ys, H' D = some (.lst ys) ∧ ys.length = i ∧ (∀ y ∈ ys, ThingK H' y) ∧ Well H' d (b + 1 + 8 * i) ∧ H' L7 = some (.lst x9) ∧ Ks H10 H' ∧ Kp d d H1 H') ⟨[], upd_same, rfl, by simp, D10.new nD, same_new nD _ _ h10, Same.ks (same_new nD), Same.kp (s110.trans (same_new nD))⟩ ?_ ?_
    · rintro i H11 hi ⟨ys, hD11, ly, ty, D11, h11, k11, K11⟩
      refine ⟨rfl, .ref d, rfl, .ref L7, rfl, .ref d, rfl, .ref L7, rfl, L7, x9, rfl, .inl (SqL.of h11), d, _, _, rfl, D11, by omega, by omega, by omega, fun j H12 a12 b12 D12 K12 => ?_⟩
      obtain ⟨u, e1, e2⟩ := getI (xs := x9) a12 b12
      have h12 := K12 _ _ Ld Ld h11
      have k12 := K12.ks D11 D12
      refine ⟨L7, x9, j, u, rfl, rfl, SqL.of h12, e1, d, _, u, rfl, D12, by omega, (t10 u (List.mem_of_getElem? e2)).ks (k11.trans k12), fun v H13 t13 D13 K13 => ?_⟩
      have k13 := K13.ks D12 D13
      have hD13 := K13 _ _ Dd Dd (K12 _ _ Dd Dd hD11)
      have k14 := Ks.mut (ys := ys ++ [v]) hD13
      refine ⟨ys, hD13, small1000 (by omega), ys ++ [v], upd_same, by simp [ly], fun y hy => ?_, (D13.mut Dd).mono (by omega), ?_, ((k11.trans k12).trans k13).trans k14, fun a o g1 g2 e => ?_⟩
      · rcases List.mem_append.mp hy with h | h
        · exact (ty y h).ks ((k12.trans k13).trans k14)
        · rw [List.mem_singleton.mp h]
          exact t13.ks k14
      · rw [upd_ne (Ne.symm DL)]
        exact K13 _ _ Ld Ld h12
      · rw [upd_ne (fun z => by rw [z, fr s110 nD] at e; cases e)]
        exact ((K11.trans K12).trans K13) a o g1 g2 e
    · rintro H11 ⟨ys, hD11, ly, ty, D11, h11, k11, K11⟩
      refine ⟨L7, D, x9, ys, rfl, rfl, h11, hD11, le1000 (by omega), fun p np => ?_⟩
      have e := same_new (o := .lst (x9 ++ ys)) np
      refine q p _ _ upd_same (by rw [List.length_append]; omega) (D11.ned np) (fun y hy => ?_) ((D11.same e).mono (by omega)) ((K1.trans K11).trans (Same.kp e))
      rcases List.mem_append.mp hy with h | h
      · exact (t10 y h).ks (k11.trans (Same.ks e))
      · exact (ty y h).ks (Same.ks e)
end
/-! ### k17: the law -/
def spLaw (K : PySem.W.Frag) (Ps : List Addr) : Sp := fun vs H Q _ => ∃ (a : Addr) (ns : List Int), vs = [.ref a] ∧ SqL K H a (ns.map V.int) ∧ ns.length ≤ 63 ∧ Tabs Ps H ∧ ∀ H', Q (.bl true) H'
def spRight17 (Ps : List Addr) : Sp := fun vs H Q _ => ∃ (wv : V) (n : Nat) (ts : List Tie) (num : Int) (v : V), vs = [wv, .int num, v] ∧ WebAt H wv n ts ∧ WebOk n ts ∧ ThingK H v ∧ Tabs Ps H ∧ ∀ H', Kt Ps H H' → Q (.bl true) H'
theorem Kt.ks {Ps : List Addr} {H H' : Hp} (k : Kt Ps H H') (t : Tabs Ps H) : Ks H H' := ⟨fun _ _ h => k.tup t h, fun _ _ h => ⟨_, k.lst t h⟩, fun _ _ h => ⟨_, k.dct t h⟩⟩
/-- rows of great numbers, where no tie leads -/
def grt (n : Nat) (k : Nat) : List Int := (List.range (2 * n)).map fun s : Nat => if (s : Int) = 2 * (k : Int) then 0 else 10 ^ 59 + (s : Int)
theorem grt_at {n k i : Nat} (h : i < 2 * n) : gI (grt n k) (i : Int) = if (i : Int) = 2 * (k : Int) then 0 else 10 ^ 59 + (i : Int) := by
  unfold gI grt
  rw [Int.toNat_natCast, List.getD_eq_getElem?_getD, List.getElem?_map, List.getElem?_range h]
  rfl
theorem grt_row {n k : Nat} (h : k < n) : rowB n [] (10 ^ 40) (k : Int) (some ((grt n k).map V.int)) = true := by
  unfold rowB
  have e1 : isRowB n (some ((grt n k).map V.int)) = true := by
    show (decide (((grt n k).map V.int).length = 2 * n) && ((grt n k).map V.int).all (wfrom 0)) = true
    rw [List.length_map, all_ints, decide_eq_true (show (grt n k).length = 2 * n by unfold grt; simp)]
    · rfl
    · intro x hx
      obtain ⟨s, _, rfl⟩ := List.mem_map.mp hx
      show 0 ≤ (if (s : Int) = 2 * (k : Int) then (0 : Int) else 10 ^ 59 + (s : Int))
      split <;> omega
  rw [e1, Bool.true_and]
  show rowC [] (10 ^ 40) k (((grt n k).map V.int).map toI) = _
  rw [toI_map]
  unfold rowC
  have e2 := grt_at (n := n) (k := k) (i := 2 * k) (by omega)
  have e3 := grt_at (n := n) (k := k) (i := 2 * k + 1) (by omega)
  rw [show (2 : Int) * (k : Int) = ((2 * k : Nat) : Int) by omega, show ((2 * k : Nat) : Int) + 1 = ((2 * k + 1 : Nat) : Int) by omega, e2, e3]
  rw [if_pos (by omega), if_neg (by omega), decide_eq_true rfl, decide_eq_true (by omega)]
  rfl
theorem grt_lay {H : Hp} {p : Addr} {vs : List V} {n : Nat} (hp : H p = some (.tup vs)) (h : Paired (IntsV H) vs ((List.range n).map (grt n))) : layB H n [] (10 ^ 40) (.ref p) = true := by
  have lv : vs.length = n := by rw [Paired.length h, List.length_map, List.length_range]
  unfold layB
  rw [parts_of' hp]
  simp only
  rw [decide_eq_true lv, Bool.true_and, List.all_eq_true]
  intro s hs
  have hs := List.mem_range.mp hs
  obtain ⟨u, eu, b, rfl, hb⟩ := Paired.at' h (i := s) (b := grt n s) (by rw [List.getElem?_map, List.getElem?_range hs]; rfl)
  rw [List.getD_eq_getElem?_getD, eu, Option.getD_some, parts_of' hb]
  exact grt_row hs
section
variable {P : Program} {w : World} {K : PySem.W.Frag} {mg : Str → Option Value} {base : Heap}
theorem ok_l_right {f : Addr} {fd : FuncData} {Ps : List Addr} (F : Fun K "_law_right" "_law_right" s_l_right f fd) (M : Free mg) (D_layers_hold : Df P w K mg base 8 "layers_hold" ["web", "number", "thing"] (spLayersHold Ps)) (D_l_due : Df P w K mg base 2 "_law_due" ["_law_web_here", "_law_number", "_law_thing"] spDue15) : FnOk P w K mg base CX0 9 f fd ["_law_web_here", "_law_number", "_law_thing"] (spRight17 Ps) := by
  obtain ⟨f_layers_hold, fd_layers_hold, G_layers_hold, g_layers_hold, k_layers_hold, b_layers_hold⟩ := D_layers_hold
  obtain ⟨f_l_due, fd_l_due, G_l_due, g_l_due, k_l_due, b_l_due⟩ := D_l_due
  refine F.ok sc_l_right (fun vs H Q E h => ?_) (fun cdv A outer s H vs Q E hr h => ?_)
  · obtain ⟨wv, n, ts, num, v, rfl, _⟩ := h
    rfl
  · obtain ⟨wv, n, ts, num, v, rfl, hW, ok, hk, hT, q⟩ := h
    refine ⟨_, (pss_cons (ps_set (i := 3) sc_l_right.nd rfl (.inl rfl) (pe_call G_layers_hold (hr.mono (by decide)) (by rfl) g_layers_hold k_layers_hold b_layers_hold .nil pass0 (pa_cons (pv 0) (pa_cons (pv 1) (pa_cons (pv 2) pa_nil)))))
      (pss_one (ps_ret (pe_and (pe_callB call_isi (by rfl) M.isinstance (by decide +kernel) (pa_cons (pv 3) (pa_cons (pe_bltn (v := .ty "bool") (by rfl) M.bool (by decide +kernel) rfl) pa_nil))) (pe_one (pe_cmpR op_eq (pv 3) (pe_call G_l_due (hr.mono (by decide)) (by rfl) g_l_due k_l_due b_l_due .nil pass0 (pa_cons (pv 0) (pa_cons (pv 1) (pa_cons (pv 2) pa_nil)))) (nomark _))))))), ?_⟩
    refine ⟨wv, rfl, .int num, rfl, v, rfl, wv, n, ts, num, v, rfl, hW, ok, hk, hT, fun H1 k1 => ?_⟩
    generalize hdue : layB H n ts num v = due
    obtain ⟨t2, h2, e2⟩ := kn_bool (K := K) (H := H1) (v := .bl due) trivial
    refine ⟨.bl due, rfl, .bl due, _, t2, _, _, rfl, .ty "bool", h2, e2, _, rfl, ?_⟩
    refine ⟨.bl due, rfl, wv, rfl, .int num, rfl, v, rfl, wv, n, ts, num, v, rfl, hW.tk (k1.tk hT), ok, hk.kt k1 hT, fun H2 s2 => ⟨rfl, ?_⟩⟩
    rw [layB_kt k1 hT hk, hdue, decide_eq_true rfl]
    exact q _ (k1.trans (Kt.same k1.tab s2))
theorem ok_law {f : Addr} {fd : FuncData} {Ps : List Addr} (F : Fun K "law" "law" s_law f fd) (M : Free mg) (m_min : mg "min" = none) (D_l_well : Df P w K mg base 1 "_law_well" ["_law_script", "_law_k"] (spWell K)) (D_l_web : Df P w K mg base 3 "_law_web" ["_law_well_here"] spWeb) (D_l_layers : Df P w K mg base 3 "_law_layers" ["_law_well_here", "_law_web_here"] spLayers) (D_layers_hold : Df P w K mg base 8 "layers_hold" ["web", "number", "thing"] (spLayersHold Ps)) (D_l_things : Df P w K mg base 3 "_law_things" ["_law_well_here", "_law_web_here", "_law_layers_here"] spThings) (D_l_draw : Df P w K mg base 1 "_law_draw" ["_law_well_here", "_law_many"] spDraw) (D_l_right : Df P w K mg base 9 "_law_right" ["_law_web_here", "_law_number", "_law_thing"] (spRight17 Ps)) : FnOk P w K mg base CX0 10 f fd ["_law_script"] (spLaw K Ps) := by
  obtain ⟨f_l_well, fd_l_well, G_l_well, g_l_well, k_l_well, b_l_well⟩ := D_l_well
  obtain ⟨f_l_web, fd_l_web, G_l_web, g_l_web, k_l_web, b_l_web⟩ := D_l_web
  obtain ⟨f_l_layers, fd_l_layers, G_l_layers, g_l_layers, k_l_layers, b_l_layers⟩ := D_l_layers
  obtain ⟨f_layers_hold, fd_layers_hold, G_layers_hold, g_layers_hold, k_layers_hold, b_layers_hold⟩ := D_layers_hold
  obtain ⟨f_l_things, fd_l_things, G_l_things, g_l_things, k_l_things, b_l_things⟩ := D_l_things
  obtain ⟨f_l_draw, fd_l_draw, G_l_draw, g_l_draw, k_l_draw, b_l_draw⟩ := D_l_draw
  obtain ⟨f_l_right, fd_l_right, G_l_right, g_l_right, k_l_right, b_l_right⟩ := D_l_right
  refine F.ok sc_law (fun vs H Q E h => ?_) (fun cdv A outer s H vs Q E hr h => ?_)
  · obtain ⟨sc, ns, rfl, _⟩ := h
    rfl
  · obtain ⟨sc, ns, rfl, hS, few63, hT, q⟩ := h
    refine ⟨_, (pss_cons (ps_set (i := 1) sc_law.nd rfl (.inl rfl) (pe_call G_l_web (hr.mono (by decide)) (by rfl) g_l_web k_l_web b_l_web .nil pass0 (pa_cons (pe_call G_l_well (hr.mono (by decide)) (by rfl) g_l_well k_l_well b_l_well .nil pass0 (pa_cons (pv 0) (pa_cons pe_int pa_nil))) pa_nil)))
      (pss_cons (ps_set (i := 2) sc_law.nd rfl (.inl rfl) (pe_call G_l_well (hr.mono (by decide)) (by rfl) g_l_well k_l_well b_l_well .nil pass0 (pa_cons (pv 0) (pa_cons pe_int pa_nil))))
      (pss_cons (ps_set (i := 3) sc_law.nd rfl (.inr rfl) (pe_call G_l_layers (hr.mono (by decide)) (by rfl) g_l_layers k_l_layers b_l_layers .nil pass0 (pa_cons (pv 2) (pa_cons (pv 1) pa_nil))))
      (Evl.pss_cut (ps_set (i := 4) sc_law.nd rfl (.inl rfl) (pe_callB (cr_min rfl) (by rfl) m_min (by decide +kernel) (pa_cons (pe_lc (own := [("_law_place", 5)]) (g := (gName 5)) (tt := tYes) rfl sc_law.nd (pi_range1 (by rfl) M.range (pa_cons (pe_ix ix_tup (pv 1) pe_int (fun _ _ => rfl)) pa_nil)) (blkOk_by (N := N_law) (sc := defScope s_law) (own := [("_law_place", 5)]) (by decide +kernel)) (fun _ _ _ _ _ => (pg_name (i := 5) sc_law.nd rfl (.inl rfl))) (fun _ _ _ _ _ => pts_nil) (fun _ _ _ _ _ => (pe_ix (r := rIxT K) ix_tup (pe_ix (r := rIxT K) ix_tup (pv 3) (pv 5) (fun _ _ => rfl)) (pe_op op_add (pe_op op_mul pe_int (pv 5)) pe_int) (fun _ _ => rfl)))) pa_nil)))
      (pss_cons (ps_if (pt_cmpR op_isnot_bl (pe_call G_layers_hold (hr.mono (by decide)) (by rfl) g_layers_hold k_layers_hold b_layers_hold .nil pass0 (pa_cons (pv 1) (pa_cons (pv 4) (pa_cons (pv 3) pa_nil)))) pe_bl (nomark _))
        (pss_one (ps_ret pe_bl))
        pss_nil)
      (Evl.pss_cut (ps_for PassesOwn.never rfl (pi_list (pe_call G_l_things (hr.mono (by decide)) (by rfl) g_l_things k_l_things b_l_things .nil pass0 (pa_cons (pv 2) (pa_cons (pv 1) (pa_cons (pv 3) pa_nil))))) (pg_name (i := 6) sc_law.nd rfl (.inl rfl))
        (pss_one (ps_for PassesOwn.never rfl (pi_list (pe_lst (pa_cons pe_int (pa_cons pe_int (pa_cons (pe_call G_l_draw (hr.mono (by decide)) (by rfl) g_l_draw k_l_draw b_l_draw .nil pass0 (pa_cons (pv 2) (pa_cons pe_int pa_nil))) pa_nil))))) (pg_name (i := 7) sc_law.nd rfl (.inl rfl))
          (pss_one (ps_if (pt_not (pt_val (pe_call G_l_right (hr.mono (by decide)) (by rfl) g_l_right k_l_right b_l_right .nil pass0 (pa_cons (pv 1) (pa_cons (pv 7) (pa_cons (pv 6) pa_nil))))))
            (pss_one (ps_ret pe_bl))
            pss_nil)))))
      (pss_cons (ps_set (i := 8) sc_law.nd rfl (.inl rfl) (pe_op op_add pe_int (pe_call G_l_draw (hr.mono (by decide)) (by rfl) g_l_draw k_l_draw b_l_draw .nil pass0 (pa_cons (pv 2) (pa_cons pe_int pa_nil)))))
      (pss_cons (ps_set (i := 9) sc_law.nd rfl (.inl rfl) (pe_tup (pa_cons (pv 8) (pa_cons (pe_tup pa_nil) pa_nil))))
      (pss_cons (ps_set (i := 10) sc_law.nd rfl (.inl rfl) (pe_lst pa_nil))
      (Evl.pss_cut (ps_for PassesOwn.never rfl (pi_range1 (by rfl) M.range (pa_cons (pv 8) pa_nil)) (pg_name (i := 5) sc_law.nd rfl (.inr rfl))
        (pss_one (ps_expr (pe_bm PySem.F.plainAttrs_list PySem.F.slot_list_append PySem.F.type_list_append mt_append (pv 10) (pa_cons (pe_callTy call_tuple_of (by rfl) M.tuple (by decide +kernel) (pa_cons (pe_lc (own := [("_law_spot", 11)]) (g := (gName 11)) (tt := tYes) rfl sc_law.nd (pi_range1 (by rfl) M.range (pa_cons (pe_op op_mul pe_int (pv 8)) pa_nil)) (blkOk_by (N := N_law) (sc := defScope s_law) (own := [("_law_spot", 11)]) (by decide +kernel)) (fun _ _ _ _ _ => (pg_name (i := 11) sc_law.nd rfl (.inl rfl))) (fun _ _ _ _ _ => pts_nil) (fun _ _ _ _ _ => (pe_op op_mul (pe_callTy call_int1 (by rfl) M.int (by decide +kernel) (pa_cons (pe_cmpR op_ne (pv 11) (pe_op op_mul pe_int (pv 5)) (nomark _)) pa_nil)) (pe_op op_add (pe_op op_pow pe_int pe_int) (pv 11))))) pa_nil)) pa_nil)))))
      (pss_cons (ps_if (pt_cmpR op_isnot_bl (pe_call G_layers_hold (hr.mono (by decide)) (by rfl) g_layers_hold k_layers_hold b_layers_hold .nil pass0 (pa_cons (pv 9) (pa_cons (pe_op op_pow pe_int pe_int) (pa_cons (pe_callTy call_tuple_of (by rfl) M.tuple (by decide +kernel) (pa_cons (pv 10) pa_nil)) pa_nil)))) pe_bl (nomark _))
        (pss_one (ps_ret pe_bl))
        pss_nil)
      (pss_one (ps_ret (pe_cmpR op_isBl (pe_call G_layers_hold (hr.mono (by decide)) (by rfl) g_layers_hold k_layers_hold b_layers_hold .nil pass0 (pa_cons (pv 1) (pa_cons (pv 4) (pa_cons (pv 3) pa_nil)))) pe_bl (nomark _))))))))))))))), ?_⟩
    refine ⟨.ref sc, rfl, sc, ns, 0, rfl, hS, by decide, fun d0 H1 s1 nd0 W1 => ⟨d0, 3, rfl, W1, by decide, fun wv nI ts H2 hW ok W2 K2 => ?_⟩⟩
    obtain ⟨n, rfl⟩ : ∃ n : Nat, nI = n := ⟨nI.toNat, by have := ok.lo; omega⟩
    have n1 : 1 ≤ n := by have := ok.lo; omega
    have n40 : n ≤ 40 := by have := ok.hi; omega
    have hS2 : SqL K H2 sc (ns.map V.int) := sql_well (s1.seq hS) ((sql_ne hS nd0).imp id id) K2
    have hT2 : Tabs Ps H2 := (hT.same s1).kp K2 W1
    refine ⟨.ref sc, rfl, sc, ns, 1, rfl, hS2, by decide, fun d H3 s3 nd1 W3 => ?_⟩
    have hT3 := hT2.same s3
    refine ⟨.ref d, rfl, wv, rfl, d, 3, wv, n, ts, rfl, W3, by decide, hW.tk (Same.tk s3), ok, fun lv rs H4 hlay W4 K4 => ?_⟩
    have hW4 := (hW.tk (Same.tk s3)).tk (K4.tk W3)
    have hT4 := hT3.kp K4 W3
    clear hS2 hT2 hT3 hW W1 W2 K2 W3 K4 s1 s3
    obtain ⟨wa, wb, us, rfl, hwa, hwb, hp⟩ := id hW4
    have hlay' := hlay
    obtain ⟨la, vs, rfl, hla, hvs, lr, rg⟩ := hlay'
    have lv : vs.length = rs.length := Paired.length hvs
    let od : Nat → Int := fun s => gI (rs.getD s []) (2 * (s : Int) + 1)
    -- the least
    refine ⟨fun σ' H' => ∃ (m : Int), σ' = [some (.ref sc), some (.ref wa), some (.ref d), some (.ref la), some (.int m), none, none, none, none, none, none, none] ∧ (∀ s' : Nat, s' < n → m ≤ od s') ∧ Same H4 H', ?_, ?_⟩
    · refine ⟨.ref wa, rfl, wa, _, 0, .int n, rfl, rfl, SqT.of hwa, rfl, n, rfl, by omega, by omega, fun Z nZ => ?_⟩
      rw [Int.toNat_natCast]
      refine lc_range (lo := 0) (n := n) (fun j H' => H' Z = some (.lst (((List.range j).map od).map V.int)) ∧ Same H4 H') ⟨upd_same, same_new nZ⟩ ?_ ?_
      · rintro j H5 hj ⟨hZ, s5⟩
        rw [show (0 : Int) + (j : Nat) = j from by omega]
        have er := List.getElem?_eq_getElem (show j < rs.length by omega)
        obtain ⟨row, erow⟩ : ∃ row, row = rs[j] := ⟨_, rfl⟩
        rw [← erow] at er
        obtain ⟨u, eu, b, rfl, hb⟩ := Paired.at' hvs er
        have g := rg j row er
        have eo : od j = gI row (2 * (j : Int) + 1) := by
          show gI (rs.getD j []) _ = _
          rw [List.getD_eq_getElem?_getD, er]
          rfl
        have ln' : (row.length : Int) = 2 * (n : Int) := by have := g.len; omega
        refine ⟨rfl, .ref la, rfl, .int j, rfl, la, vs, j, .ref b, rfl, rfl, SqT.of (s5 _ _ hla), atI_nat eu, .int j, rfl, 2, j, rfl, rfl, .inl ⟨by decide, by decide⟩, _, 1, rfl, rfl, b, _, 2 * (j : Int) + 1, _, rfl, rfl, SqT.of (s5 _ _ hb), atI_gI (by omega) (by omega), ?_⟩
        refine ⟨_, hZ, by rw [List.length_map, List.length_map, List.length_range]; exact small1000 (by omega), ?_, Same.mut s5 nZ⟩
        rw [upd_same, List.range_succ, List.map_append, List.map_append, ← eo]
        rfl
      · rintro H5 ⟨hZ, s5⟩
        refine ⟨Z, _, rfl, SqL.of hZ, by rw [List.length_map, List.length_range]; omega, fun m hm hle => ?_⟩
        exact ⟨_, rfl, fun s' h' => hle _ (List.mem_map.mpr ⟨s', List.mem_range.mpr h', rfl⟩), s5⟩
    rintro σ' H5 ⟨m, rfl, hle, s5⟩
    have hlay5 := hlay.tk (Same.tk s5)
    have hW5 := hW4.tk (Same.tk s5)
    have hT5 := hT4.same s5
    have W5 := W4.same s5
    have odr : ∀ (s : Nat) row, rs[s]? = some row → od s = gI row (2 * (s : Int) + 1) := fun s row e => by
      show gI (rs.getD s []) _ = _
      rw [List.getD_eq_getElem?_getD, e]
      rfl
    have j1 : ∀ {H' : Hp}, LayAt H' (.ref la) n ts rs → layB H' n ts m (.ref la) = true := fun h => (h.judge m).mpr fun s row e => by
      rw [← odr s row e]
      exact hle s (by have := (List.getElem?_eq_some_iff.mp e).1; omega)
    clear hwa hwb hp hla hvs hlay hW4 hT4 s5 W4
    refine ⟨.ref wa, rfl, .int m, rfl, .ref la, rfl, .ref wa, n, ts, m, .ref la, rfl, hW5, ok, hlay5.thing, hT5, fun H6 k6 => ?_⟩
    rw [j1 hlay5]
    refine ⟨_, _, rfl, rfl, _, rfl, ?_⟩
    have hlay6 := hlay5.tk (k6.tk hT5)
    have hW6 := hW5.tk (k6.tk hT5)
    have hT6 : Tabs Ps H6 := k6.tab
    have W6 := k6.well hT5 W5
    clear hlay5 hW5 hT5 W5 k6
    -- the things
    refine ⟨fun σ' H' => ∃ (y6 y7 : Option V), σ' = [some (.ref sc), some (.ref wa), some (.ref d), some (.ref la), some (.int m), none, y6, y7, none, none, none, none] ∧ LayAt H' (.ref la) n ts rs ∧ WebAt H' (.ref wa) n ts ∧ Tabs Ps H' ∧ Well H' d 5000, ?_, ?_⟩
    · refine ⟨.ref d, rfl, .ref wa, rfl, .ref la, rfl, d, _, .ref wa, .ref la, n, ts, rs, rfl, W6, by decide, hW6, ok, hlay6, fun L xs H7 h7 l7 nLd t7 W7 K7 => ?_⟩
      have hlay7 := hlay6.tk (K7.tk W6)
      have hW7 := hW6.tk (K7.tk W6)
      have hT7 := hT6.kp K7 W6
      refine ⟨L, rfl, ⟨_, SqL.of h7⟩, ?_⟩
      refine for_list (xs := xs) (fun i σ' H' => ∃ (y6 y7 : Option V), σ' = [some (.ref sc), some (.ref wa), some (.ref d), some (.ref la), some (.int m), none, y6, y7, none, none, none, none] ∧ LayAt H' (.ref la) n ts rs ∧ WebAt H' (.ref wa) n ts ∧ Tabs Ps H' ∧ Well H' d (263 + i) ∧ H' L = some (.lst xs) ∧ ∀ x ∈ xs, ThingK H' x) ⟨none, none, rfl, hlay7, hW7, hT7, W7, h7, t7⟩ (fun i σ' H' _ h => by
        obtain ⟨_, _, _, _, _, _, _, h, _⟩ := h
        exact SqL.of h) ?_ (fun σ' H' h => by
        obtain ⟨y6, y7, e, h1, h2, h3, h4, _⟩ := h
        exact ⟨y6, y7, e, h1, h2, h3, h4.mono (by omega)⟩)
      clear hlay6 hW6 hT6 W6 hlay7 hW7 hT7 W7 K7 h7 t7
      rintro i x σ' H8 ex ⟨y6, y7, rfl, hlay8, hW8, hT8, W8, h8, t8⟩
      have il : i < xs.length := (List.getElem?_eq_some_iff.mp ex).1
      have mx : x ∈ xs := List.mem_of_getElem? ex
      refine ⟨.ref d, rfl, d, _, 60, rfl, W8, by omega, by decide, by decide, fun z H9 a9 b9 W9 K9 => ⟨by show 3 ≤ sizeLine; decide, fun p np => ?_⟩⟩
      have k9 := (K9.ks W8 W9).trans (Same.ks (same_new (o := .lst [.int 0, .int 1, .int z]) np))
      have ep := same_new (o := .lst [.int 0, .int 1, .int z]) np
      refine ⟨p, rfl, ⟨_, SqL.of upd_same⟩, ?_⟩
      refine for_list (xs := [.int 0, .int 1, .int z]) (fun j σ' H' => ∃ (y7 : Option V), σ' = [some (.ref sc), some (.ref wa), some (.ref d), some (.ref la), some (.int m), none, some x, y7, none, none, none, none] ∧ LayAt H' (.ref la) n ts rs ∧ WebAt H' (.ref wa) n ts ∧ Tabs Ps H' ∧ Well H' d (263 + (i + 1)) ∧ H' L = some (.lst xs) ∧ (∀ x ∈ xs, ThingK H' x) ∧ H' p = some (.lst [.int 0, .int 1, .int z])) ⟨y7, rfl, hlay8.tk (fun _ _ e => k9.tup _ _ e), hW8.tk (fun _ _ e => k9.tup _ _ e), (hT8.kp K9 W8).same ep, (W9.same ep).mono (by omega), ep _ _ (K9 _ _ nLd nLd h8), fun x hx => (t8 x hx).ks k9, upd_same⟩ (fun i σ' H' _ h => by
        obtain ⟨_, _, _, _, _, _, _, _, h⟩ := h
        exact SqL.of h) ?_ (fun σ' H' h => by
        obtain ⟨y7, e, h1, h2, h3, h4, h5, h6, _⟩ := h
        exact ⟨_, y7, e, h1, h2, h3, h4, h5, h6⟩)
      clear hlay8 hW8 hT8 W8 h8 t8 k9 ep np K9 W9
      rintro j y σ' H10 ey ⟨y7, rfl, hlay10, hW10, hT10, W10, h10, t10, hp10⟩
      obtain ⟨num, rfl⟩ : ∃ num : Int, y = .int num := by
        have hy := List.mem_of_getElem? ey
        simp only [List.mem_cons, List.not_mem_nil, or_false] at hy
        rcases hy with h | h | h <;> exact ⟨_, h⟩
      refine ⟨.ref wa, rfl, .int num, rfl, x, rfl, .ref wa, n, ts, num, x, rfl, hW10, ok, t10 x mx, hT10, fun H11 k11 => ⟨true, rfl, ?_⟩⟩
      exact ⟨_, rfl, hlay10.tk (k11.tk hT10), hW10.tk (k11.tk hT10), k11.tab, k11.well hT10 W10, k11.lst hT10 h10, fun x hx => (t10 x hx).ks (k11.ks hT10), k11.lst hT10 hp10⟩
    clear hlay6 hW6 hT6 W6
    rintro σ' H7 ⟨y6, y7, rfl, hlay7, hW7, hT7, W7⟩
    -- great numbers
    refine ⟨.ref d, rfl, d, _, 40, rfl, W7, by decide, by decide, by decide, fun c H8 a8 b8 W8 K8 => ?_⟩
    obtain ⟨g, rfl⟩ : ∃ g : Nat, c = g := ⟨c.toNat, by omega⟩
    have g40 : g < 40 := by omega
    obtain ⟨G, eG⟩ : ∃ G : Nat, G = g + 1 := ⟨_, rfl⟩
    have tk8 := K8.tk W7
    refine ⟨1, g, rfl, rfl, ?_⟩
    show (tSeq _ _ : L2.TS) _ [some (.ref sc), some (.ref wa), some (.ref d), some (.ref la), some (.int m), none, y6, y7, some (.int (1 + (g : Int))), none, none, none] H8
    rw [show (1 : Int) + (g : Int) = (G : Nat) by omega]
    refine ⟨_, rfl, by show 0 ≤ sizeLine; decide, fun p1 np1 => ⟨by show 2 ≤ sizeLine; decide, fun p2 np2 => ⟨by show 0 ≤ sizeLine; decide, fun p3 np3 => ?_⟩⟩⟩
    have e1 := same_new (o := .tup []) np1
    have e2 := same_new (o := .tup [.int G, .ref p1]) np2
    have e3 := same_new (o := .lst []) np3
    have tk3 := (tk8.trans (Same.tk e1)).trans ((Same.tk e2).trans (Same.tk e3))
    have okB : WebOk (G : Nat) [] := ⟨by omega, by omega, by decide, fun t ht => by cases ht⟩
    have hB : WebAt _ (.ref p2) (G : Nat) [] := ⟨p2, p1, [], rfl, e3 _ _ upd_same, e3 _ _ (e2 _ _ upd_same), .nil⟩
    have hlay8 := hlay7.tk tk3
    have hW8 := hW7.tk tk3
    have hT8 := (((hT7.kp K8 W7).same e1).same e2).same e3
    have hp3 := upd_same (H := upd (upd H8 p1 (.tup [])) p2 (.tup [.int G, .ref p1])) (a := p3) (o := .lst [])
    revert hB hlay8 hW8 hT8 hp3
    generalize upd (upd (upd H8 p1 (.tup [])) p2 (.tup [.int G, .ref p1])) p3 (.lst []) = H9
    intro hB hlay8 hW8 hT8 hp3
    clear hlay7 hW7 hT7 W7 W8 K8 tk8 tk3 e1 e2 e3 np1 np2 np3
    refine ⟨fun σ' H' => ∃ (y5 : Option V) (xs : List V), σ' = [some (.ref sc), some (.ref wa), some (.ref d), some (.ref la), some (.int m), y5, y6, y7, some (.int (G : Nat)), some (.ref p2), some (.ref p3), none] ∧ WebAt H' (.ref p2) (G : Nat) [] ∧ LayAt H' (.ref la) n ts rs ∧ WebAt H' (.ref wa) n ts ∧ Tabs Ps H' ∧ H' p3 = some (.lst xs) ∧ Paired (IntsV H') xs ((List.range G).map (grt G)), ?_, ?_⟩
    · refine ⟨.int (G : Nat), rfl, _, rfl, by omega, by omega, ?_⟩
      rw [Int.toNat_natCast]
      refine for_range (lo := 0) (n := G) (fun i σ' H' => ∃ (y5 : Option V) (xs : List V), σ' = [some (.ref sc), some (.ref wa), some (.ref d), some (.ref la), some (.int m), y5, y6, y7, some (.int (G : Nat)), some (.ref p2), some (.ref p3), none] ∧ WebAt H' (.ref p2) (G : Nat) [] ∧ LayAt H' (.ref la) n ts rs ∧ WebAt H' (.ref wa) n ts ∧ Tabs Ps H' ∧ H' p3 = some (.lst xs) ∧ Paired (IntsV H') xs ((List.range i).map (grt G))) ⟨none, [], rfl, hB, hlay8, hW8, hT8, hp3, .nil⟩ ?_ (fun σ' H' h => h)
      clear hB hlay8 hW8 hT8 hp3
      rintro i σ' H10 hi ⟨y5, xs, rfl, hB, hlay, hW, hT, h3, pr⟩
      rw [show (0 : Int) + (i : Nat) = i from by omega]
      have lx : xs.length = i := by rw [Paired.length pr, List.length_map, List.length_range]
      refine ⟨.ref p3, rfl, tyL h3, ?_⟩
      refine ⟨.int (G : Nat), rfl, 2, _, rfl, rfl, .inl ⟨by decide, by decide⟩, _, rfl, by omega, by omega, fun D nD => ?_⟩
      rw [show ((2 : Int) * ((G : Nat) : Int)).toNat = 2 * G by omega]
      refine lc_range (lo := 0) (n := 2 * G) (fun j H' => H' D = some (.lst (((grt G i).take j).map V.int)) ∧ Same H10 H') ⟨upd_same, same_new nD⟩ ?_ ?_
      · rintro j H11 hj ⟨hD, s11⟩
        rw [show (0 : Int) + (j : Nat) = j from by omega]
        refine ⟨rfl, .int j, rfl, .int i, rfl, 2, i, rfl, rfl, .inl ⟨by decide, by decide⟩, ?_⟩
        refine ⟨rfl, .inr ⟨_, rfl, ?_⟩⟩
        refine ⟨10, 59, rfl, rfl, ⟨by decide, by decide, by decide⟩, .int j, rfl, _, _, rfl, rfl, ?_⟩
        have ev : ∀ (z : Int), ((if (!decide (V.int (j : Int) = V.int (2 * (i : Int)))) = true then (1 : Int) else 0) * z) = if (j : Int) = 2 * (i : Int) then 0 else z := fun z => by
          by_cases h : (j : Int) = 2 * (i : Int)
          · rw [if_pos h, decide_eq_true (show V.int (j : Int) = V.int (2 * (i : Int)) by rw [h])]
            exact Int.zero_mul z
          · rw [if_neg h, decide_eq_false (fun e => h (by cases e; rfl))]
            exact Int.one_mul z
        refine ⟨_, _, rfl, rfl, .inl (by split <;> exact ⟨by decide, by decide⟩), ?_⟩
        have lg : ((grt G i).take j).length = j := by
          rw [List.length_take]
          unfold grt
          rw [List.length_map, List.length_range]
          omega
        refine ⟨_, hD, by rw [List.length_map, lg]; exact small1000 (by omega), ?_, Same.mut s11 nD⟩
        rw [upd_same, map_take_snoc (f := V.int) (x := (if (j : Int) = 2 * (i : Int) then 0 else 10 ^ 59 + (j : Int))) (by
          unfold grt
          rw [List.getElem?_map, List.getElem?_range hj]
          rfl), ← ev]
        rfl
      · rintro H11 ⟨hD, s11⟩
        rw [show (grt G i).take (2 * G) = grt G i from List.take_of_length_le (by unfold grt; simp)] at hD
        refine ⟨D, _, rfl, .inl ⟨SqL.of hD, fun l nl => ?_⟩⟩
        have e12 := same_new (o := .tup ((grt G i).map V.int)) nl
        have h12 := e12 _ _ (s11 _ _ h3)
        have s12 := s11.trans e12
        have tk13 : Tk H10 (upd (upd H11 l (.tup ((grt G i).map V.int))) p3 (.lst (xs ++ [.ref l]))) := (Same.tk s12).trans (fun a ys h => (Ks.mut h12).tup a ys h)
        refine ⟨p3, xs, .ref l, rfl, rfl, h12, small1000 (by omega), ⟨_, xs ++ [.ref l], rfl, hB.tk tk13, hlay.tk tk13, hW.tk tk13, ?_, upd_same, ?_⟩⟩
        · exact fun P hP => by
            obtain ⟨ps, e, x⟩ := hT P hP
            refine ⟨ps, ?_, x⟩
            rw [upd_ne (fun z => by rw [z, h3] at e; cases e)]
            exact s12 _ _ e
        · rw [List.range_succ, List.map_append]
          refine Paired.snoc (Paired.mono (fun _ _ x => x.tk tk13) pr) ⟨l, rfl, ?_⟩
          rw [upd_ne (fun z => by rw [z, s11 _ _ h3] at nl; cases nl)]
          exact upd_same
    · rintro σ' H10 ⟨y5, xs, rfl, hB, hlay, hW, hT, h3, pr⟩
      refine ⟨.ref p2, rfl, 10, 40, rfl, rfl, ⟨by decide, by decide, by decide⟩, .ref p3, rfl, p3, xs, rfl, .inl ⟨SqL.of h3, fun l nl => ?_⟩⟩
      have e11 := same_new (o := .tup xs) nl
      have pr11 := Paired.mono (fun _ _ x => x.tk (Same.tk e11)) pr
      have th : ThingK (upd H10 l (.tup xs)) (.ref l) := thing_tup upd_same fun x hx => by
        obtain ⟨i, hi⟩ := List.getElem?_of_mem hx
        obtain ⟨row, _, b, rfl, hb⟩ := Paired.at pr11 hi
        exact thing_ints hb
      refine ⟨.ref p2, G, [], _, .ref l, rfl, hB.tk (Same.tk e11), okB, th, hT.same e11, fun H11 k11 => ?_⟩
      have el := grt_lay (H := upd H10 l (.tup xs)) (p := l) upd_same pr11
      rw [show ((10 : Int) ^ (40 : Int).toNat) = 10 ^ 40 from rfl, el]
      refine ⟨_, _, rfl, rfl, _, rfl, ?_⟩
      have hT11 := hT.same e11
      have tk11 := (Same.tk e11).trans (k11.tk hT11)
      have hlay11 := hlay.tk tk11
      refine ⟨.ref wa, rfl, .int m, rfl, .ref la, rfl, .ref wa, n, ts, m, .ref la, rfl, hW.tk tk11, ok, hlay11.thing, k11.tab, fun H12 k12 => ?_⟩
      rw [j1 hlay11]
      exact ⟨_, _, rfl, rfl, q _⟩
end
/-! ### the end of a law whose defs hold generator expressions: their tables are empty behind the top -/
theorem walk_tabs {l : PySem.W.OpenLaw} {n k : Nat} {q : Program} {loose : List Str} {XP : (Str → Option Value) → Heap → Prop} {YP : World → Heap → Prop} {d : DefRec} {K : Params → PySem.W.Frag} {x : Str}
    (hn : l.most = some n) (hn2 : n ≤ sizeLine) (hdf : d.params.defaults = []) (hr : Room k callerA) (hY : ∀ (w : World) (h : Heap), YP w h → (K w.params).In h)
    (F : ∀ (w : World) (mg : Str → Option Value) (fa : Addr) (h : Heap), (K w.params).In h → h.Ns mainGlobals mg → mg d.name = some (.ref fa) →
      (∀ (y : Str) (fy : Addr), ((recsOf q).any fun e => e.name == y) = true → mg y = some (.ref fy) → LamX.OwnTab (K w.params) fy h) → LamX.LawAtS l w (K w.params) CX0 k n x mg fa h) :
    PySem.W.WalkO q loose XP YP l.row.toRowW d [] (fun f vs => PySem.call f vs) := by
  refine Att.attach_callB hn hdf fun w s₀ s₁ mg mb fa o pm cd doc a vs ns G Y ho hd hcd hmg hobj hints hlen hbits hg => ?_
  have KX := hY w _ Y
  have tabs : ∀ (y : Str) (fy : Addr), ((recsOf q).any fun e => e.name == y) = true → mg y = some (.ref fy) → LamX.OwnTab (K w.params) fy s₁.heap := fun y fy hy hm c P o1 fd1 e dd vs1 sl k1 k2 k3 k4 k5 => by
    obtain ⟨dL, hmem, hnm⟩ := List.any_eq_true.mp hy
    have hnm : dL.name = y := beq_iff_eq.mp hnm
    obtain ⟨a', o', fd', c', P', h1, h2, h3, h4, h5, h6⟩ := G.T.tab dL hmem
    rw [hnm, hm] at h1
    cases h1
    rw [KX _ _ k1] at h2
    cases h2
    rw [k2] at h3
    cases h3
    rw [k3] at h4
    cases h4
    obtain ⟨⟨oc, vc, e1, _, e3, e4⟩, hP⟩ := h6
    rw [KX _ _ k4] at e1
    cases e1
    cases e3
    rw [k5] at e4
    cases e4
    exact hP
  obtain ⟨fd, cs, sp, hT, nT, C, hb, hsp, hF⟩ := F w mg fa _ KX G.T.g hmg tabs
  exact LamX.law_callTs KX G.T.g G.T.b G.T.builtins G.T.nolimit hg hT nT C G.T.bmain hobj hints (Nat.le_trans hlen hn2) hr hF hb (fun H hH hS => hsp H a ns hlen hbits hH hS) fun H e s' z => z
/-- where a def stands, and where its code object does -/
structure At (K : PySem.W.Frag) (x : Str) (st : Stmt) (f : Addr) : Prop where
  ns : PySem.W.nsIn K mainGlobals x = some (some (.ref f))
  ex : ∃ (oc : Value) (od : Option Addr) (kV doc pm : Value) (an : Option Addr) (cdv ct : Value) (osl : Array (Option Value)),
    K.lookup f = some ⟨oc, od, .func (PySem.W.fnOf x x (defArgs st) (defBody st) (defScope st) .none kV doc pm an cdv ct), osl⟩ ∧ PySem.W.codeIn K cdv x = true
  kp : PySem.W.keepIn K (.ref f) = true
theorem at_mk {K : PySem.W.Frag} {x : Str} {st : Stmt} {f : Addr} {oc : Value} {od an : Option Addr} {osl : Array (Option Value)} {kV doc pm cdv ct : Value} (a : PySem.W.nsIn K mainGlobals x = some (some (.ref f)))
    (l : K.lookup f = some ⟨oc, od, .func (PySem.W.fnOf x x (defArgs st) (defBody st) (defScope st) .none kV doc pm an cdv ct), osl⟩) (c : PySem.W.codeIn K cdv x = true) (k : PySem.W.keepIn K (.ref f) = true) : At K x st f := ⟨a, ⟨oc, od, kV, doc, pm, an, cdv, ct, osl, l, c⟩, k⟩
theorem At.fn {K : PySem.W.Frag} {x : Str} {st : Stmt} {f : Addr} (h : At K x st f) : ∃ fd, Fun K x x st f fd := by
  obtain ⟨oc, od, kV, doc, pm, an, cdv, ct, osl, l, c⟩ := h.ex
  exact ⟨_, fun_mk l c h.kp⟩
structure AtC (K : PySem.W.Frag) (x : Str) (st : Stmt) (f c Pt : Addr) : Prop where
  ns : PySem.W.nsIn K mainGlobals x = some (some (.ref f))
  ex : ∃ (oc : Value) (od : Option Addr) (kV doc pm : Value) (an : Option Addr) (ct : Value) (osl : Array (Option Value)),
    K.lookup f = some ⟨oc, od, .func (PySem.W.fnOf x x (defArgs st) (defBody st) (defScope st) .none kV doc pm an (.ref c) ct), osl⟩ ∧ PySem.W.codeIn K (.ref c) x = true
  kp : PySem.W.keepIn K (.ref f) = true
  co : ∃ (dd : Option Addr) (vs : Array Value) (sl : Array (Option Value)) (file : Str) (tf : Tok) (flags : Int) (tg : Tok) (inF : Bool) (text : Int) (tt : Tok), K.lookup c = some ⟨.type "code", dd, .fields vs, sl⟩ ∧ vs[11]? = some (.ref Pt) ∧ vs.getD 11 .none = .ref Pt ∧ vs.getD 18 .none = .str file tf ∧
    vs.getD 7 .none = .int flags tg ∧ vs.getD 9 .none = .bool inF ∧ vs.getD 10 .none = .int text tt ∧ c ≠ Pt
  nP : K.lookup Pt = none
theorem atC_mk {K : PySem.W.Frag} {x : Str} {st : Stmt} {f c Pt : Addr} {oc : Value} {od an dd : Option Addr} {osl sl : Array (Option Value)} {kV doc pm ct : Value} {vs : Array Value} {file : Str} {tf tg tt : Tok} {flags text : Int} {inF : Bool} (a : PySem.W.nsIn K mainGlobals x = some (some (.ref f)))
    (l : K.lookup f = some ⟨oc, od, .func (PySem.W.fnOf x x (defArgs st) (defBody st) (defScope st) .none kV doc pm an (.ref c) ct), osl⟩) (cc : PySem.W.codeIn K (.ref c) x = true) (k : PySem.W.keepIn K (.ref f) = true)
    (lc : K.lookup c = some ⟨.type "code", dd, .fields vs, sl⟩) (v11 : vs[11]? = some (.ref Pt)) (w11 : vs.getD 11 .none = .ref Pt) (v18 : vs.getD 18 .none = .str file tf) (v7 : vs.getD 7 .none = .int flags tg) (v9 : vs.getD 9 .none = .bool inF) (v10 : vs.getD 10 .none = .int text tt) (ne : c ≠ Pt)
    (nP : K.lookup Pt = none) : AtC K x st f c Pt := ⟨a, ⟨oc, od, kV, doc, pm, an, ct, osl, l, cc⟩, k, ⟨dd, vs, sl, file, tf, flags, tg, inF, text, tt, lc, v11, w11, v18, v7, v9, v10, ne⟩, nP⟩
theorem AtC.fn {K : PySem.W.Frag} {x : Str} {st : Stmt} {f c Pt : Addr} (h : AtC K x st f c Pt) : ∃ fd, FunC K x x st f fd c := by
  obtain ⟨oc, od, kV, doc, pm, an, ct, osl, l, cc⟩ := h.ex
  exact ⟨_, ⟨oc, od, kV, doc, pm, an, ct, osl, rfl, l, cc⟩, h.kp⟩
theorem AtC.hd {K : PySem.W.Frag} {h : Heap} {x : Str} {st : Stmt} {f c Pt : Addr} (a : AtC K x st f c Pt) (X : K.In h) : PySem.W.CodeHd h c Pt := by
  obtain ⟨dd, vs, sl, file, tf, flags, tg, inF, text, tt, lc, v11, w11, v18, v7, v9, v10, ne⟩ := a.co
  exact ⟨_, vs, file, tf, flags, tg, inF, text, tt, X _ _ lc, rfl, rfl, v11, w11, v18, v7, v9, v10, ne⟩
theorem AtC.tab {K : PySem.W.Frag} {h : Heap} {x : Str} {st : Stmt} {f c Pt : Addr} (a : AtC K x st f c Pt) (o : LamX.OwnTab K f h) : h.get? Pt = some { cls := .none, data := .fields #[] } := by
  obtain ⟨oc, od, kV, doc, pm, an, ct, osl, l, cc⟩ := a.ex
  obtain ⟨dd, vs, sl, file, tf, flags, tg, inF, text, tt, lc, v11, w11, v18, v7, v9, v10, ne⟩ := a.co
  exact o c Pt _ _ _ _ _ _ l rfl rfl lc v11
section
variable {P : Program} {w : World} {K : PySem.W.Frag} {mg : Str → Option Value} {base : Heap}
theorem Df.of {x : Str} {st : Stmt} {f : Addr} {fd : FuncData} {k : Nat} {ps : List Str} {sp : Sp} (g : mg x = some (.ref f)) (F : Fun K x x st f fd) (G : FnOk P w K mg base CX0 k f fd ps sp)
    (h : ∀ (kV doc pm : Value) (an : Option Addr) (cdv ct : Value) (us : List Value), us.length = ps.length → bindArgs (PySem.W.fnOf x x (defArgs st) (defBody st) (defScope st) .none kV doc pm an cdv ct) ⟨us, []⟩ = pure (ps.zip us)) : Df P w K mg base k x ps sp :=
  ⟨f, fd, G, g, F.kp, F.binds h⟩
end
/-! ### what the top has written -/
section
variable {P : Program} {w : World} {K : PySem.W.Frag} {mg : Str → Option Value} {base : Heap}
theorem law_at {l : PySem.W.OpenLaw} {w : World} {K : PySem.W.Frag} {h : Heap} {mg : Str → Option Value} {fa f0 f1 f2 f3 f4 f5 f6 f7 f8 f9 f10 f11 f12 f13 f14 f15 f16 f17 f18 f19 f20 f21 f22 c3 P3 c6 P6 c7 P7 : Addr} (X : K.In h) (G : h.Ns mainGlobals mg) (hfa : mg "law" = some (.ref fa))
    (t3 : ∀ (fy : Addr), mg "is_row" = some (.ref fy) → LamX.OwnTab K fy h)
    (t6 : ∀ (fy : Addr), mg "row_holds" = some (.ref fy) → LamX.OwnTab K fy h)
    (t7 : ∀ (fy : Addr), mg "layers_hold" = some (.ref fy) → LamX.OwnTab K fy h)
    (a0 : At K "is_whole" s_is_whole f0)
    (a1 : At K "is_whole_from" s_is_whole_from f1)
    (a2 : At K "is_tuple_of" s_is_tuple_of f2)
    (a3 : AtC K "is_row" s_is_row f3 c3 P3)
    (a4 : At K "are_near" s_are_near f4)
    (a5 : At K "near_along" s_near_along f5)
    (a6 : AtC K "row_holds" s_row_holds f6 c6 P6)
    (a7 : AtC K "layers_hold" s_layers_hold f7 c7 P7)
    (a8 : At K "_law_well" s_l_well f8)
    (a9 : At K "_law_draw" s_l_draw f9)
    (a10 : At K "_law_kind" s_l_kind f10)
    (a11 : At K "_law_ends" s_l_ends f11)
    (a12 : At K "_law_web" s_l_web f12)
    (a13 : At K "_law_far" s_l_far f13)
    (a14 : At K "_law_row" s_l_row f14)
    (a15 : At K "_law_layers" s_l_layers f15)
    (a16 : At K "_law_is_row" s_l_is_row f16)
    (a17 : At K "_law_near" s_l_near f17)
    (a18 : At K "_law_due" s_l_due f18)
    (a19 : At K "_law_within" s_l_within f19)
    (a20 : At K "_law_things" s_l_things f20)
    (a21 : At K "_law_right" s_l_right f21)
    (a22 : At K "law" s_law f22)
    (z0 : PySem.W.nsIn K mainGlobals "len" = some none)
    (z1 : PySem.W.nsIn K mainGlobals "int" = some none)
    (z2 : PySem.W.nsIn K mainGlobals "bool" = some none)
    (z3 : PySem.W.nsIn K mainGlobals "str" = some none)
    (z4 : PySem.W.nsIn K mainGlobals "list" = some none)
    (z5 : PySem.W.nsIn K mainGlobals "tuple" = some none)
    (z6 : PySem.W.nsIn K mainGlobals "range" = some none)
    (z7 : PySem.W.nsIn K mainGlobals "isinstance" = some none)
    (z8 : PySem.W.nsIn K mainGlobals "sum" = some none)
    (z9 : PySem.W.nsIn K mainGlobals "abs" = some none)
    (z10 : PySem.W.nsIn K mainGlobals "all" = some none)
    (z11 : PySem.W.nsIn K mainGlobals "enumerate" = some none)
    (z12 : PySem.W.nsIn K mainGlobals "min" = some none)
    (z13 : PySem.W.nsIn K mainGlobals "dict" = some none)
     :
    LamX.LawAtS l w K CX0 10 63 "_law_script" mg fa h := by
  have efa := hfa.symm.trans (PySem.W.mg_of X G a22.ns)
  cases efa
  have M : Free mg := ⟨PySem.W.mg_none_of X G z0, PySem.W.mg_none_of X G z1, PySem.W.mg_none_of X G z2, PySem.W.mg_none_of X G z3, PySem.W.mg_none_of X G z4, PySem.W.mg_none_of X G z5, PySem.W.mg_none_of X G z6, PySem.W.mg_none_of X G z7, PySem.W.mg_none_of X G z8⟩
  have m_abs := PySem.W.mg_none_of X G z9
  have m_all := PySem.W.mg_none_of X G z10
  have m_enumerate := PySem.W.mg_none_of X G z11
  have m_min := PySem.W.mg_none_of X G z12
  have m_dict := PySem.W.mg_none_of X G z13
  obtain ⟨d0, F0⟩ := a0.fn
  obtain ⟨d1, F1⟩ := a1.fn
  obtain ⟨d2, F2⟩ := a2.fn
  obtain ⟨d3, F3⟩ := a3.fn
  obtain ⟨d4, F4⟩ := a4.fn
  obtain ⟨d5, F5⟩ := a5.fn
  obtain ⟨d6, F6⟩ := a6.fn
  obtain ⟨d7, F7⟩ := a7.fn
  obtain ⟨d8, F8⟩ := a8.fn
  obtain ⟨d9, F9⟩ := a9.fn
  obtain ⟨d10, F10⟩ := a10.fn
  obtain ⟨d11, F11⟩ := a11.fn
  obtain ⟨d12, F12⟩ := a12.fn
  obtain ⟨d13, F13⟩ := a13.fn
  obtain ⟨d14, F14⟩ := a14.fn
  obtain ⟨d15, F15⟩ := a15.fn
  obtain ⟨d16, F16⟩ := a16.fn
  obtain ⟨d17, F17⟩ := a17.fn
  obtain ⟨d18, F18⟩ := a18.fn
  obtain ⟨d19, F19⟩ := a19.fn
  obtain ⟨d20, F20⟩ := a20.fn
  obtain ⟨d21, F21⟩ := a21.fn
  obtain ⟨d22, F22⟩ := a22.fn
  have g0 := PySem.W.mg_of X G a0.ns
  have g1 := PySem.W.mg_of X G a1.ns
  have g2 := PySem.W.mg_of X G a2.ns
  have g3 := PySem.W.mg_of X G a3.ns
  have g4 := PySem.W.mg_of X G a4.ns
  have g5 := PySem.W.mg_of X G a5.ns
  have g6 := PySem.W.mg_of X G a6.ns
  have g7 := PySem.W.mg_of X G a7.ns
  have g8 := PySem.W.mg_of X G a8.ns
  have g9 := PySem.W.mg_of X G a9.ns
  have g10 := PySem.W.mg_of X G a10.ns
  have g11 := PySem.W.mg_of X G a11.ns
  have g12 := PySem.W.mg_of X G a12.ns
  have g13 := PySem.W.mg_of X G a13.ns
  have g14 := PySem.W.mg_of X G a14.ns
  have g15 := PySem.W.mg_of X G a15.ns
  have g16 := PySem.W.mg_of X G a16.ns
  have g17 := PySem.W.mg_of X G a17.ns
  have g18 := PySem.W.mg_of X G a18.ns
  have g19 := PySem.W.mg_of X G a19.ns
  have g20 := PySem.W.mg_of X G a20.ns
  have g21 := PySem.W.mg_of X G a21.ns
  have hb0 : ∀ (s : Shared) (u : Value), BindsTo s d22 ⟨[u], []⟩ [("_law_script", u)] := by
    obtain ⟨oc, od, kV, doc, pm, an, cdv, ct, osl, rfl, _⟩ := F22.ex
    exact fun s u => .of_eq rfl
  refine ⟨d22, [(c3, P3), (c6, P6), (c7, P7)], (spLaw K [P3, P6, P7]), (List.forall_mem_cons.mpr ⟨a3.tab (t3 _ g3), (List.forall_mem_cons.mpr ⟨a6.tab (t6 _ g6), (List.forall_mem_cons.mpr ⟨a7.tab (t7 _ g7), (fun p hp => by simp at hp)⟩)⟩)⟩), (List.forall_mem_cons.mpr ⟨a3.nP, (List.forall_mem_cons.mpr ⟨a6.nP, (List.forall_mem_cons.mpr ⟨a7.nP, (fun p hp => by simp at hp)⟩)⟩)⟩), (List.forall_mem_cons.mpr ⟨a3.hd X, (List.forall_mem_cons.mpr ⟨a6.hd X, (List.forall_mem_cons.mpr ⟨a7.hd X, (fun p hp => by simp at hp)⟩)⟩)⟩), hb0, fun H a ns hl _ hT hS => ⟨a, ns, rfl, hS, hl, (List.forall_mem_cons.mpr ⟨⟨#[], hT (c3, P3) (by simp), by trivial⟩, (List.forall_mem_cons.mpr ⟨⟨#[], hT (c6, P6) (by simp), by trivial⟩, (List.forall_mem_cons.mpr ⟨⟨#[], hT (c7, P7) (by simp), by trivial⟩, (fun p hp => by simp at hp)⟩)⟩)⟩), fun _ => rfl⟩, fun base KB GB TB => ?_⟩
  have tb3 := TB (c3, P3) (by simp)
  have tb6 := TB (c6, P6) (by simp)
  have tb7 := TB (c7, P7) (by simp)
  have D0 : Df l.prog w K mg base 1 "is_whole" ["thing"] spWhole := .of g0 F0 (ok_is_whole F0 M) fun _ _ _ _ _ _ us hl => match us, hl with | [_], _ => rfl
  have D1 : Df l.prog w K mg base 2 "is_whole_from" ["low", "thing"] spFrom := .of g1 F1 (ok_is_whole_from F1 D0) fun _ _ _ _ _ _ us hl => match us, hl with | [_, _], _ => rfl
  have D2 : Df l.prog w K mg base 1 "is_tuple_of" ["length", "thing"] spTupleOf := .of g2 F2 (ok_is_tuple_of F2 M) fun _ _ _ _ _ _ us hl => match us, hl with | [_, _], _ => rfl
  have D3 : Df l.prog w K mg base 4 "is_row" ["many", "thing"] (spIsRow [P3, P6, P7]) := .of g3 F3.fn (ok_is_row F3 ⟨tb3.code, tb3.bm, tb3.gP⟩ (show P3 ∈ [P3, P6, P7] by simp) m_all D1 D2) fun _ _ _ _ _ _ us hl => match us, hl with | [_, _], _ => rfl
  have D4 : Df l.prog w K mg base 1 "are_near" ["one", "other"] spNear := .of g4 F4 (ok_are_near F4 m_abs) fun _ _ _ _ _ _ us hl => match us, hl with | [_, _], _ => rfl
  have D5 : Df l.prog w K mg base 2 "near_along" ["row", "tie"] spAlong := .of g5 F5 (ok_near_along F5 D4) fun _ _ _ _ _ _ us hl => match us, hl with | [_, _], _ => rfl
  have D6 : Df l.prog w K mg base 6 "row_holds" ["web", "number", "start", "thing"] (spRowHolds [P3, P6, P7]) := .of g6 F6.fn (ok_row_holds F6 ⟨tb6.code, tb6.bm, tb6.gP⟩ (show P6 ∈ [P3, P6, P7] by simp) m_all D3 D5) fun _ _ _ _ _ _ us hl => match us, hl with | [_, _, _, _], _ => rfl
  have D7 : Df l.prog w K mg base 8 "layers_hold" ["web", "number", "thing"] (spLayersHold [P3, P6, P7]) := .of g7 F7.fn (ok_layers_hold F7 ⟨tb7.code, tb7.bm, tb7.gP⟩ (show P7 ∈ [P3, P6, P7] by simp) m_all m_enumerate D2 D6) fun _ _ _ _ _ _ us hl => match us, hl with | [_, _, _], _ => rfl
  have D8 : Df l.prog w K mg base 1 "_law_well" ["_law_script", "_law_k"] (spWell K) := .of g8 F8 (ok_l_well F8 M m_abs) fun _ _ _ _ _ _ us hl => match us, hl with | [_, _], _ => rfl
  have D9 : Df l.prog w K mg base 1 "_law_draw" ["_law_well_here", "_law_many"] spDraw := .of g9 F9 (ok_l_draw F9 ) fun _ _ _ _ _ _ us hl => match us, hl with | [_, _], _ => rfl
  have D10 : Df l.prog w K mg base 1 "_law_kind" ["_law_sides", "_law_one", "_law_other"] spKind15 := .of g10 F10 (ok_l_kind F10 M) fun _ _ _ _ _ _ us hl => match us, hl with | [_, _, _], _ => rfl
  have D11 : Df l.prog w K mg base 2 "_law_ends" ["_law_well_here", "_law_many", "_law_ties"] spEnds := .of g11 F11 (ok_l_ends F11 M D9) fun _ _ _ _ _ _ us hl => match us, hl with | [_, _, _], _ => rfl
  have D12 : Df l.prog w K mg base 3 "_law_web" ["_law_well_here"] spWeb := .of g12 F12 (ok_l_web F12 M D9 D11 D10) fun _ _ _ _ _ _ us hl => match us, hl with | [_], _ => rfl
  have D13 : Df l.prog w K mg base 1 "_law_far" ["_law_web_here", "_law_place"] spFar := .of g13 F13 (ok_l_far F13 M) fun _ _ _ _ _ _ us hl => match us, hl with | [_, _], _ => rfl
  have D14 : Df l.prog w K mg base 2 "_law_row" ["_law_web_here", "_law_place", "_law_beyond", "_law_cap", "_law_half"] spRow15 := .of g14 F14 (ok_l_row F14 M m_min D13) fun _ _ _ _ _ _ us hl => match us, hl with | [_, _, _, _, _], _ => rfl
  have D15 : Df l.prog w K mg base 3 "_law_layers" ["_law_well_here", "_law_web_here"] spLayers := .of g15 F15 (ok_l_layers F15 M D9 D14) fun _ _ _ _ _ _ us hl => match us, hl with | [_, _], _ => rfl
  have D16 : Df l.prog w K mg base 1 "_law_is_row" ["_law_many", "_law_row_here"] spIsRowL := .of g16 F16 (ok_l_is_row F16 M) fun _ _ _ _ _ _ us hl => match us, hl with | [_, _], _ => rfl
  have D17 : Df l.prog w K mg base 1 "_law_near" ["_law_row_here", "_law_tie"] spAlong := .of g17 F17 (ok_l_near F17 M) fun _ _ _ _ _ _ us hl => match us, hl with | [_, _], _ => rfl
  have D18 : Df l.prog w K mg base 2 "_law_due" ["_law_web_here", "_law_number", "_law_thing"] spDue15 := .of g18 F18 (ok_l_due F18 M D16 D17) fun _ _ _ _ _ _ us hl => match us, hl with | [_, _, _], _ => rfl
  have D19 : Df l.prog w K mg base 2 "_law_within" ["_law_well_here", "_law_thing"] spWithin := .of g19 F19 (ok_l_within F19 M D9) fun _ _ _ _ _ _ us hl => match us, hl with | [_, _], _ => rfl
  have D20 : Df l.prog w K mg base 3 "_law_things" ["_law_well_here", "_law_web_here", "_law_layers_here"] spThings := .of g20 F20 (ok_l_things F20 M m_dict D9 D19) fun _ _ _ _ _ _ us hl => match us, hl with | [_, _, _], _ => rfl
  have D21 : Df l.prog w K mg base 9 "_law_right" ["_law_web_here", "_law_number", "_law_thing"] (spRight17 [P3, P6, P7]) := .of g21 F21 (ok_l_right F21 M D7 D18) fun _ _ _ _ _ _ us hl => match us, hl with | [_, _, _], _ => rfl
  exact ok_law F22 M m_min D8 D12 D15 D7 D20 D9 D21
end
end FF
open PySem PySem.W PyProof.Rows
set_option maxRecDepth 100000 in
set_option maxHeartbeats 0 in
theorem PySem.Challenge.cw_friendfoe_k17_things_that_are_no_layers_holds : PySem.Challenge.rw_friendfoe_k17_things_that_are_no_layers.Holds := by
  w_on; o_law; k_head; (case hw => w_witness2)
  k_fill
  refine FF.walk_tabs (l := PySem.Challenge.rw_friendfoe_k17_things_that_are_no_layers) (n := 63) (k := 10) (x := "_law_script") rfl (by decide) rfl ⟨rfl, by decide, by decide⟩ (fun w h Y => PySem.W.kIn_of Y) ?F
  case F =>
    intro w mg fa h KX G hmg tabs
    refine' FF.law_at KX G hmg (fun fy => tabs "is_row" fy ?r3) (fun fy => tabs "row_holds" fy ?r6) (fun fy => tabs "layers_hold" fy ?r7) ?a0 ?a1 ?a2 ?a3 ?a4 ?a5 ?a6 ?a7 ?a8 ?a9 ?a10 ?a11 ?a12 ?a13 ?a14 ?a15 ?a16 ?a17 ?a18 ?a19 ?a20 ?a21 ?a22 ?z0 ?z1 ?z2 ?z3 ?z4 ?z5 ?z6 ?z7 ?z8 ?z9 ?z10 ?z11 ?z12 ?z13 
    (case r3 => rfl)
    (case r6 => rfl)
    (case r7 => rfl)
    (case a0 => refine' FF.at_mk ?p1 ?p2 ?p3 ?p4; (case p1 => k_is); (case p2 => k_is); (case p3 => k_is); (case p4 => k_is))
    (case a1 => refine' FF.at_mk ?p1 ?p2 ?p3 ?p4; (case p1 => k_is); (case p2 => k_is); (case p3 => k_is); (case p4 => k_is))
    (case a2 => refine' FF.at_mk ?p1 ?p2 ?p3 ?p4; (case p1 => k_is); (case p2 => k_is); (case p3 => k_is); (case p4 => k_is))
    (case a3 => refine' FF.atC_mk ?p1 ?p2 ?p3 ?p4 ?p5 ?p6 ?p7 ?p8 ?p9 ?p10 ?p11 ?p12 ?p13; (case p1 => k_is); (case p2 => k_is); (case p3 => k_is); (case p4 => k_is); (case p5 => k_is); (case p6 => rfl); (case p7 => rfl); (case p8 => rfl); (case p9 => rfl); (case p10 => rfl); (case p11 => rfl); (case p12 => decide); (case p13 => rfl))
    (case a4 => refine' FF.at_mk ?p1 ?p2 ?p3 ?p4; (case p1 => k_is); (case p2 => k_is); (case p3 => k_is); (case p4 => k_is))
    (case a5 => refine' FF.at_mk ?p1 ?p2 ?p3 ?p4; (case p1 => k_is); (case p2 => k_is); (case p3 => k_is); (case p4 => k_is))
    (case a6 => refine' FF.atC_mk ?p1 ?p2 ?p3 ?p4 ?p5 ?p6 ?p7 ?p8 ?p9 ?p10 ?p11 ?p12 ?p13; (case p1 => k_is); (case p2 => k_is); (case p3 => k_is); (case p4 => k_is); (case p5 => k_is); (case p6 => rfl); (case p7 => rfl); (case p8 => rfl); (case p9 => rfl); (case p10 => rfl); (case p11 => rfl); (case p12 => decide); (case p13 => rfl))
    (case a7 => refine' FF.atC_mk ?p1 ?p2 ?p3 ?p4 ?p5 ?p6 ?p7 ?p8 ?p9 ?p10 ?p11 ?p12 ?p13; (case p1 => k_is); (case p2 => k_is); (case p3 => k_is); (case p4 => k_is); (case p5 => k_is); (case p6 => rfl); (case p7 => rfl); (case p8 => rfl); (case p9 => rfl); (case p10 => rfl); (case p11 => rfl); (case p12 => decide); (case p13 => rfl))
    (case a8 => refine' FF.at_mk ?p1 ?p2 ?p3 ?p4; (case p1 => k_is); (case p2 => k_is); (case p3 => k_is); (case p4 => k_is))
    (case a9 => refine' FF.at_mk ?p1 ?p2 ?p3 ?p4; (case p1 => k_is); (case p2 => k_is); (case p3 => k_is); (case p4 => k_is))
    (case a10 => refine' FF.at_mk ?p1 ?p2 ?p3 ?p4; (case p1 => k_is); (case p2 => k_is); (case p3 => k_is); (case p4 => k_is))
    (case a11 => refine' FF.at_mk ?p1 ?p2 ?p3 ?p4; (case p1 => k_is); (case p2 => k_is); (case p3 => k_is); (case p4 => k_is))
    (case a12 => refine' FF.at_mk ?p1 ?p2 ?p3 ?p4; (case p1 => k_is); (case p2 => k_is); (case p3 => k_is); (case p4 => k_is))
    (case a13 => refine' FF.at_mk ?p1 ?p2 ?p3 ?p4; (case p1 => k_is); (case p2 => k_is); (case p3 => k_is); (case p4 => k_is))
    (case a14 => refine' FF.at_mk ?p1 ?p2 ?p3 ?p4; (case p1 => k_is); (case p2 => k_is); (case p3 => k_is); (case p4 => k_is))
    (case a15 => refine' FF.at_mk ?p1 ?p2 ?p3 ?p4; (case p1 => k_is); (case p2 => k_is); (case p3 => k_is); (case p4 => k_is))
    (case a16 => refine' FF.at_mk ?p1 ?p2 ?p3 ?p4; (case p1 => k_is); (case p2 => k_is); (case p3 => k_is); (case p4 => k_is))
    (case a17 => refine' FF.at_mk ?p1 ?p2 ?p3 ?p4; (case p1 => k_is); (case p2 => k_is); (case p3 => k_is); (case p4 => k_is))
    (case a18 => refine' FF.at_mk ?p1 ?p2 ?p3 ?p4; (case p1 => k_is); (case p2 => k_is); (case p3 => k_is); (case p4 => k_is))
    (case a19 => refine' FF.at_mk ?p1 ?p2 ?p3 ?p4; (case p1 => k_is); (case p2 => k_is); (case p3 => k_is); (case p4 => k_is))
    (case a20 => refine' FF.at_mk ?p1 ?p2 ?p3 ?p4; (case p1 => k_is); (case p2 => k_is); (case p3 => k_is); (case p4 => k_is))
    (case a21 => refine' FF.at_mk ?p1 ?p2 ?p3 ?p4; (case p1 => k_is); (case p2 => k_is); (case p3 => k_is); (case p4 => k_is))
    (case a22 => refine' FF.at_mk ?p1 ?p2 ?p3 ?p4; (case p1 => k_is); (case p2 => k_is); (case p3 => k_is); (case p4 => k_is))
    (case z0 => k_is)
    (case z1 => k_is)
    (case z2 => k_is)
    (case z3 => k_is)
    (case z4 => k_is)
    (case z5 => k_is)
    (case z6 => k_is)
    (case z7 => k_is)
    (case z8 => k_is)
    (case z9 => k_is)
    (case z10 => k_is)
    (case z11 => k_is)
    (case z12 => k_is)
    (case z13 => k_is)
