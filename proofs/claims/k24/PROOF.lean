import PyProof.Rows.All
import Wide.All
import OpenK.AllK
import Wide.FinOn
import HandS.ForMost
import HandS.IsInst
import HandS.TupAny
import HandS.TupLe
import HandS.Wide
import HandS.Style
import HandS.SortInts
import HandS.Conv
import HandS.More
import HandS.EndTab
import HandS.EndOwn
import HandS.AnyAll
import HandS.GenOver
import HandS.Evl
import HandS.Walk
import HandS.NoneIn
import HandS.Zip
import HandS.DictComp
import HandS.SetFor
import KE.GoesEnum
import HandS.TupMul
import HandS.Strs
import KE.DataMinMax
import HandS.ForExc
import HandS.ExcIs
import HandS.SetKeys
import PySem.Challenge.RW_friendfoe_k24_plain_webs
import HandS.Remove
set_option Elab.async false
set_option linter.all false
set_option maxRecDepth 100000
namespace FF
open PySem PySem.Spec PyProof.Rows L2
/-! ### heaps: what is kept -/
/-- all that is tracked, but at d and c, is as it was -/
def Kp (d c : Addr) (H H' : Hp) : Prop := ∀ b o, b ≠ d → b ≠ c → H b = some o → H' b = some o
theorem Kp.refl {d c : Addr} {H : Hp} : Kp d c H H := fun _ _ _ _ h => h
theorem Kp.trans {d c : Addr} {H H1 H2 : Hp} (a : Kp d c H H1) (b : Kp d c H1 H2) : Kp d c H H2 := fun x o h1 h2 h => b x o h1 h2 (a x o h1 h2 h)
theorem Kp.at_d {d c : Addr} {H : Hp} {o : HO} : Kp d c H (upd H d o) := fun b u h1 _ h => by rw [upd_ne h1]; exact h
theorem Kp.at_c {d c : Addr} {H : Hp} {o : HO} : Kp d c H (upd H c o) := fun b u _ h2 h => by rw [upd_ne h2]; exact h
theorem Kp.new {d c p : Addr} {H : Hp} {o : HO} (hp : H p = none) : Kp d c H (upd H p o) := fun b u _ _ h => by rw [upd_ne (ne_of_none h hp)]; exact h
theorem same_new {H : Hp} {p : Addr} {o : HO} (h : H p = none) : Same H (upd H p o) := fun b x e => by
  rw [upd_ne (ne_of_none e h)]
  exact e
theorem Same.kp {d c : Addr} {H H' : Hp} (s : Same H H') : Kp d c H H' := fun b o _ _ h => s b o h
/-! ### defs as they are called -/
def Df (P : Program) (w : World) (K : PySem.W.Frag) (mg : Str → Option Value) (base : Heap) (k : Nat) (x : Str) (ps : List Str) (sp : Sp) : Prop :=
  ∃ (f : Addr) (fd : FuncData), FnOk P w K mg base CX0 k f fd ps sp ∧ mg x = some (.ref f) ∧ PySem.W.keepIn K (.ref f) = true ∧ Binds K fd ps []
/-- built-in names that the module has not taken -/
structure Free (mg : Str → Option Value) : Prop where
  len : mg "len" = none
  int : mg "int" = none
  bool : mg "bool" = none
  str : mg "str" = none
  list : mg "list" = none
  tuple : mg "tuple" = none
  range : mg "range" = none
  isinstance : mg "isinstance" = none
  sum : mg "sum" = none
/-! ### the well -/
structure Well (H : Hp) (d : Addr) (b : Nat) : Prop where
  ex : ∃ (g st : Int) (k : Nat), H d = some (.lst [.int g, .int st, .int k]) ∧ k ≤ b
theorem Well.same {H H' : Hp} {d : Addr} {b : Nat} (h : Well H d b) (s : Same H H') : Well H' d b := by
  obtain ⟨g, st, k, h1, h2⟩ := h
  exact ⟨g, st, k, s _ _ h1, h2⟩
theorem Well.mono {H : Hp} {d : Addr} {b b' : Nat} (h : Well H d b) (s : b ≤ b') : Well H d b' := by
  obtain ⟨g, st, k, h1, h2⟩ := h
  exact ⟨g, st, k, h1, Nat.le_trans h2 s⟩
theorem Well.mut {H : Hp} {d l : Addr} {o : HO} {b : Nat} (D : Well H d b) (h1 : l ≠ d) : Well (upd H l o) d b := by
  obtain ⟨g, st, k, e1, e2⟩ := D
  exact ⟨g, st, k, by rw [upd_ne (Ne.symm h1)]; exact e1, e2⟩
theorem Well.new {H : Hp} {d l : Addr} {o : HO} {b : Nat} (D : Well H d b) (h : H l = none) : Well (upd H l o) d b := D.same (same_new h)
theorem Well.ned {H : Hp} {d l : Addr} {b : Nat} (D : Well H d b) (h : H l = none) : l ≠ d := by
  obtain ⟨g, st, k, e1, e2⟩ := D
  exact (ne_of_none e1 h).symm
theorem mod_rng {a m : Int} (h : 0 < m) : 0 ≤ a % m ∧ a % m < m := ⟨Int.emod_nonneg a (by omega), Int.emod_lt_of_pos a h⟩
/-- a draw below m: any number from 0 on, less than m; one draw more -/
def spDraw : Sp := fun vs H Q _ => ∃ (d : Addr) (b : Nat) (m : Int), vs = [.ref d, .int m] ∧ Well H d b ∧ b < 2 ^ 60 ∧ 0 < m ∧ m.natAbs < 2 ^ 120 ∧
  ∀ v H', 0 ≤ v → v < m → Well H' d (b + 1) → Kp d d H H' → Q (.int v) H'
/-! ### a generator expression's own frame -/
/-- the context of a generator's turns: its frame cenv stands over the def's -/
abbrev gX (X : Cx) (s : Shared) (H : Hp) (A' : Around) (cenv : Env) (fp : List Addr) : Cx :=
  { X with A := A', s_0 := s, H_0 := H, env := cenv, outer := X.stack, stack := cenv :: X.stack, ex := fp, fn := fun _ => false, pn := [], xe := fun _ _ => False }
/-- what is asked of the expression's own scope -/
structure GnOk (scope : Scope) : Prop where
  co : scope.isCoroutine = false
  nocell : ∀ y ∈ scope.names, y.2 ≠ .cell
  dot : scope.names.lookup (".0" : Str) = some NameKind.local
section
variable {X : Cx} {pins : List (Addr × Obj)} {σ : L2.St} {H : Hp} {s : Shared}
theorem gen_start {scope : Scope} {own : List (Str × Nat)} {fp : List Addr} {A' : Around} {code : Value} {m0 : Str → Option Value} {h5 : Heap} {g5 : Array GenState} {t5 : Nat} {a : Addr} {go : Obj}
    (I : Inv X pins σ H s) (ok : BlkOk X.N X.env.scope scope own) (gk : GnOk scope) (hN : X.N.Nodup) (hfp : ∀ b ∈ fp, FpOk X pins H b ∧ b < s.heap.objs.size)
    (hA : A'.handled = none) (hF : A'.frames = some (genEnv scope (cloFrom X.env.cells scope.names []) s.heap.objs.size code builtinsNs X.env :: X.stack))
    (kp : ∀ b o, s.heap.get? b = some o → h5.get? b = some o) (hn : h5.Ns s.heap.objs.size m0) (hm0 : ∀ x, x ≠ (".0" : Str) → m0 x = none) (hdN : (".0" : Str) ∉ X.N) (hb5 : AllBare g5)
    (ha : s.heap.objs.size < a) (hgo : h5.get? a = some go) (hgd : ∀ v, go.data ≠ .cell v) :
    Inv (gX X s H A' (genEnv scope (cloFrom X.env.cells scope.names []) s.heap.objs.size code builtinsNs X.env) fp) [(a, go)] (wipe σ (own.map (·.2))) H { s with heap := h5, gens := g5, toks := t5 } := by
  have hfree : ∀ y ∈ scope.names, y.2 = .free → ∃ c, X.env.cells.lookup y.1 = some c := fun y hy e =>
    (ok.free y hy e).elim (fun k => I.ok.has _ (.inl k)) fun k => I.ok.has _ (.inr k)
  have cm : ∀ {y c}, (y, c) ∈ cloFrom X.env.cells scope.names [] → X.env.cells.lookup y = some c ∧ c < s.heap.objs.size := fun {y c} q => by
    rcases cloFrom_mem q with q | ⟨h1, e1⟩
    · cases q
    · obtain ⟨c1, hc1⟩ := hfree _ h1 rfl
      rw [hc1] at e1
      cases e1
      obtain ⟨w1, z1⟩ := I.cell _ _ hc1
      exact ⟨hc1, z1.lt⟩
  have cl : ∀ {y c}, (cloFrom X.env.cells scope.names []).lookup y = some c → X.env.cells.lookup y = some c ∧ c < s.heap.objs.size := fun {y c} e => cm (PySem.mem_of_lookup e)
  have look : ∀ {y}, scope.names.lookup y = some .free → ∃ c, (cloFrom X.env.cells scope.names []).lookup y = some c := fun {y} e =>
    mem_lookup (cloFrom_has (cells := X.env.cells) (acc := []) (PySem.mem_of_lookup e))
  generalize hce : genEnv scope (cloFrom X.env.cells scope.names []) s.heap.objs.size code builtinsNs X.env = ce at hF
  have cL : ce.locals = s.heap.objs.size := by rw [← hce]; rfl
  have cC : ce.cells = cloFrom X.env.cells scope.names [] := by rw [← hce]; rfl
  have cS : ce.scope = scope := by rw [← hce]; rfl
  have cF : ce.frame = some ce.locals := by rw [← hce]; rfl
  have okG : (gX X s H A' ce fp).Ok := by
    refine ⟨I.ok.mod, ?_, ?_, ?_, ?_, fun y z c e1 e2 => ?_, fun y hy => ?_, fun y c z e => ?_, fun _ => hA, hF, .inr ⟨rfl, cF⟩, fun b hb => ⟨?_, fun y c e z => ?_⟩, I.bs, Nat.le_trans I.ok.bsz I.sz, fun b o e hb => ?_, fun b hb z => ?_, I.stack, I.stkFree⟩
    · show ce.scope.kind = _
      rw [cS]
      exact ok.kind
    · show ce.globals = _
      rw [← hce]
      exact I.ok.glob
    · show ce.builtins = _
      rw [← hce]
      rfl
    · show s.heap.objs.size ≤ ce.locals
      rw [cL]
      exact Nat.le_refl _
    · have e1 : ce.cells.lookup y = some c := e1
      have e2 : ce.cells.lookup z = some c := e2
      rw [cC] at e1 e2
      exact I.ok.inj y z c (cl e1).1 (cl e2).1
    · show ∃ c, ce.cells.lookup y = some c
      rw [cC]
      have hy : scope.names.lookup y = some .cell ∨ scope.names.lookup y = some .free := by
        have hy' : ce.scope.names.lookup y = some .cell ∨ ce.scope.names.lookup y = some .free := hy
        rw [cS] at hy'
        exact hy'
      rcases hy with k | k
      · exact absurd rfl (gk.nocell _ (PySem.mem_of_lookup k))
      · exact look k
    · exact absurd (show false = true from z) Bool.false_ne_true
    · show b ≠ ce.locals
      rw [cL]
      exact Nat.ne_of_lt (hfp b hb).2
    · have e : ce.cells.lookup y = some c := e
      rw [cC] at e
      exact (hfp b hb).1.2.2.2.2.1 y c (cl e).1 z
    · rcases (hfp b hb).1.2.2.2.1 with q | q
      · exact I.ok.noex b o e q
      · exact absurd (Nat.lt_of_lt_of_le (Heap.lt_size e) (Nat.le_trans I.ok.bsz q)) (Nat.lt_irrefl _)
    · rcases List.mem_cons.mp (I.stkSub b z) with q | q
      · exact (hfp b hb).1.2.1 q
      · exact (hfp b hb).1.2.2.1 q
  refine ⟨okG, rfl, hb5, Un.kept kp, ⟨m0, ?_, fun i y av e1 e2 e3 => ?_⟩, fun y c e => ?_, ?_, fun y c e => ?_, fun p hp => ?_, I.hok.kept kp, by rw [wipe_length]; exact I.len⟩
  · show Heap.Ns _ ce.locals _
    rw [cL]
    exact hn
  · obtain ⟨e2, hne⟩ := wipe_some e2
    have e3 : Vis ce.scope y := e3
    rw [cS] at e3
    have hfr : scope.names.lookup y = some .free := by
      have no : ∀ k, scope.names.lookup y = some k → ¬ (k = .local ∨ k = .cell) := fun k hk hh => by
        rcases ok.own _ (PySem.mem_of_lookup hk) hh with q | q
        · obtain ⟨p, hp, hpy⟩ := List.mem_map.mp q
          have e4 := ok.ix p hp
          have hpy : p.1 = y := hpy
          rw [hpy] at e4
          exact hne (List.mem_map.mpr ⟨p, hp, nodup_ix hN e4 e1⟩)
        · exact q (List.mem_of_getElem? e1)
      rcases e3 with e3 | e3 | e3
      · exact absurd (.inl rfl) (no _ e3)
      · exact absurd (.inr rfl) (no _ e3)
      · exact e3
    obtain ⟨m, _, hl⟩ := I.loc
    have hvis : Vis X.env.scope y := (ok.free _ (PySem.mem_of_lookup hfr) rfl).elim (fun k => .inr (.inl k)) fun k => .inr (.inr k)
    obtain ⟨w1, r1, q1⟩ := hl i y av e1 e2 hvis
    obtain ⟨c, hc⟩ := look hfr
    refine ⟨w1, r1, .inr ⟨.inr (by show ce.scope.names.lookup y = _; rw [cS]; exact hfr), c, by show ce.cells.lookup y = _; rw [cC]; exact hc, ?_⟩⟩
    rcases q1 with ⟨k, _⟩ | ⟨_, c', e', z⟩
    · have k : X.env.scope.names.lookup y = some .local := k
      rcases ok.free _ (PySem.mem_of_lookup hfr) rfl with k' | k' <;> (have k' : X.env.scope.names.lookup y = _ := k'; rw [k'] at k; cases k)
    · rw [(cl hc).1] at e'
      cases e'
      exact z.keeps kp
  · have e : ce.cells.lookup y = some c := e
    rw [cC] at e
    obtain ⟨w1, z1⟩ := I.cell y c (cl e).1
    exact ⟨w1, z1.keeps kp⟩
  · show H ce.locals = none
    rw [cL]
    exact I.hok.fresh (Nat.le_refl _)
  · have e : ce.cells.lookup y = some c := e
    rw [cC] at e
    exact I.freeC y c (cl e).1
  · have hp : p = (a, go) := by simpa using hp
    subst hp
    refine ⟨hgo, I.hok.fresh (Nat.le_of_lt ha), ?_, fun z => ?_, hgd⟩
    · show a ≠ ce.locals
      rw [cL]
      exact Nat.ne_of_gt ha
    · have z : a ∈ frs X.stack := z
      obtain ⟨_, o, ho, _⟩ := I.stack.mem z
      exact absurd (Nat.lt_trans (Heap.lt_size ho) ha) (Nat.lt_irrefl _)
end
/-! ### all(..), any(..) of a generator, told by what each turn does -/
/-- between a yield and the next turn -/
structure Rs (s s' : Shared) : Prop where
  heap : s'.heap = s.heap
  os : s'.os = s.os
  bare : AllBare s'.gens
  size : s.gens.size ≤ s'.gens.size
theorem inv_gens {X : Cx} {pins : List (Addr × Obj)} {σ : L2.St} {H : Hp} {s s' : Shared} (I : Inv X pins σ H s) (h1 : s'.heap = s.heap) (h2 : s'.os = s.os) (h3 : AllBare s'.gens) : Inv X pins σ H s' := by
  obtain ⟨hh, g, d, t, o⟩ := s'
  have e1 : hh = s.heap := h1
  have e2 : o = s.os := h2
  subst e1 e2
  exact ⟨I.ok, I.os, h3, I.base, I.loc, I.cell, I.free, I.freeC, I.pin, I.hok, I.len⟩
theorem Rs.inv {X : Cx} {pins : List (Addr × Obj)} {σ : L2.St} {H : Hp} {s s' : Shared} (r : Rs s s') (I : Inv X pins σ H s) : Inv X pins σ H s' := by
  obtain ⟨h1, h2, h3, _⟩ := r
  obtain ⟨hh, g, d, t, o⟩ := s'
  have e1 : hh = s.heap := h1
  have e2 : o = s.os := h2
  subst e1 e2
  exact ⟨I.ok, I.os, h3, I.base, I.loc, I.cell, I.free, I.freeC, I.pin, I.hok, I.len⟩
theorem bare_set {gens : Array GenState} (h : AllBare gens) {g : Nat} {x : GenState} (hx : x.bare = true) : AllBare (gens.setIfInBounds g x) := fun y hy => by
  obtain ⟨i, hi, rfl⟩ := Array.mem_iff_getElem.mp hy
  rw [Array.size_setIfInBounds] at hi
  rw [Array.getElem_setIfInBounds hi]
  split
  · exact hx
  · exact h _ (Array.getElem_mem hi)
theorem Rs.set {s : Shared} (hb : AllBare s.gens) {g : Nat} {x : GenState} (hx : x.bare = true) : Rs s (s.setGen g x) :=
  ⟨rfl, rfl, bare_set hb hx, Nat.le_of_eq (GenW.setGen_size s g x).symm⟩
theorem Rs.trans {s s1 s2 : Shared} (a : Rs s s1) (b : Rs s1 s2) : Rs s s2 := ⟨b.heap.trans a.heap, b.os.trans a.os, b.bare, Nat.le_trans a.size b.size⟩
/-- the protocol of a generator whose items are truths: T b: what holds where b comes out -/
def gY (gi : Nat) (a : Addr) (stop : Bool) (Fin : Shared → Prop) : Protocol := fun n s₀ v s kap =>
  ∃ b, v = .bool b ∧ s.heap.IsGen a gi ∧ s.heap.NoLimit ∧ AllBare s.gens ∧ gi < s.gens.size ∧ (b = stop → Fin s) ∧ (b ≠ stop → ∀ s', Rs s s' → kap (.send .none) s')
def gR (End : Shared → Prop) : Nat → Shared → Shared → Prop := fun _ _ s => AllBare s.gens ∧ End s
/-- the generator waits -/
def Waits (prog : Program) (w : World) (A : Around) (gi : Nat) (a : Addr) (stop : Bool) (End Fin : Shared → Prop) (n : Nat) (s : Shared) : Prop :=
  s.heap.IsGen a gi ∧ s.heap.NoLimit ∧ AllBare s.gens ∧ ∃ gs, s.gens[gi]? = some gs ∧
    ∀ s', Rs s s' → gs.Goes (model prog w) A.in1 (fun n s₀ r s₁ => r = .ok .next ∧ gR End n s₀ s₁) (gY gi a stop Fin) n (.send .none) s'
section
variable {prog : Program} {w : World} {A : Around} {gi : Nat} {a : Addr} {stop : Bool} {End Fin : Shared → Prop}
theorem waits_next {n : Nat} {s : Shared} {Q : Option Value → Shared → Prop} {E : Value → Shared → Prop} (hh : A.handled = none) (hroom : A.depth < recursionLimit)
    (hE : ∀ s s' : Shared, End s → s'.os = s.os → AllBare s'.gens → (∀ b o, s.heap.get? b = some o → s'.heap.get? b = some o) → End s')
    (hF : ∀ s s' : Shared, Fin s → s'.os = s.os → AllBare s'.gens → (∀ b o, s.heap.get? b = some o → s'.heap.get? b = some o) → Fin s')
    (W : Waits prog w A gi a stop End Fin n s) (hN : ∀ s', End s' → Q none s') (hS : ∀ s', Fin s' → Q (some (.bool stop)) s')
    (hG : ∀ s' m, m < n → Waits prog w A gi a stop End Fin m s' → Q (some (.bool (!stop))) s') : wpAny (model prog w) A (pyNext (.ref a)) Q E s := by
  obtain ⟨hg, hl, hb, gs, hgs, hgo⟩ := W
  refine wpAny_pyNext_genexpQ (P := gR End) (Y := gY gi a stop Fin) hh hl hroom hg hgs (hgo _ (Rs.set hb rfl)) (fun v s₁ gs' hb' hv => ?_) fun s₁ hp h' hk => ?_
  · obtain ⟨b, rfl, g1, l1, b1, z1, f1, k1⟩ := hv
    by_cases e : b = stop
    · subst e
      exact hS _ (hF _ _ (f1 rfl) rfl (bare_set b1 hb') fun _ _ q => q)
    · have eb : b = !stop := by cases b <;> cases stop <;> first | rfl | exact absurd rfl e
      subst eb
      cases n with
      | zero => exact False.elim (k1 e s₁ ⟨rfl, rfl, b1, Nat.le_refl _⟩)
      | succ m =>
        refine hG _ m (Nat.lt_succ_self m) ⟨g1, l1, bare_set b1 hb', gs', ?_, fun s' r => k1 e s' ((Rs.set b1 hb').trans r)⟩
        show (s₁.gens.setIfInBounds gi gs')[gi]? = some gs'
        rw [Array.getElem?_setIfInBounds_self_of_lt z1]
  · obtain ⟨b1, e1⟩ := hp
    exact hN _ (hE _ _ e1 rfl (bare_set b1 rfl) fun b o q => hk b o q)
end
section
variable {prog : Program} {w : World} {A : Around} {gi : Nat} {a : Addr} {End Fin : Shared → Prop}
theorem all_loop (hh : A.handled = none) (hroom : A.depth < recursionLimit)
    (hE : ∀ s s' : Shared, End s → s'.os = s.os → AllBare s'.gens → (∀ b o, s.heap.get? b = some o → s'.heap.get? b = some o) → End s')
    (hF : ∀ s s' : Shared, Fin s → s'.os = s.os → AllBare s'.gens → (∀ b o, s.heap.get? b = some o → s'.heap.get? b = some o) → Fin s') :
    ∀ (n : Nat) (s : Shared), Waits prog w A.in1 gi a false End Fin n s →
      codeAny (model prog w) A (.builtin "all.loop" ⟨[.ref a], []⟩) (fun r s' => (r = .ok (.ret (.bool true)) ∧ End s') ∨ (r = .ok (.ret (.bool false)) ∧ Fin s')) s := by
  intro n
  induction n using Nat.strongRecOn with
  | ind n ih =>
    intro s W
    refine codeAny_builtin PySem.F.entry_all_loop ?_
    rw [Around.under_plainId PySem.F.plain_all_loop]
    show wpAny (model prog w) A.in1 (pyNext (.ref a) >>= _) _ _ s
    refine wpAny_bind (waits_next (A := A.in1) hh hroom hE hF W (fun s' e => ?_) (fun s' e => ?_) fun s' m hm W' => ?_)
    · exact wpAny_bind (wpAny_rule (wpAny_pure (.inl ⟨rfl, e⟩)))
    · refine wpAny_bind (wpAny_holding (wpAny_truthy_bool ?_))
      refine wpAny_bind (wpAny_letGo ?_)
      exact wpAny_bind (wpAny_rule (wpAny_pure (.inr ⟨rfl, e⟩)))
    · refine wpAny_bind (wpAny_holding (wpAny_truthy_bool ?_))
      refine wpAny_bind (wpAny_letGo ?_)
      exact wpAny_pure ⟨plainId_quiet PySem.F.plain_all_loop _, ih m hm s' W'⟩
end
/-! ### all(elt for target in iter) -/
/-- the reading: W by the turn and a measure; P: the def's table, which may grow -/
def tAll (P : Addr) (wi : TI) (g : TG) (te : TE) (vs : List Nat) : TE := fun σ H Q => wi σ H fun J H1 => GxR.TabG H1 P ∧ ∃ W : Nat → Nat → Hp → Prop, (∀ H2, GxR.Tabbed P H1 H2 → ∃ m, W 0 m H2) ∧ ∀ i m H, W i m H →
  (J.stop i H ∧ Q (.bl true) H) ∨ (J.go i H ∧ ∃ Nx : Hp → Prop, (∀ H', Nx H' → ∃ m', m' < m ∧ W (i + 1) m' H') ∧ ∀ x H', J.yld i H x H' → g x (wipe σ vs) H' fun σ2 H2 => wipe σ2 vs = wipe σ vs ∧
    te σ2 H2 fun y H3 => ∃ b, y = .bl b ∧ if b = true then Nx H3 else Q (.bl false) H3)
section
variable {X : Cx}
theorem pe_all {k : Nat} {c P : Addr} {elt tg iter : Expr} {scope : Scope} {own : List (Str × Nat)} {p pos gpos : Pos} {wi : TI} {g : TG} {te : TE}
    (hr : Room (k + 1) X.A) (TB : GxR.TabB X.base X.mg c P) (hcode : X.env.code = .ref c) (hc : X.calm = true) (hN : X.N.Nodup) (hG : Gl X "all") (hM : X.mg "all" = none) (hi : PI X tg iter wi) (ok : BlkOk X.N X.env.scope scope own) (gk : GnOk scope) (hdN : (".0" : Str) ∉ X.N)
    (hg : ∀ (s : Shared) (H : Hp) (A' : Around) (C : Addr) (cl : List (Str × Addr)) (code : Value) (fp : List Addr), PG (gX X s H A' (genEnv scope cl C code builtinsNs X.env) fp) tg g)
    (he : ∀ (s : Shared) (H : Hp) (A' : Around) (C : Addr) (cl : List (Str × Addr)) (code : Value) (fp : List Addr), Room k A' → PE (gX X s H A' (genEnv scope cl C code builtinsNs X.env) fp) elt te)
    (hs : ∀ v, genFold iter X.env v = pure v := by intro _; rfl)
    (hst : starEach [.GeneratorExp elt [⟨tg, iter, [], 0⟩] scope gpos] X.env = (false, eval (.GeneratorExp elt [⟨tg, iter, [], 0⟩] scope gpos) X.env) :: starEach [] X.env := by rfl) :
    PE X (.Call (.Name "all" p) [.GeneratorExp elt [⟨tg, iter, [], 0⟩] scope gpos] [] pos) (tAll P wi g te (own.map (·.2))) := by
  refine ⟨fun pins s σ H Q I h => ?_⟩
  have hh : X.A.handled = none := hr.hd
  refine wpAny_Call_Name_kw (ld_blt I hG hM PyProof.Rows.boot_all ?_)
  refine PyProof.Rows.callWith_builtin1 ?_ hst (by rfl)
  rw [hst]
  show wpAny _ _ (spliced ((false, eval (.GeneratorExp elt [⟨tg, iter, [], 0⟩] scope gpos) X.env) :: backTo pos (starEach [] X.env))) _ _ s
  have hfree : ∀ y ∈ scope.names, y.2 = .free → ∃ c, X.env.cells.lookup y.1 = some c := fun y hy e =>
    (ok.free y hy e).elim (fun k => I.ok.has _ (.inl k)) fun k => I.ok.has _ (.inr k)
  refine Calls.spliced_cons (wpAny_GeneratorExp_make gk.co (closure_ok hfree) gk.nocell gk.dot ok.kind (by have := hr.dp; omega) (thn (hi.run pins s σ H _ I h) fun xv s1 hx => thn hx fun itv s2 h2 => ?_) hs)
  obtain ⟨it, fp, tn, J, H2, e, I2, T, st2, f2, ⟨ps, hP, ht⟩, W, w0, turn⟩ := h2
  subst e
  refine ⟨I2.nolimit, ?_⟩
  have hPs : s2.heap.get? P = some { cls := .none, data := .fields ps } := I2.hok P _ hP
  have cd : PySem.W.CodeHd s2.heap c P := TB.code.keeps fun b u e => I2.bk b u e
  have sz2 : ∀ b ∈ fp, b < s2.heap.objs.size := fun b hb => by
    obtain ⟨o, e, _⟩ := T.obj _ _ st2 b hb
    exact Heap.lt_size e
  have nfP : ∀ b ∈ fp, b ≠ P := fun b hb z => by
    have q := (f2 b hb).1
    rw [z, hP] at q
    cases q
  -- behind the table
  have cont : ∀ (code : Value) (h3 : Heap) (tk : Nat) (more : Array Value), s2.heap.objs.size ≤ h3.objs.size → (∀ b o, b ≠ P → s2.heap.get? b = some o → h3.get? b = some o) → h3.get? P = some { cls := .none, data := .fields (ps ++ more) } → TriplesOk (ps ++ more).toList →
      wpAny (model X.prog X.w) X.A (builtinsFor X.env.globals X.env.builtins) (fun bi s4 => ∀ h', h'.Ns s4.heap.objs.size (fun y => if y = ".0" then some (.ref it) else none) → Heap.SameBut s4.heap.objs.size (s4.heap.push { cls := .type "frame", data := .dict #[] }) h' →
        wpAny (model X.prog X.w) X.A (spliced (backTo pos (starEach [] X.env))) (fun vs s5 => wpAny (model X.prog X.w) X.A (call (.builtin "all") (.ref h'.objs.size :: vs)) (EP X pins σ Q) X.xe s5) X.xe { s4 with
            gens := s4.gens.push (.fresh (.compStart (.GeneratorExp elt [⟨tg, iter, [], 0⟩] scope gpos) 0 (.ref it) .none (genEnv scope (cloFrom X.env.cells scope.names []) s4.heap.objs.size code bi X.env))), toks := s4.toks + 1 + 1 + 1,
            heap := h'.push { cls := .type "generator", data := .fields #[.int s4.gens.size 0, .str "<genexpr>" (s4.toks + 1), .str (X.env.qual ++ "<genexpr>") (s4.toks + 1 + 1)] } }) X.xe { s2 with heap := h3, toks := tk } := by
    intro code h3 tk more hle3 hk3 hP3 ht3
    have I3 : Inv X pins σ (upd H2 P (.tbl (ps ++ more))) { s2 with heap := h3, gens := s2.gens, drawn := s2.drawn, toks := tk } := GxR.inv_tab I2 hP hk3 hP3 I2.bare
    have tab3 : GxR.Tabbed P H2 (upd H2 P (.tbl (ps ++ more))) := ⟨⟨_, upd_same, ht3⟩, fun b hb => upd_ne hb⟩
    have st3 : tn 0 h3 := T.keep _ _ _ st2 fun b hb o e => hk3 b o (nfP b hb) e
    have f3 : ∀ b ∈ fp, FpOk X pins (upd H2 P (.tbl (ps ++ more))) b := fun b hb => ⟨by rw [upd_ne (nfP b hb)]; exact (f2 b hb).1, (f2 b hb).2⟩
    generalize upd H2 P (.tbl (ps ++ more)) = H3 at I3 tab3 f3
    obtain ⟨m0, hw0⟩ := w0 H3 tab3
    have sz3 : ∀ b ∈ fp, b < h3.objs.size := fun b hb => Nat.lt_of_lt_of_le (sz2 b hb) hle3
    have hs3 : ({ s2 with heap := h3, gens := s2.gens, drawn := s2.drawn, toks := tk } : Shared) = { s2 with heap := h3, toks := tk } := rfl
    rw [hs3] at I3
    generalize hsh : ({ s2 with heap := h3, toks := tk } : Shared) = s3 at I3 ⊢
    have eh : h3 = s3.heap := by rw [← hsh]
    rw [eh] at st3 sz3
    clear hsh hs3 eh hP3 hk3 hle3
    obtain ⟨bm, ob, e1, e2, e3, e4, e5, e6, e7, e8⟩ := TB.bm
    refine wpAny_builtinsFor (m := X.mg) (by rw [I3.ok.glob]; exact I3.mod.glob.keeps I3.bk) e1 e2 (I3.bk _ _ e5) e6 e7 e8 ?_
    intro h' hn' hs'
    refine Calls.spliced_nil ?_
    have hsz : h'.objs.size = s3.heap.objs.size + 1 := by rw [hs'.1, Heap.size_push]
    generalize hgo : ({ cls := .type "generator", data := .fields #[.int s3.gens.size 0, .str "<genexpr>" (s3.toks + 1), .str (X.env.qual ++ "<genexpr>") (s3.toks + 1 + 1)] } : Obj) = go
    have kp5 : ∀ b o, s3.heap.get? b = some o → (h'.push go).get? b = some o := fun b o e => Heap.get?_push_of_some _ (hs'.extBut b o (Nat.ne_of_lt (Heap.lt_size e)) (Heap.get?_push_of_some _ e))
    generalize hce : genEnv scope (cloFrom X.env.cells scope.names []) s3.heap.objs.size code builtinsNs X.env = ce
    have hhA : (X.A.in1.in1.over (.compLoop (.GeneratorExp elt [⟨tg, iter, [], 0⟩] scope gpos) 0 (.ref it) .none ce) []).handled = none := hh
    have hFr : (X.A.in1.in1.over (.compLoop (.GeneratorExp elt [⟨tg, iter, [], 0⟩] scope gpos) 0 (.ref it) .none ce) []).frames = some (ce :: X.stack) := by
      show pushEnvs [ce] (pushEnvs [] X.A.frames) = _
      rw [I3.ok.frames]
      rfl
    have hRm : Room k (X.A.in1.in1.over (.compLoop (.GeneratorExp elt [⟨tg, iter, [], 0⟩] scope gpos) 0 (.ref it) .none ce) []) := by
      have z1 := hr.dp
      have z2 := hr.un
      refine ⟨hhA, ?_, ?_⟩
      · show X.A.depth + 0 + 1 + 3 * k + 5 < recursionLimit
        omega
      · show X.A.units + 1 + 1 + 0 + 3 + 16 * k + 200 < cLine
        omega
    generalize hAg : X.A.in1.in1.over (.compLoop (.GeneratorExp elt [⟨tg, iter, [], 0⟩] scope gpos) 0 (.ref it) .none ce) [] = Ag at hhA hFr hRm
    have I5 : Inv (gX X s3 H3 Ag ce fp) [(h'.objs.size, go)] (wipe σ (own.map (·.2))) H3 { s3 with heap := h'.push go, gens := s3.gens.push (.fresh (.compStart (.GeneratorExp elt [⟨tg, iter, [], 0⟩] scope gpos) 0 (.ref it) .none ce)), toks := s3.toks + 1 + 1 + 1 } := by
      have q := gen_start (code := code) (A' := Ag) (h5 := h'.push go) (g5 := s3.gens.push (.fresh (.compStart (.GeneratorExp elt [⟨tg, iter, [], 0⟩] scope gpos) 0 (.ref it) .none ce))) (t5 := s3.toks + 1 + 1 + 1) (go := go) I3 ok gk hN (fun b hb => ⟨f3 b hb, sz3 b hb⟩) hhA (by rw [hce]; exact hFr) kp5 (hn'.push _)
        (fun x hx => if_neg hx) hdN (I3.bare.push rfl) (a := h'.objs.size) (by omega) (Heap.get?_push_size _ (by rw [← hgo]; rfl)) (by rw [← hgo]; intro v z; cases z)
      rw [hce] at q
      exact q
    have st5 : tn 0 (h'.push go) := T.keep _ _ _ st3 fun b _ o e => kp5 b o e
    have nfp : ∀ b ∈ fp, H3 b = none := fun b hb => (f3 b hb).1
    have pg := hg s3 H3 Ag s3.heap.objs.size (cloFrom X.env.cells scope.names []) code fp
    have pe := he s3 H3 Ag s3.heap.objs.size (cloFrom X.env.cells scope.names []) code fp hRm
    rw [hce] at pg pe
    have cCo : ce.scope.isCoroutine = false := by rw [← hce]; exact gk.co
    clear hn' hs' kp5 w0 hce
    -- back in the def's context
    have back : ∀ {σ' : L2.St} {H' : Hp} {s' : Shared} {pl : List (Addr × Obj)}, Inv (gX X s3 H3 Ag ce fp) pl σ' H' s' → Inv X pins σ H' s' := fun {σ' H' s' pl} J => I3.call' (ch := fp) J.os J.base J.hok J.bare fun b hb =>
      ⟨(f3 b hb).2.2.2.1, (f3 b hb).2.1, (f3 b hb).2.2.2.2.1, (f3 b hb).2.2.2.2.2⟩
    have stat : ∀ {σ' : L2.St} {H' : Hp} {s' : Shared}, Inv (gX X s3 H3 Ag ce fp) [(h'.objs.size, go)] σ' H' s' → (∀ b ∈ fp, H' b = none) → ∀ b ∈ fp, FpOk (gX X s3 H3 Ag ce fp) [(h'.objs.size, go)] H' b := fun {σ' H' s'} J hn b hb =>
      ⟨hn b hb, (J.ok.exf b hb).1, J.ok.exfs b hb, .inl hb, fun x c e => (J.ok.exf b hb).2 x c e, fun p hp => by
        have hp : p = (h'.objs.size, go) := by simpa using hp
        rw [hp]
        exact Nat.ne_of_gt (Nat.lt_trans (sz3 b hb) (by rw [hsz]; exact Nat.lt_succ_self _))⟩
    have gen : ∀ {σ' : L2.St} {H' : Hp} {s' : Shared} {pl : List (Addr × Obj)}, Inv (gX X s3 H3 Ag ce fp) ([(h'.objs.size, go)] ++ pl) σ' H' s' → s'.heap.IsGen h'.objs.size s3.gens.size := fun {σ' H' s' pl} J => by
      have q := (J.pin (h'.objs.size, go) (by simp)).1
      exact ⟨go, _, _, q, by rw [← hgo], by rw [← hgo], by rw [← hgo]⟩
    -- the turns
    have loop : ∀ (m n i : Nat) (s₀ s : Shared) (H : Hp), m < n → W i m H → Inv (gX X s3 H3 Ag ce fp) [(h'.objs.size, go)] (wipe σ (own.map (·.2))) H s → tn i s.heap → (∀ b ∈ fp, H b = none) → s3.gens.size + 1 ≤ s.gens.size →
        Seg (model X.prog X.w) X.A.in1.in1 (fun n s₀ r s₁ => r = .ok .next ∧ gR (fun s => ∃ H', Inv X pins σ H' s ∧ Q (.bl true) H') n s₀ s₁) (gY s3.gens.size h'.objs.size false fun s => ∃ H', Inv X pins σ H' s ∧ Q (.bl false) H') n s₀
          (.compLoop (.GeneratorExp elt [⟨tg, iter, [], 0⟩] scope gpos) 0 (.ref it) .none ce) ((model X.prog X.w).den (.compLoop (.GeneratorExp elt [⟨tg, iter, [], 0⟩] scope gpos) 0 (.ref it) .none ce)) [] s := by
      intro m
      induction m using Nat.strongRecOn with
      | ind m ih =>
        intro n i s₀ s H hmn w J st nf hz
        show Seg (model X.prog X.w) _ _ _ n s₀ _ ((compTurn (.GeneratorExp elt [⟨tg, iter, [], 0⟩] scope gpos) 0 (.ref it) .none ce).onRaise (leaving ce)) [] s
        rw [compTurn_gen]
        rw [Sem.onRaise_eq_wrap]
        refine seg_bind_wrap (wpAny_standAt (seg_bind_wrap ?_))
        rw [hAg]
        rcases turn i m H w with ⟨stp, qq⟩ | ⟨go', Nx, hNx, step⟩
        · refine thnF (T.done (gX X s3 H3 Ag ce fp) rfl rfl rfl hc i _ s _ H (fun _ _ => False) J (stat J nf) st stp) fun r s6 ⟨hr6, J6⟩ => ?_
          subst hr6
          exact seg_end (.ok .next) ⟨rfl, J6.bare, H, back J6, qq⟩
        · refine GenW.wpAny_gsz hz (thnF (T.item (gX X s3 H3 Ag ce fp) rfl rfl rfl hc i _ s _ H (fun _ _ => False) J (stat J nf) st go') fun r s6 ⟨u, hr6, h6⟩ hz6 => ?_)
          subst hr6
          refine seg_bind_wrap ?_
          rw [hAg]
          refine GenW.wpAny_gsz hz6 (thnF h6 fun _ s7 ⟨x, H7, J7, r7, y7, st7, n7⟩ hz7 => ?_)
          have J7' := J7.pinned (stat J7 n7) (T.obj _ _ st7)
          refine seg_bind_wrap ?_
          rw [hAg]
          refine GenW.wpAny_gsz hz7 (thnF (pg.run _ s7 _ H7 x u _ J7' r7 (step x H7 y7)) fun _ s8 ⟨σ8, H8, J8, hw8, q8⟩ hz8 => ?_)
          simp only [List.forIn_nil]
          refine seg_bind_wrap (wpAny_pure ?_)
          simp only [if_true]
          have hy : ∀ v, yieldOut ce v = yieldValue v := fun v => by simp only [yieldOut, cCo, Bool.false_eq_true, if_false]
          simp only [hy]
          rw [Sem.bind_eq_wrap', Sem.bind_eq_wrap']
          rw [Sem.wrap_wrap, Sem.wrap_wrap]
          refine seg_wrap ?_
          rw [hAg]
          refine GenW.wpAny_gsz hz8 (thnF (pe.run _ s8 σ8 H8 _ J8 q8) fun z s9 ⟨yv, H9, J9, r9, b, eb, qb⟩ hz9 => ?_)
          subst eb
          obtain rfl : z = Value.bool b := r9
          obtain ⟨n', rfl⟩ : ∃ n', n = n' + 1 := ⟨n - 1, by omega⟩
          refine seg_at (seg_yield rfl rfl rfl ⟨b, rfl, gen J9, J9.nolimit, J9.bare, hz9, fun e => ?_, fun e s' r => ?_⟩)
          · subst e
            exact ⟨H9, back J9, qb⟩
          · have e : b = true := by
              cases b with
              | true => rfl
              | false => exact absurd rfl e
            subst e
            rw [if_pos rfl] at qb
            obtain ⟨m', hm', w'⟩ := hNx H9 qb
            have pin' : ∀ b ∈ fp, ∀ o, s7.heap.get? b = some o → s9.heap.get? b = some o ∧ H9 b = none := fun b hb o e =>
              let z := J9.pin (b, o) (List.mem_append_right _ (List.mem_append_right _ (mem_pinsAt hb e)))
              ⟨z.1, z.2.1⟩
            have hl : (wipe σ (own.map (·.2))).length = σ8.length := by rw [← hw8, wipe_length]
            have K9 : Inv (gX X s3 H3 Ag ce fp) [(h'.objs.size, go)] (wipe σ (own.map (·.2))) H9 s9 := J9.unpinned.weak hl fun j v e => by
              rw [← hw8] at e
              exact (wipe_some e).1
            refine seg_again rfl (ih m' hm' n' (i + 1) s' s' H9 (by omega) w' (r.inv K9) ?_ (fun b hb => ?_) (Nat.le_trans hz9 r.size))
            · rw [r.heap]
              exact T.keep _ _ _ st7 fun b hb o e => (pin' b hb o e).1
            · obtain ⟨o, e, _⟩ := T.obj _ _ st7 b hb
              exact (pin' b hb o e).2
    have mono : ∀ (b : Bool) (s s' : Shared), (∃ H', Inv X pins σ H' s ∧ Q (.bl b) H') → s'.os = s.os → AllBare s'.gens → (∀ b o, s.heap.get? b = some o → s'.heap.get? b = some o) → ∃ H', Inv X pins σ H' s' ∧ Q (.bl b) H' := fun b s s' ⟨H', J, q⟩ h1 h2 h3 =>
      ⟨H', inv_gens (J.kept (t' := s'.toks) h3) rfl h1 h2, q⟩
    generalize hs5 : ({ s3 with heap := h'.push go, gens := s3.gens.push (.fresh (.compStart (.GeneratorExp elt [⟨tg, iter, [], 0⟩] scope gpos) 0 (.ref it) .none ce)), toks := s3.toks + 1 + 1 + 1 } : Shared) = s5 at I5
    have hg5 : s5.gens[s3.gens.size]? = some (.fresh (.compStart (.GeneratorExp elt [⟨tg, iter, [], 0⟩] scope gpos) 0 (.ref it) .none ce)) := by
      rw [← hs5]
      exact Array.getElem?_push_size ..
    have hz5 : s3.gens.size + 1 ≤ s5.gens.size := by
      rw [← hs5]
      exact Nat.le_of_eq (Array.size_push ..).symm
    have ht5 : tn 0 s5.heap := by rw [← hs5]; exact st5
    have wt : Waits X.prog X.w X.A.in1 s3.gens.size h'.objs.size false (fun s => ∃ H', Inv X pins σ H' s ∧ Q (.bl true) H') (fun s => ∃ H', Inv X pins σ H' s ∧ Q (.bl false) H') (m0 + 1) s5 := by
      refine ⟨gen (pl := []) I5, I5.nolimit, I5.bare, _, hg5, fun s' r => ⟨rfl, ?_⟩⟩
      have lp := loop m0 (m0 + 1) 0 s' s' H3 (Nat.lt_succ_self _) hw0 (r.inv I5) (by rw [r.heap]; exact ht5) nfp (Nat.le_trans hz5 r.size)
      show Seg (model X.prog X.w) _ _ _ _ s' _ ((compStart (.GeneratorExp elt [⟨tg, iter, [], 0⟩] scope gpos) 0 (.ref it) .none ce).onRaise (leaving ce)) [] s'
      unfold compStart
      rw [Sem.onRaise_eq_wrap]
      show Seg (model X.prog X.w) _ _ _ _ s' _ ((ask >>= _).wrap _ _ _ _) [] s'
      refine seg_bind_wrap (wpAny_askSetting ?_)
      have ts : tn 0 s'.heap := by rw [r.heap]; exact ht5
      split
      · exact seg_again rfl lp
      · first
          | exact seg_bind_wrap (wpAny_rule (seg_bind_wrap (wpAny_standAt (seg_bind_wrap (T.self _ 0 s' _ _ ts (seg_again rfl lp))))))
          | (refine seg_bind_wrap (wpAny_rule ?_); show Seg (model X.prog X.w) _ _ _ _ s' _ ((standAt iter.pos >>= _).wrap _ _ _ _) [] s'; exact seg_bind_wrap (wpAny_standAt (seg_bind_wrap (T.self _ 0 s' _ _ ts (seg_again rfl lp)))))
    refine call_function_tree PySem.F.kind_all PySem.F.plain_all PySem.F.entry_all (PySem.F.args_all1 _) ?_
    unfold Builtin.«all»
    refine wpAny_bind (m := oneArg "all" _) (wpAny_pure ?_)
    refine wpAny_bind (wpAny_pyIter_gen (gen (pl := []) I5) ?_)
    refine wpAny_pure ⟨plainId_quiet PySem.F.plain_all_loop _, codeAny_mono (all_loop hh hr.depth (mono true) (mono false) (m0 + 1) s5 wt) fun r s' hq => ?_⟩
    rcases hq with ⟨rfl, H', J, q⟩ | ⟨rfl, H', J, q⟩
    · exact ⟨.bl true, H', J, rfl, q⟩
    · exact ⟨.bl false, H', J, rfl, q⟩
  cases hf : codeAmong gpos ps.toList with
  | none =>
    refine wpAny_genexprCodeX hcode (cd.code hPs ht) (cd.tab hPs) hf fun c' h' tk hx hge hlt hco' _ htab' _ => ?_
    obtain ⟨o1, vs, f1, tf, fl, tg1, inF, tx, tt, op, _, _, _, _, _, _, _, _, _, htr, _⟩ := hco'
    exact cont _ h' tk _ (Nat.le_trans hge (Nat.le_of_lt hlt)) (fun b o hb e => hx b o hb e) htab'.2 htr
  | some cv =>
    refine wpAny_genexprCode_hit hcode (cd.code hPs ht) hf ?_
    have := cont cv s2.heap s2.toks #[] (Nat.le_refl _) (fun _ _ _ e => e) (by rw [hPs]; simp) (by simpa using ht)
    exact this
end
def topS (i : Nat) : Stmt := PySem.Challenge.pw_friendfoe_k24_plain_webs.main.body.getD i (.Pass ⟨0, 0, 0, 0⟩)
abbrev s_neighbours : Stmt := topS 1
abbrev N_neighbours : List Str := ["web", "many", "ties", "around", "place", "one", "other", "kind"]
theorem sc_neighbours : FnScope N_neighbours ["web"] (defScope s_neighbours) := ⟨rfl, rfl, rfl, by decide +kernel, rfl, by decide +kernel, by decide +kernel⟩
abbrev s_sides_from : Stmt := topS 2
abbrev N_sides_from : List Str := ["start", "around", "sides", "waiting", "place", "other", "kind"]
theorem sc_sides_from : FnScope N_sides_from ["start", "around"] (defScope s_sides_from) := ⟨rfl, rfl, rfl, by decide +kernel, rfl, by decide +kernel, by decide +kernel⟩
abbrev s_breaks : Stmt := topS 4
abbrev N_breaks : List Str := ["sides", "tie", "one", "other", "kind"]
theorem sc_breaks : FnScope N_breaks ["sides", "tie"] (defScope s_breaks) := ⟨rfl, rfl, rfl, by decide +kernel, rfl, by decide +kernel, by decide +kernel⟩
abbrev s_broken_by : Stmt := topS 5
abbrev N_broken_by : List Str := ["web", "sides", "number", "tie"]
theorem sc_broken_by : FnScope N_broken_by ["web", "sides"] (defScope s_broken_by) := ⟨rfl, rfl, rfl, by decide +kernel, rfl, by decide +kernel, by decide +kernel⟩
abbrev s_sides_of : Stmt := topS 6
abbrev N_sides_of : List Str := ["web", "around", "told", "start", "sides", "place"]
theorem sc_sides_of : FnScope N_sides_of ["web"] (defScope s_sides_of) := ⟨rfl, rfl, rfl, by decide +kernel, rfl, by decide +kernel, by decide +kernel⟩
abbrev s_turned_tie : Stmt := topS 8
abbrev N_turned_tie : List Str := ["tie", "among", "one", "other", "kind"]
theorem sc_turned_tie : FnScope N_turned_tie ["tie", "among"] (defScope s_turned_tie) := ⟨rfl, rfl, rfl, by decide +kernel, rfl, by decide +kernel, by decide +kernel⟩
abbrev s_turned : Stmt := topS 9
abbrev N_turned : List Str := ["web", "places", "among", "place", "tie"]
theorem sc_turned : FnScope N_turned ["web", "places"] (defScope s_turned) := ⟨rfl, rfl, rfl, by decide +kernel, rfl, by decide +kernel, by decide +kernel⟩
abbrev s_places_turned : Stmt := topS 10
abbrev N_places_turned : List Str := ["sides", "place", "side"]
theorem sc_places_turned : FnScope N_places_turned ["sides"] (defScope s_places_turned) := ⟨rfl, rfl, rfl, by decide +kernel, rfl, by decide +kernel, by decide +kernel⟩
abbrev s_stems : Stmt := topS 11
abbrev N_stems : List Str := ["web", "labels", "numbers", "number", "one", "other", "kind", "old", "new", "label"]
theorem sc_stems : FnScope N_stems ["web"] (defScope s_stems) := ⟨rfl, rfl, rfl, by decide +kernel, rfl, by decide +kernel, by decide +kernel⟩
abbrev s_plain : Stmt := topS 12
abbrev N_plain : List Str := ["web", "stem_web", "number"]
theorem sc_plain : FnScope N_plain ["web"] (defScope s_plain) := ⟨rfl, rfl, rfl, by decide +kernel, rfl, by decide +kernel, by decide +kernel⟩
abbrev s_l_well : Stmt := topS 14
abbrev N_l_well : List Str := ["_law_script", "_law_k", "_law_cell", "_law_great"]
theorem sc_l_well : FnScope N_l_well ["_law_script", "_law_k"] (defScope s_l_well) := ⟨rfl, rfl, rfl, by decide +kernel, rfl, by decide +kernel, by decide +kernel⟩
abbrev s_l_draw : Stmt := topS 15
abbrev N_l_draw : List Str := ["_law_well_here", "_law_most", "_law_digit", "_law_number"]
theorem sc_l_draw : FnScope N_l_draw ["_law_well_here", "_law_most"] (defScope s_l_draw) := ⟨rfl, rfl, rfl, by decide +kernel, rfl, by decide +kernel, by decide +kernel⟩
abbrev s_l_web : Stmt := topS 16
abbrev N_l_web : List Str := ["_law_well_here", "_law_great", "_law_many", "_law_ties", "_law_k", "_law_one", "_law_other", "_law_kind"]
theorem sc_l_web : FnScope N_l_web ["_law_well_here"] (defScope s_l_web) := ⟨rfl, rfl, rfl, by decide +kernel, rfl, by decide +kernel, by decide +kernel⟩
abbrev s_l_places : Stmt := topS 17
abbrev N_l_places : List Str := ["_law_well_here", "_law_many", "_law_way", "_law_place"]
theorem sc_l_places : FnScope N_l_places ["_law_well_here", "_law_many"] (defScope s_l_places) := ⟨rfl, rfl, rfl, by decide +kernel, rfl, by decide +kernel, by decide +kernel⟩
abbrev s_l_about : Stmt := topS 18
abbrev N_l_about : List Str := ["_law_web_here", "_law_places_here", "_law_other", "_law_ties", "_law_tie"]
theorem sc_l_about : FnScope N_l_about ["_law_web_here", "_law_places_here"] (defScope s_l_about) := ⟨rfl, rfl, rfl, by decide +kernel, rfl, by decide +kernel, by decide +kernel⟩
abbrev s_l_same : Stmt := topS 19
abbrev N_l_same : List Str := ["_law_found", "_law_due_here", "_law_one", "_law_other"]
theorem sc_l_same : FnScope N_l_same ["_law_found", "_law_due_here"] (defScope s_l_same) := ⟨rfl, rfl, rfl, by decide +kernel, rfl, by decide +kernel, by decide +kernel⟩
abbrev s_l_stems : Stmt := topS 20
abbrev N_l_stems : List Str := ["_law_web_here", "_law_beside", "_law_place", "_law_found", "_law_number", "_law_tie", "_law_come", "_law_seen", "_law_there"]
theorem sc_l_stems : FnScope N_l_stems ["_law_web_here"] (defScope s_l_stems) := ⟨rfl, rfl, rfl, by decide +kernel, rfl, by decide +kernel, by decide +kernel⟩
abbrev s_l_closed : Stmt := topS 21
abbrev N_l_closed : List Str := ["_law_web_here", "_law_stems_here", "_law_tie", "_law_one", "_law_other", "_law_kind", "_law_left", "_law_place", "_law_number", "_law_loose", "_law_there", "_law_places_here", "_law_ties"]
theorem sc_l_closed : FnScope N_l_closed ["_law_web_here", "_law_stems_here", "_law_tie"] (defScope s_l_closed) := ⟨rfl, rfl, rfl, by decide +kernel, rfl, by decide +kernel, by decide +kernel⟩
abbrev s_l_due : Stmt := topS 22
abbrev N_l_due : List Str := ["_law_web_here", "_law_stems_here", "_law_ties", "_law_number", "_law_tie", "_law_kind", "_law_ring", "_law_one"]
theorem sc_l_due : FnScope N_l_due ["_law_web_here"] (defScope s_l_due) := ⟨rfl, rfl, rfl, by decide +kernel, rfl, by decide +kernel, by decide +kernel⟩
abbrev s_l_is_bridge : Stmt := topS 23
abbrev N_l_is_bridge : List Str := ["_law_web_here", "_law_at", "_law_come", "_law_seen", "_law_here", "_law_number", "_law_tie"]
theorem sc_l_is_bridge : FnScope N_l_is_bridge ["_law_web_here", "_law_at"] (defScope s_l_is_bridge) := ⟨rfl, rfl, rfl, by decide +kernel, rfl, by decide +kernel, by decide +kernel⟩
abbrev s_law : Stmt := topS 24
abbrev N_law : List Str := ["_law_script", "_law_k", "_law_well_here", "_law_web_here", "_law_due_here", "_law_turn", "_law_at", "_law_one", "_law_other", "_law_kind", "_law_bent", "_law_changed"]
theorem sc_law : FnScope N_law ["_law_script"] (defScope s_law) := ⟨rfl, rfl, rfl, by decide +kernel, rfl, by decide +kernel, by decide +kernel⟩
/-! ### own rules: a list against [] -/
section
variable {X : Cx}
def rEqE (K : PySem.W.Frag) : R2 := fun x y H Q => ∃ (a b : Addr) (xs : List V), x = .ref a ∧ y = .ref b ∧ SqL K H a xs ∧ SqL K H b [] ∧ Q (.bl xs.isEmpty) H
def rNeE (K : PySem.W.Frag) : R2 := fun x y H Q => ∃ (a b : Addr) (xs : List V), x = .ref a ∧ y = .ref b ∧ SqL K H a xs ∧ SqL K H b [] ∧ Q (.bl (!xs.isEmpty)) H
theorem op_eqE (hu : X.A.units < cLine) : OpR X (compareOp .Eq) (rEqE X.K) := by
  intro pins s σ H x y v u Q I rx ry h
  obtain ⟨a, b, xs, rfl, rfl, ha, hb, q⟩ := h
  obtain rfl : v = Value.ref a := rx
  obtain rfl : u = Value.ref b := ry
  obtain ⟨its, r1, p1, _⟩ := I.list ha
  obtain ⟨its2, r2, p2, _⟩ := I.list hb
  cases r2
  cases xs with
  | nil =>
    cases r1
    exact SeqAt.eq_listAt (e := fun _ => true) p1.isList p2.isList rfl hu (fun j h1 _ => absurd h1 (by simp)) ⟨.bl true, H, I, rfl, q⟩
  | cons z zs =>
    cases r1 with
    | cons r t => exact SeqAt.eq_list_lengthsAt p1.isList p2.isList (by simp) hu ⟨.bl false, H, I, rfl, q⟩
theorem op_neE (hu : X.A.units < cLine) : OpR X (compareOp .NotEq) (rNeE X.K) := by
  intro pins s σ H x y v u Q I rx ry h
  obtain ⟨a, b, xs, rfl, rfl, ha, hb, q⟩ := h
  obtain rfl : v = Value.ref a := rx
  obtain rfl : u = Value.ref b := ry
  obtain ⟨its, r1, p1, _⟩ := I.list ha
  obtain ⟨its2, r2, p2, _⟩ := I.list hb
  cases r2
  cases xs with
  | nil =>
    cases r1
    exact SeqAt.RcNeAt.lists (e := fun _ => true) p1.isList p2.isList rfl hu (fun j h1 _ => absurd h1 (by simp)) _ _ _ _ ⟨.bl false, H, I, rfl, q⟩
  | cons z zs =>
    cases r1 with
    | cons r t => exact SeqAt.RcNeAt.lists_lengths p1.isList p2.isList (by simp) hu _ _ _ _ ⟨.bl true, H, I, rfl, q⟩
end
section
variable {P : Program} {w : World} {K : PySem.W.Frag} {mg : Str → Option Value} {base : Heap}
/-! ### webs -/
structure Tie where
  one : Int
  other : Int
  foe : Bool
def kindS : Bool → Str
  | true => "foe"
  | false => "friend"
def TieV (H : Hp) (v : V) (t : Tie) : Prop := ∃ a, v = .ref a ∧ H a = some (.tup [.int t.one, .int t.other, .str (kindS t.foe)])
def TieOk (n : Int) (t : Tie) : Prop := 0 ≤ t.one ∧ t.one < n ∧ 0 ≤ t.other ∧ t.other < n ∧ t.one ≠ t.other
def WebAt (H : Hp) (v : V) (n : Int) (ts : List Tie) : Prop := ∃ a b vs, v = .ref a ∧ H a = some (.tup [.int n, .ref b]) ∧ H b = some (.tup vs) ∧ Paired (TieV H) vs ts
structure WebOk (n : Int) (ts : List Tie) : Prop where
  lo : 1 ≤ n
  hi : n ≤ 40
  few : ts.length ≤ 120
  ok : ∀ t ∈ ts, TieOk n t
/-- tuples stay -/
def Tk (H H' : Hp) : Prop := ∀ b xs, H b = some (.tup xs) → H' b = some (.tup xs)
theorem Tk.trans {H H1 H2 : Hp} (a : Tk H H1) (b : Tk H1 H2) : Tk H H2 := fun x xs h => b x xs (a x xs h)
theorem Same.tk {H H' : Hp} (s : Same H H') : Tk H H' := fun b xs h => s b _ h
theorem tk_lst {H : Hp} {l : Addr} {xs ys : List V} (h : H l = some (.lst xs)) : Tk H (upd H l (.lst ys)) := fun b zs e => by
  rw [upd_ne (ne_of e h (by intro z; cases z))]
  exact e
theorem TieV.tk {H H' : Hp} (k : Tk H H') {v : V} {t : Tie} (h : TieV H v t) : TieV H' v t := by
  obtain ⟨a, rfl, e⟩ := h
  exact ⟨a, rfl, k _ _ e⟩
theorem ties_tk {H H' : Hp} (k : Tk H H') {vs : List V} {ts : List Tie} (h : Paired (TieV H) vs ts) : Paired (TieV H') vs ts := Paired.mono (fun _ _ x => x.tk k) h
theorem WebAt.tk {H H' : Hp} (k : Tk H H') {v : V} {n : Int} {ts : List Tie} (h : WebAt H v n ts) : WebAt H' v n ts := by
  obtain ⟨a, b, vs, rfl, h1, h2, h3⟩ := h
  exact ⟨a, b, vs, rfl, k _ _ h1, k _ _ h2, ties_tk k h3⟩
theorem Kp.tk {d : Addr} {b : Nat} {H H' : Hp} (k : Kp d d H H') (D : Well H d b) : Tk H H' := fun c xs e => by
  obtain ⟨g, st, n, h1, h2⟩ := D
  have ne := ne_of e h1 (by intro z; cases z)
  exact k c _ ne ne e
theorem Kp.mut {d c l : Addr} {H H' : Hp} {o : HO} (k : Kp d c H H') (h : H l = none) : Kp d c H (upd H' l o) := fun b u h1 h2 e => by
  rw [upd_ne (ne_of_none e h)]
  exact k b u h1 h2 e
theorem Paired.at {α β : Type} {F : α → β → Prop} : ∀ {l : List α} {m : List β} {i : Nat} {a : α}, Paired F l m → l[i]? = some a → ∃ b, m[i]? = some b ∧ F a b
  | _, _, _, _, .nil, e => by simp at e
  | _, _, 0, _, .cons r _, e => by simp at e; subst e; exact ⟨_, rfl, r⟩
  | _, _, i + 1, a, .cons _ t, e => by
    obtain ⟨u, h1, h2⟩ := Paired.at (i := i) (a := a) t (by simpa using e)
    exact ⟨u, by simpa using h1, h2⟩
theorem Paired.at' {α β : Type} {F : α → β → Prop} : ∀ {l : List α} {m : List β} {i : Nat} {b : β}, Paired F l m → m[i]? = some b → ∃ a, l[i]? = some a ∧ F a b
  | _, _, _, _, .nil, e => by simp at e
  | _, _, 0, _, .cons r _, e => by simp at e; subst e; exact ⟨_, rfl, r⟩
  | _, _, i + 1, b, .cons _ t, e => by
    obtain ⟨u, h1, h2⟩ := Paired.at' (i := i) (b := b) t (by simpa using e)
    exact ⟨u, by simpa using h1, h2⟩
theorem getI {α : Type} {xs : List α} {i : Int} (h0 : 0 ≤ i) (h1 : i < (xs.length : Int)) : ∃ v, atI xs i = some v ∧ xs[i.toNat]? = some v := by
  obtain ⟨j, rfl⟩ : ∃ j : Nat, i = (j : Int) := ⟨i.toNat, by omega⟩
  have h2 : j < xs.length := by omega
  exact ⟨xs[j], atI_nat (List.getElem?_eq_getElem h2), by rw [Int.toNat_natCast]; exact List.getElem?_eq_getElem h2⟩
theorem other_ne {n a b : Int} (h0 : 0 ≤ a) (h1 : a < n) (g0 : 0 ≤ b) (g1 : b < n - 1) : a ≠ (a + 1 + b) % n := by
  by_cases h : a + 1 + b < n
  · rw [Int.emod_eq_of_lt (by omega) h]
    omega
  · have e : a + 1 + b = (a + 1 + b - n) + 1 * n := by omega
    rw [e, Int.add_mul_emod_self_right, Int.emod_eq_of_lt (by omega) (by omega)]
    omega
theorem pick2 {α : Type} (a b : α) (k : Bool) : atI [a, b] (if k then 1 else 0) = some (if k then b else a) := by
  cases k <;> rfl
def spWeb : Sp := fun vs H Q _ => ∃ (d : Addr) (b : Nat), vs = [.ref d] ∧ Well H d b ∧ b < 2 ^ 50 ∧
  ∀ v n ts H', WebAt H' v n ts → WebOk n ts → Well H' d (b + 1000) → Kp d d H H' → Q v H'
theorem Kp.free {d c l : Addr} {H H' : Hp} (k : Kp d c H H') (h : H' l = none) (h1 : l ≠ d) (h2 : l ≠ c) : H l = none := by
  cases e : H l with
  | none => rfl
  | some o =>
    rw [k l o h1 h2 e] at h
    cases h
theorem atI_of {xs : List V} {i : Int} {v : V} (h0 : 0 ≤ i) (e : xs[i.toNat]? = some v) : atI xs i = some v := by
  obtain ⟨j, rfl⟩ : ∃ j : Nat, i = (j : Int) := ⟨i.toNat, by omega⟩
  exact atI_nat (by rw [Int.toNat_natCast] at e; exact e)
theorem atI_ints {xs : List Int} {i : Int} (h0 : 0 ≤ i) (h1 : i < xs.length) : ∃ x ∈ xs, xs[i.toNat]? = some x ∧ atI (xs.map V.int) i = some (.int x) := by
  have h : i.toNat < xs.length := by omega
  exact ⟨xs[i.toNat], List.getElem_mem h, List.getElem?_eq_getElem h, atI_of h0 (by rw [List.getElem?_map, List.getElem?_eq_getElem h]; rfl)⟩
theorem at0 {α : Type} (x : α) (xs : List α) : atI (x :: xs) 0 = some x := atI_nat (j := 0) rfl
theorem ix0 (n : Nat) : ixN (n + 1) 0 = some 0 := by
  unfold ixN
  rw [if_pos (by decide), if_pos (by omega)]
  rfl
/-! ### a draw -/
theorem ok_l_draw {f : Addr} {fd : FuncData} (F : Fun K "_law_draw" "_law_draw" s_l_draw f fd) : FnOk P w K mg base CX0 1 f fd ["_law_well_here", "_law_most"] spDraw := by
  refine F.ok sc_l_draw (fun vs H Q E h => ?_) (fun cdv A outer s H vs Q E hr h => ?_)
  · obtain ⟨d, b, m, rfl, _⟩ := h
    rfl
  · obtain ⟨d, b, m, rfl, hD, hB, hm, hb, q⟩ := h
    obtain ⟨g, st, n, hd, hn⟩ := hD
    refine ⟨_, (pss_cons (ps_if (pt_cmpR op_gt (pe_ix ix_list (pv 0) pe_int (fun _ _ => rfl)) pe_int (nomark _))
        (pss_cons (ps_set (i := 2) sc_l_draw.nd rfl (.inl rfl) (pe_op op_mod (pe_ix ix_list (pv 0) pe_int (fun _ _ => rfl)) (pv 1)))
        (pss_cons (ps_asg (pe_op op_fdivW (pe_ix ix_list (pv 0) pe_int (fun _ _ => rfl)) (pv 1)) (pg_sub (pv 0) pe_int set_list))
        (pss_one (ps_ret (pv 2)))))
        pss_nil)
      (pss_cons (ps_asg (pe_op op_add (pe_ix ix_list (pv 0) pe_int (fun _ _ => rfl)) pe_int) (pg_sub (pv 0) pe_int set_list))
      (Evl.pss_cut (ps_set (i := 3) sc_l_draw.nd rfl (.inl rfl) (pe_op op_mod (pe_op op_mul (pe_op op_add (pe_ix ix_list (pv 0) pe_int (fun _ _ => rfl)) (pe_op op_mul (pe_op op_mul pe_int (pe_ix ix_list (pv 0) pe_int (fun _ _ => rfl))) (pe_ix ix_list (pv 0) pe_int (fun _ _ => rfl)))) pe_int) pe_int))
      (Evl.pss_cut (ps_set (i := 3) sc_l_draw.nd rfl (.inl rfl) (pe_op op_mod (pe_op op_add (pe_op op_add (pe_op op_mul (pv 3) (pv 3)) (pe_op op_mul pe_int (pv 3))) pe_int) pe_int))
      (pss_one (ps_ret (pe_op op_mod (pe_op op_fdiv (pe_op op_mod (pe_op op_add (pe_op op_mul (pv 3) (pv 3)) pe_int) pe_int) pe_int) (pv 1)))))))), ?_⟩
    refine ⟨.ref d, rfl, d, _, 0, .int g, rfl, rfl, SqL.of hd, rfl, g, 0, rfl, rfl, _, rfl, ite2 (fun _ => ?_) (fun _ => ?_)⟩
    · refine ⟨.ref d, rfl, d, _, 0, .int g, rfl, rfl, SqL.of hd, rfl, .int m, rfl, g, m, rfl, rfl, hm, ?_⟩
      refine ⟨.ref d, rfl, d, _, 0, .int g, rfl, rfl, SqL.of hd, rfl, .int m, rfl, g, m, rfl, rfl, wide_div hm hb (by decide) (by decide), .ref d, rfl, d, _, 0, 0, rfl, rfl, hd, rfl, ?_⟩
      exact ⟨.int (g % m), rfl, q _ _ (mod_rng hm).1 (mod_rng hm).2 ⟨g / m, st, n, by rw [upd_same]; rfl, by omega⟩ Kp.at_d⟩
    · refine ⟨.ref d, rfl, d, _, 2, .int n, rfl, rfl, SqL.of hd, rfl, n, 1, rfl, rfl, .ref d, rfl, d, _, 2, 2, rfl, rfl, hd, rfl, ?_⟩
      have hd2 : (upd H d (.lst ([V.int g, V.int st, V.int n].set 2 (.int (n + 1))))) d = some (.lst [.int g, .int st, .int ((n + 1 : Nat) : Int)]) := by rw [upd_same]; rfl
      have k2 : Kp d d H (upd H d (.lst ([V.int g, V.int st, V.int n].set 2 (.int (n + 1))))) := Kp.at_d
      generalize upd H d (.lst ([V.int g, V.int st, V.int n].set 2 (.int (n + 1)))) = H2 at hd2 k2
      refine ⟨fun σ' H5 => ∃ N : Int, σ' = [some (.ref d), some (.int m), none, some (.int N)] ∧ 0 ≤ N ∧ N < 2147483647 ∧ H5 = H2, ?_, ?_⟩
      · exact ⟨.ref d, rfl, d, _, 1, .int st, rfl, rfl, SqL.of hd2, rfl, .ref d, rfl, d, _, 2, _, rfl, rfl, SqL.of hd2, rfl, 7919, _, rfl, rfl, .inl ⟨by decide, by decide⟩, .ref d, rfl, d, _, 2, _, rfl, rfl, SqL.of hd2, rfl, _, _, rfl, rfl, .inr ⟨by omega, by omega⟩, _, _, rfl, rfl, _, 48271, rfl, rfl, .inr ⟨by decide, by decide⟩, _, 2147483647, rfl, rfl, show (0 : Int) < 2147483647 by decide, _, rfl, (mod_rng (by decide)).1, (mod_rng (by decide)).2, rfl⟩
      rintro σ' H5 ⟨N, rfl, hN0, hN1, rfl⟩
      refine ⟨fun σ' H6 => ∃ M : Int, σ' = [some (.ref d), some (.int m), none, some (.int M)] ∧ 0 ≤ M ∧ M < 2147483629 ∧ H6 = H5, ?_, ?_⟩
      · exact ⟨.int N, rfl, .int N, rfl, N, N, rfl, rfl, .inl ⟨by omega, by omega⟩, .int N, rfl, 69621, N, rfl, rfl, .inl ⟨by decide, by decide⟩, _, _, rfl, rfl, _, 7, rfl, rfl, _, 2147483629, rfl, rfl, show (0 : Int) < 2147483629 by decide, _, rfl, (mod_rng (by decide)).1, (mod_rng (by decide)).2, rfl⟩
      rintro σ' H6 ⟨M, rfl, hM0, hM1, rfl⟩
      refine ⟨.int M, rfl, .int M, rfl, M, M, rfl, rfl, .inl ⟨by omega, by omega⟩, _, 16807, rfl, rfl, _, 2147483587, rfl, rfl, show (0 : Int) < 2147483587 by decide, _, 64, rfl, rfl, ⟨by decide, by decide⟩, .int m, rfl, _, m, rfl, rfl, hm, ?_⟩
      exact q _ _ (mod_rng hm).1 (mod_rng hm).2 ⟨g, st, n + 1, hd2, by omega⟩ k2
/-! ### the well is laid -/
theorem cutV_len (xs : List V) : (cutV xs none (some 63)).length ≤ xs.length := by
  unfold cutV
  rw [List.length_take, List.length_drop]
  omega
def spWell (K : PySem.W.Frag) : Sp := fun vs H Q _ => ∃ (a : Addr) (ns : List Int) (k : Nat), vs = [.ref a, .int k] ∧ SqL K H a (ns.map V.int) ∧ k < 1000 ∧
  ∀ d H', Same H H' → H d = none → Well H' d 3 → Q (.ref d) H'
theorem ok_l_well {f : Addr} {fd : FuncData} (F : Fun K "_law_well" "_law_well" s_l_well f fd) (M : Free mg) : FnOk P w K mg base CX0 1 f fd ["_law_script", "_law_k"] (spWell K) := by
  refine F.ok sc_l_well (fun vs H Q E h => ?_) (fun cdv A outer s H vs Q E hr h => ?_)
  · obtain ⟨a, ns, k, rfl, _⟩ := h
    rfl
  · obtain ⟨a, ns, k, rfl, hS, hk, q⟩ := h
    refine ⟨_, (pss_cons (ps_set (i := 2) sc_l_well.nd rfl (.inl rfl) pe_int)
      (Evl.pss_cut (ps_if (pt_cmpR op_lt (pv 1) (pe_callB call_len_seq (by rfl) M.len PySem.boot_len (pa_cons (pe_slice sl_list (pv 0) po_none (po_some pe_int)) pa_nil)) (nomark _))
        (pss_one (ps_set (i := 2) sc_l_well.nd rfl (.inl rfl) (pe_ix ix_list (pv 0) (pv 1) (fun _ _ => rfl))))
        pss_nil)
      (pss_cons (ps_set (i := 3) sc_l_well.nd rfl (.inl rfl) pe_int)
      (Evl.pss_cut (ps_if (pt_cmpR op_ge (pv 2) (pe_op op_pow pe_int pe_int) (nomark _))
        (pss_one (ps_set (i := 3) sc_l_well.nd rfl (.inl rfl) (pv 2)))
        pss_nil)
      (pss_one (ps_ret (pe_lst (pa_cons (pv 3) (pa_cons (pe_op op_mod (pe_op op_add (pe_op op_add (pv 2) (pe_op op_mul (pe_op op_mul pe_int (pv 1)) (pv 1))) pe_int) pe_int) (pa_cons pe_int pa_nil)))))))))), ?_⟩
    refine ⟨fun σ' H' => ∃ x : Int, σ' = [some (.ref a), some (.int k), some (.int x), none] ∧ Same H H', ?_, ?_⟩
    · refine ⟨.int k, rfl, .ref a, rfl, 63, rfl, a, _, rfl, hS, fun p np => ⟨p, _, rfl, .inl (SqL.of upd_same), k, _, rfl, rfl, _, rfl, ite2 (fun e => ?_) (fun e => ?_)⟩⟩
      · have hlt := of_decide_eq_true e
        have h2 := cutV_len (ns.map V.int)
        rw [List.length_map] at h2
        obtain ⟨x, _, _, hx⟩ := atI_ints (xs := ns) (i := k) (by omega) (by omega)
        exact ⟨.ref a, rfl, .int k, rfl, a, _, k, _, rfl, rfl, (same_new np).seq hS, hx, x, rfl, same_new np⟩
      · exact ⟨0, rfl, same_new np⟩
    rintro σ' H1 ⟨x, rfl, s1⟩
    refine ⟨fun σ' H' => ∃ y : Int, σ' = [some (.ref a), some (.int k), some (.int x), some (.int y)] ∧ H' = H1, ?_, ?_⟩
    · refine ⟨.int x, rfl, 10, 18, rfl, rfl, ⟨by decide, by decide, by decide⟩, x, _, rfl, rfl, _, rfl, ite2 (fun _ => ?_) (fun _ => ?_)⟩
      · exact ⟨.int x, rfl, x, rfl, rfl⟩
      · exact ⟨0, rfl, rfl⟩
    rintro σ' H2 ⟨y, rfl, rfl⟩
    refine ⟨.int y, rfl, .int x, rfl, .int k, rfl, 7919, k, rfl, rfl, .inl ⟨by decide, by decide⟩, .int k, rfl, _, k, rfl, rfl, .inr ⟨by omega, by omega⟩, _, _, rfl, rfl, _, 48271, rfl, rfl, _, 2147483629, rfl, rfl, show (0 : Int) < 2147483629 by decide, by show 3 ≤ sizeLine; decide, fun d nd => ?_⟩
    exact q d _ (s1.trans (same_new nd)) (s1.free nd) ⟨y, _, 3, upd_same, Nat.le_refl _⟩
theorem ok_l_web {f : Addr} {fd : FuncData} (F : Fun K "_law_web" "_law_web" s_l_web f fd) (M : Free mg) (Dd : Df P w K mg base 1 "_law_draw" ["_law_well_here", "_law_most"] spDraw) : FnOk P w K mg base CX0 2 f fd ["_law_well_here"] spWeb := by
  obtain ⟨fD, fdD, GD, gD, kD, bD⟩ := Dd
  refine F.ok sc_l_web (fun vs H Q E h => ?_) (fun cdv A outer s H vs Q E hr h => ?_)
  · obtain ⟨d, b, rfl, _⟩ := h
    rfl
  · obtain ⟨d, b, rfl, hD, hB, q⟩ := h
    refine ⟨_, (Evl.pss_cut (ps_set (i := 1) sc_l_web.nd rfl (.inl rfl) (pe_callTy call_int1 (by rfl) M.int (by decide +kernel) (pa_cons (pe_cmpR op_eq (pe_call GD hr (by rfl) gD kD bD .nil pass0 (pa_cons (pv 0) (pa_cons pe_int pa_nil))) pe_int (nomark _)) pa_nil)))
      (Evl.pss_cut (ps_set (i := 2) sc_l_web.nd rfl (.inl rfl) (pe_op op_add pe_int (pe_call GD hr (by rfl) gD kD bD .nil pass0 (pa_cons (pv 0) (pa_cons (pe_ix ix_list (pe_lst (pa_cons pe_int (pa_cons pe_int pa_nil))) (pv 1) (fun _ _ => rfl)) pa_nil)))))
      (pss_cons (ps_set (i := 3) sc_l_web.nd rfl (.inl rfl) (pe_lst pa_nil))
      (pss_cons (ps_for PassesOwn.never rfl (pi_range1 (by rfl) M.range (pa_cons (pe_op op_mul (pe_call GD hr (by rfl) gD kD bD .nil pass0 (pa_cons (pv 0) (pa_cons (pe_ix ix_list (pe_lst (pa_cons pe_int (pa_cons pe_int pa_nil))) (pv 1) (fun _ _ => rfl)) pa_nil))) (pe_callTy call_int1 (by rfl) M.int (by decide +kernel) (pa_cons (pe_cmpR op_gt (pv 2) pe_int (nomark _)) pa_nil))) pa_nil)) (pg_name (i := 4) sc_l_web.nd rfl (.inl rfl))
        (pss_cons (ps_set (i := 5) sc_l_web.nd rfl (.inl rfl) (pe_call GD hr (by rfl) gD kD bD .nil pass0 (pa_cons (pv 0) (pa_cons (pv 2) pa_nil))))
        (pss_cons (ps_set (i := 6) sc_l_web.nd rfl (.inl rfl) (pe_op op_mod (pe_op op_add (pe_op op_add (pv 5) pe_int) (pe_call GD hr (by rfl) gD kD bD .nil pass0 (pa_cons (pv 0) (pa_cons (pe_op op_sub (pv 2) pe_int) pa_nil)))) (pv 2)))
        (Evl.pss_cut (ps_if (PW.pt (pw_and (pt_cmpR (op_neE hr.units0) (pv 3) (pe_lst pa_nil) (nomark _)) (pw_and1 (pt_cmpR op_eq (pe_call GD hr (by rfl) gD kD bD .nil pass0 (pa_cons (pv 0) (pa_cons pe_int pa_nil))) pe_int (nomark _)))))
          (pss_cons (ps_asg (pe_ix ix_list (pv 3) (pe_call GD hr (by rfl) gD kD bD .nil pass0 (pa_cons (pv 0) (pa_cons (pe_callB call_len_seq (by rfl) M.len PySem.boot_len (pa_cons (pv 3) pa_nil)) pa_nil))) (fun _ _ => rfl)) (pg_tup rfl (pgs_cons (pg_name (i := 5) sc_l_web.nd rfl (.inl rfl)) (pgs_cons (pg_name (i := 6) sc_l_web.nd rfl (.inl rfl)) (pgs_cons (pg_name (i := 7) sc_l_web.nd rfl (.inl rfl)) pgs_nil)))))
          (pss_one (ps_if (pt_cmpR op_eq (pe_call GD hr (by rfl) gD kD bD .nil pass0 (pa_cons (pv 0) (pa_cons pe_int pa_nil))) pe_int (nomark _))
            (pss_one (ps_par (i := 5) (j := 6) rfl sc_l_web.nd rfl rfl (by decide) rfl rfl (pa_cons (pv 6) (pa_cons (pv 5) pa_nil)) rfl))
            pss_nil)))
          pss_nil)
        (pss_one (ps_expr (pe_bm PySem.F.plainAttrs_list PySem.F.slot_list_append PySem.F.type_list_append mt_append (pv 3) (pa_cons (pe_tup (pa_cons (pv 5) (pa_cons (pv 6) (pa_cons (pe_ix ix_list (pe_lst (pa_cons pe_str (pa_cons pe_str pa_nil))) (pe_call GD hr (by rfl) gD kD bD .nil pass0 (pa_cons (pv 0) (pa_cons pe_int pa_nil))) (fun _ _ => rfl)) pa_nil)))) pa_nil))))))))
      (pss_one (ps_ret (pe_tup (pa_cons (pv 2) (pa_cons (pe_callTy call_tuple_of (by rfl) M.tuple (by decide +kernel) (pa_cons (pv 3) pa_nil)) pa_nil))))))))), ?_⟩
    -- great
    refine ⟨fun σ' H' => ∃ g : Bool, σ' = [some (.ref d), some (.int (if g = true then 1 else 0)), none, none, none, none, none, none] ∧ Well H' d (b + 1) ∧ Kp d d H H', ⟨.ref d, rfl, d, b, 8, rfl, hD, by omega, by decide, by decide, fun v1 H1 a1 b1 D1 K1 => ⟨rfl, .inr ⟨_, rfl, _, rfl, D1, K1⟩⟩⟩, ?_⟩
    rintro σ' H1 ⟨g, rfl, D1, K1⟩
    -- many
    refine ⟨fun σ' H' => ∃ n : Int, σ' = [some (.ref d), some (.int (if g = true then 1 else 0)), some (.int n), none, none, none, none, none] ∧ 1 ≤ n ∧ n ≤ 40 ∧ Well H' d (b + 2) ∧ Kp d d H H', ?_, ?_⟩
    · refine ⟨.ref d, rfl, by show 2 ≤ sizeLine; decide, fun p np => ?_⟩
      cases g
      · exact ⟨.int 0, rfl, p, _, 0, .int 6, rfl, rfl, SqL.of upd_same, rfl, d, b + 1, 6, rfl, D1.new np, by omega, by decide, by decide, fun v H2 a b D2 K2 => ⟨1, v, rfl, rfl, _, rfl, by omega, by omega, D2, (K1.trans (Kp.new np)).trans K2⟩⟩
      · exact ⟨.int 1, rfl, p, _, 1, .int 40, rfl, rfl, SqL.of upd_same, rfl, d, b + 1, 40, rfl, D1.new np, by omega, by decide, by decide, fun v H2 a b D2 K2 => ⟨1, v, rfl, rfl, _, rfl, by omega, by omega, D2, (K1.trans (Kp.new np)).trans K2⟩⟩
    clear D1 K1 H1
    rintro σ' H1 ⟨n, rfl, hn1, hn2, D1, K1⟩
    obtain ⟨k, rfl⟩ : ∃ k : Nat, n = k := ⟨n.toNat, by omega⟩
    -- ties = []
    refine ⟨Nat.zero_le _, fun L nL => ?_⟩
    have hLd := D1.ned nL
    have nL0 := K1.free nL hLd hLd
    have s1 : Same H1 (upd H1 L (.lst [])) := same_new nL
    have hL1 : (upd H1 L (.lst [])) L = some (.lst []) := upd_same
    have K1' : Kp d d H (upd H1 L (.lst [])) := K1.trans (Kp.new nL)
    have D1' := D1.same s1
    generalize upd H1 L (.lst []) = H2 at s1 hL1 K1' D1'
    -- how many
    refine ⟨.ref d, rfl, by show 2 ≤ sizeLine; decide, fun p np => ?_⟩
    have cnt : ∃ m : Int, atI [V.int 13, V.int 121] (if g = true then 1 else 0) = some (.int m) ∧ 0 < m ∧ m ≤ 121 := by
      cases g
      · exact ⟨13, rfl, by decide, by decide⟩
      · exact ⟨121, rfl, by decide, by decide⟩
    obtain ⟨m, em, hm0, hm1⟩ := cnt
    refine ⟨_, rfl, p, _, _, _, rfl, rfl, SqL.of upd_same, em, d, b + 2, m, rfl, D1'.new np, by omega, hm0, by omega, fun v H3 a3 b3 D3 K3 => ?_⟩
    refine ⟨.int k, rfl, k, 1, rfl, rfl, .inr ⟨_, rfl, v, _, rfl, rfl, .inl ⟨by omega, by omega⟩, _, rfl, ?_, ?_, ?_⟩⟩
    · by_cases hb : decide ((1 : Int) < k) = true
      · rw [hb]
        show -(2 ^ 62) ≤ v * 1
        omega
      · rw [Bool.not_eq_true] at hb
        rw [hb]
        show -(2 ^ 62) ≤ v * 0
        omega
    · by_cases hb : decide ((1 : Int) < k) = true
      · rw [hb]
        show v * 1 < 2 ^ 62
        omega
      · rw [Bool.not_eq_true] at hb
        rw [hb]
        show v * 0 < 2 ^ 62
        omega
    generalize hN : (v * (if decide ((1 : Int) < k) = true then 1 else 0)).toNat = N
    have hN2 : N ≤ 120 ∧ (0 < N → (1 : Int) < k) := by
      by_cases hb : (1 : Int) < k
      · rw [if_pos (decide_eq_true hb)] at hN
        exact ⟨by omega, fun _ => hb⟩
      · rw [if_neg (by simpa using hb)] at hN
        exact ⟨by omega, fun z => by omega⟩
    have K3' : Kp d d H H3 := (K1'.trans (Kp.new np)).trans K3
    have hL3 : H3 L = some (.lst []) := K3 _ _ hLd hLd (same_new np _ _ hL1)
    refine for_range (lo := 0) (n := N) (fun i σ' H' => ∃ (y4 y5 y6 y7 : Option V) (vs : List V) (ts : List Tie), σ' = [some (.ref d), some (.int (if g = true then 1 else 0)), some (.int k), some (.ref L), y4, y5, y6, y7] ∧ H' L = some (.lst vs) ∧ Paired (TieV H') vs ts ∧ ts.length = i ∧ (∀ t ∈ ts, TieOk k t) ∧ Well H' d (b + 3 + 6 * i) ∧ Kp d d H H') ?_ ?_ ?_
    · exact ⟨none, none, none, none, [], [], rfl, hL3, .nil, rfl, fun t ht => by simp at ht, D3, K3'⟩
    · clear K3' hL3 D3 K3
      rintro i σ' H4 hi ⟨y4, y5, y6, y7, vs, ts, rfl, hL, hP, hlen, hok, D4, K4⟩
      have hn := hN2.2 (by omega)
      refine ⟨.ref d, rfl, .int k, rfl, d, b + 3 + 6 * i, k, rfl, D4, by omega, by omega, by omega, fun v1 H5 a1 b1 D5 K5 => ?_⟩
      refine ⟨.int v1, rfl, v1, 1, rfl, rfl, .ref d, rfl, .int k, rfl, k, 1, rfl, rfl, d, b + 3 + 6 * i + 1, k - 1, rfl, D5, by omega, by omega, by omega, fun v2 H6 a2 b2 D6 K6 => ⟨v1 + 1, v2, rfl, rfl, .int k, rfl, _, k, rfl, rfl, show (0 : Int) < k by omega, ?_⟩⟩
      have hL6 : H6 L = some (.lst vs) := K6 _ _ hLd hLd (K5 _ _ hLd hLd hL)
      have hP6 : Paired (TieV H6) vs ts := ties_tk ((K5.tk D4).trans (K6.tk D5)) hP
      have K46 : Kp d d H H6 := (K4.trans K5).trans K6
      -- as one ahead, either way about
      refine ⟨fun σ' H' => ∃ (y4 y7 : Option V) (t' : Tie), σ' = [some (.ref d), some (.int (if g = true then 1 else 0)), some (.int k), some (.ref L), y4, some (.int t'.one), some (.int t'.other), y7] ∧ TieOk k t' ∧ H' L = some (.lst vs) ∧ Paired (TieV H') vs ts ∧ Well H' d (b + 3 + 6 * i + 5) ∧ Kp d d H H', ?_, ?_⟩
      · have ok1 : TieOk k ⟨v1, (v1 + 1 + v2) % k, false⟩ := ⟨a1, b1, (mod_rng (by omega)).1, (mod_rng (by omega)).2, other_ne a1 b1 a2 b2⟩
        refine ⟨.ref L, rfl, Nat.zero_le _, fun p np => ⟨L, p, vs, rfl, rfl, SqL.of (same_new np _ _ hL6), SqL.of upd_same, _, rfl, ?_⟩⟩
        by_cases hvs : vs = []
        · subst hvs
          exact ⟨_, _, ⟨v1, (v1 + 1 + v2) % k, false⟩, rfl, ok1, same_new np _ _ hL6, ties_tk (Same.tk (same_new np)) hP6, (D6.new np).mono (by omega), K46.trans (Kp.new np)⟩
        · have hpos : 0 < vs.length := List.length_pos_iff.mpr hvs
          have hb : (!vs.isEmpty) = true := by
            cases vs with
            | nil => exact absurd rfl hvs
            | cons z zs => rfl
          rw [hb]
          refine ⟨.ref d, rfl, d, _, 4, rfl, D6.new np, by omega, by decide, by decide, fun v3 H7 a3 b3 D7 K7 => ⟨rfl, _, rfl, ?_⟩⟩
          have hL7 : H7 L = some (.lst vs) := K7 _ _ hLd hLd (same_new np _ _ hL6)
          have hP7 : Paired (TieV H7) vs ts := ties_tk (K7.tk (D6.new np)) (ties_tk (Same.tk (same_new np)) hP6)
          have K17 : Kp d d H H7 := (K46.trans (Kp.new np)).trans K7
          refine ite2 (fun _ => ?_) (fun _ => ?_)
          · have hlv : vs.length = ts.length := Paired.length hP7
            refine ⟨.ref L, rfl, .ref d, rfl, .ref L, rfl, L, vs, rfl, .inl (SqL.of hL7), d, _, vs.length, rfl, D7, by omega, by omega, by omega, fun v4 H8 a4 b4 D8 K8 => ?_⟩
            have hL8 : H8 L = some (.lst vs) := K8 _ _ hLd hLd hL7
            have hP8 : Paired (TieV H8) vs ts := ties_tk (K8.tk D7) hP7
            obtain ⟨v, e1, e2⟩ := getI a4 b4
            obtain ⟨t', e3, a, rfl, e4⟩ := Paired.at hP8 e2
            have okt : TieOk k t' := hok t' (List.mem_of_getElem? e3)
            refine ⟨L, vs, v4, _, rfl, rfl, SqL.of hL8, e1, a, _, rfl, SqT.of e4, rfl, _, _, rfl, _, _, rfl, _, _, rfl, rfl, ?_⟩
            refine ⟨.ref d, rfl, d, _, 2, rfl, D8, by omega, by decide, by decide, fun v5 H9 a5 b5 D9 K9 => ⟨rfl, _, rfl, ?_⟩⟩
            have hL9 : H9 L = some (.lst vs) := K9 _ _ hLd hLd hL8
            have hP9 : Paired (TieV H9) vs ts := ties_tk (K9.tk D8) hP8
            have K19 : Kp d d H H9 := (K17.trans K8).trans K9
            refine ite2 (fun _ => ?_) (fun _ => ?_)
            · exact ⟨.int t'.other, rfl, .int t'.one, rfl, _, _, rfl, _, _, ⟨t'.other, t'.one, false⟩, rfl, ⟨okt.2.2.1, okt.2.2.2.1, okt.1, okt.2.1, Ne.symm okt.2.2.2.2⟩, hL9, hP9, D9, K19⟩
            · exact ⟨_, _, t', rfl, okt, hL9, hP9, D9, K19⟩
          · exact ⟨_, _, ⟨v1, (v1 + 1 + v2) % k, false⟩, rfl, ok1, hL7, hP7, D7.mono (by omega), K17⟩
      clear hL6 hP6 K46 D6 K6 K5 D5
      rintro σ' H6 ⟨y4', y7', t', rfl, okt, hL6, hP6, D6, K6⟩
      -- append
      refine ⟨.ref L, rfl, .inl ⟨rfl, _, SqL.of hL6⟩, .int t'.one, rfl, .int t'.other, rfl, by show 2 ≤ sizeLine; decide, fun p np => ?_⟩
      refine ⟨.ref d, rfl, d, _, 2, rfl, D6.new np, by omega, by decide, by decide, fun v7 H7 a7 b7 D7 K7 => ?_⟩
      have hp : p ≠ d := D6.ned np
      have fo : ∃ fo : Bool, atI [V.str "friend", V.str "foe"] v7 = some (.str (kindS fo)) := by
        have h01 : v7 = 0 ∨ v7 = 1 := by omega
        rcases h01 with e | e <;> subst e
        · exact ⟨false, rfl⟩
        · exact ⟨true, rfl⟩
      obtain ⟨fo, e5⟩ := fo
      refine ⟨p, _, v7, _, rfl, rfl, SqL.of (K7 _ _ hp hp upd_same), e5, by show 3 ≤ sizeLine; decide, fun q2 nq => ?_⟩
      have hL7 := same_new (o := .tup [.int t'.one, .int t'.other, .str (kindS fo)]) nq _ _ (K7 _ _ hLd hLd (same_new np _ _ hL6))
      have hP7 := ties_tk (Same.tk (same_new (o := .tup [.int t'.one, .int t'.other, .str (kindS fo)]) nq)) (ties_tk (K7.tk (D6.new np)) (ties_tk (Same.tk (same_new (o := .lst [.str "friend", .str "foe"]) np)) hP6))
      have hlv : vs.length = ts.length := Paired.length hP6
      refine ⟨L, vs, _, rfl, rfl, hL7, small1000 (by omega), ?_⟩
      refine ⟨_, _, _, _, vs ++ [.ref q2], ts ++ [⟨t'.one, t'.other, fo⟩], rfl, upd_same, Paired.snoc (ties_tk (tk_lst hL7) hP7) ⟨q2, rfl, tk_lst hL7 _ _ upd_same⟩, by rw [List.length_append, hlen]; rfl, fun t2 ht => ?_, ((D7.new nq).mut hLd).mono (by omega), (((K6.trans (Kp.new np)).trans K7).trans (Kp.new nq)).mut nL0⟩
      rcases List.mem_append.mp ht with h | h
      · exact hok t2 h
      · rw [List.mem_singleton.mp h]
        exact okt
    · rintro σ' H4 ⟨y4, y5, y6, y7, vs, ts, rfl, hL, hP, hlen, hok, D4, K4⟩
      refine ⟨.int k, rfl, .ref L, rfl, L, vs, rfl, .inl ⟨SqL.of hL, fun b nb => ⟨by show 2 ≤ sizeLine; decide, fun a na => ?_⟩⟩⟩
      have s2 := (same_new (o := .tup vs) nb).trans (same_new (o := .tup [.int k, .ref b]) na)
      exact q _ k ts _ ⟨a, b, vs, rfl, upd_same, same_new na _ _ upd_same, ties_tk (Same.tk s2) hP⟩ ⟨hn1, hn2, by omega, hok⟩ ((D4.same s2).mono (by omega)) (K4.trans (Same.kp s2))
end
/-! ### tuples cut and put together -/
section
variable {X : Cx}
theorem cutV_whole {xs : List V} {lo hi : Option Int} (h : HT.sIx xs.length 0 lo = 0 ∧ HT.sIx xs.length xs.length hi = xs.length) : cutV xs lo hi = xs := by
  unfold cutV
  rw [h.1, h.2]
  simp
def rSlU : V → Option Int → Option Int → Hp → VK → Prop := fun x lo hi H Q => ∃ a xs, x = .ref a ∧ H a = some (.tup xs) ∧ ∀ r H', Same H H' → H' r = some (.tup (cutV xs lo hi)) → Q (.ref r) H'
theorem sl_tupU : SlR X rSlU := by
  intro pins s σ H x v vl vu lo hi sl Q I rx hs pl pu h
  obtain ⟨a, xs, rfl, hx, q⟩ := h
  refine sl_tupA pins s σ H _ v vl vu lo hi sl Q I rx hs pl pu ⟨a, xs, rfl, SqT.of hx, fun hw => ?_, fun _ p np => ?_⟩
  · exact q a H (Same.refl H) (by rw [cutV_whole hw]; exact hx)
  · exact q p _ (same_new np) upd_same
def rCatU : R2 := fun x y H Q => ∃ a b xs ys, x = .ref a ∧ y = .ref b ∧ H a = some (.tup xs) ∧ H b = some (.tup ys) ∧ xs.length + ys.length ≤ 100000 ∧ ∀ r H', Same H H' → H' r = some (.tup (xs ++ ys)) → Q (.ref r) H'
theorem op_catU : OpR X (binaryOp .Add) rCatU := by
  intro pins s σ H x y v u Q I rx ry h
  obtain ⟨a, b, xs, ys, rfl, rfl, ha, hb, hz, q⟩ := h
  refine op_catA pins s σ H _ _ v u Q I rx ry ⟨a, b, xs, ys, rfl, rfl, SqT.of ha, SqT.of hb, Evl.sz_of hz, fun e => ?_, fun _ e => ?_, fun _ _ p np => ?_⟩
  · subst e
    exact q b H (Same.refl H) hb
  · subst e
    exact q a H (Same.refl H) (by rw [List.append_nil]; exact ha)
  · exact q p _ (same_new np) upd_same
end
/-! ### things of any kind -/
/-- its kind is known -/
def Kn (H : Hp) : V → Prop
  | .non => True
  | .bl _ => True
  | .int _ => True
  | .str _ => True
  | .ref a => (∃ xs, H a = some (.lst xs)) ∨ (∃ xs, H a = some (.tup xs)) ∨ ∃ kvs, H a = some (.dK kvs)
  | _ => False
def isI : V → Bool
  | .int _ => true
  | .bl _ => true
  | _ => false
def isB : V → Bool
  | .bl _ => true
  | _ => false
def isW : V → Bool
  | .int _ => true
  | _ => false
def isT (H : Hp) : V → Bool
  | .ref a => match H a with
    | some (.tup _) => true
    | _ => false
  | _ => false
section
variable {K : PySem.W.Frag} {H : Hp}
theorem kn_int {v : V} (h : Kn H v) : ∃ t, TyX K H v t ∧ PySem.W.kitOne K t (.type "int") = some (isI v) := by
  cases v with
  | non => exact ⟨_, .base .non, kit_ty (r := false) (by decide +kernel)⟩
  | bl b => exact ⟨_, .base (.bl b), kit_ty (r := true) (by decide +kernel)⟩
  | int i => exact ⟨_, .base (.int i), kit_ty (r := true) (by decide +kernel)⟩
  | str x => exact ⟨_, .base (.str x), kit_ty (r := false) (by decide +kernel)⟩
  | ref a =>
    rcases h with ⟨xs, h⟩ | ⟨xs, h⟩ | ⟨xs, h⟩
    · exact ⟨_, .base (.lst h), kit_ty (r := false) (by decide +kernel)⟩
    · exact ⟨_, .base (.tup h), kit_ty (r := false) (by decide +kernel)⟩
    · exact ⟨_, .base (.dK h), kit_ty (r := false) (by decide +kernel)⟩
  | byt b => exact h.elim
  | flt b => exact h.elim
  | ty n => exact h.elim
theorem kn_bool {v : V} (h : Kn H v) : ∃ t, TyX K H v t ∧ PySem.W.kitOne K t (.type "bool") = some (isB v) := by
  cases v with
  | non => exact ⟨_, .base .non, kit_ty (r := false) (by decide +kernel)⟩
  | bl b => exact ⟨_, .base (.bl b), kit_ty (r := true) (by decide +kernel)⟩
  | int i => exact ⟨_, .base (.int i), kit_ty (r := false) (by decide +kernel)⟩
  | str x => exact ⟨_, .base (.str x), kit_ty (r := false) (by decide +kernel)⟩
  | ref a =>
    rcases h with ⟨xs, h⟩ | ⟨xs, h⟩ | ⟨xs, h⟩
    · exact ⟨_, .base (.lst h), kit_ty (r := false) (by decide +kernel)⟩
    · exact ⟨_, .base (.tup h), kit_ty (r := false) (by decide +kernel)⟩
    · exact ⟨_, .base (.dK h), kit_ty (r := false) (by decide +kernel)⟩
  | byt b => exact h.elim
  | flt b => exact h.elim
  | ty n => exact h.elim
theorem kn_tup {v : V} (h : Kn H v) : ∃ t, TyX K H v t ∧ PySem.W.kitOne K t (.type "tuple") = some (isT H v) := by
  cases v with
  | non => exact ⟨_, .base .non, kit_ty (r := false) (by decide +kernel)⟩
  | bl b => exact ⟨_, .base (.bl b), kit_ty (r := false) (by decide +kernel)⟩
  | int i => exact ⟨_, .base (.int i), kit_ty (r := false) (by decide +kernel)⟩
  | str x => exact ⟨_, .base (.str x), kit_ty (r := false) (by decide +kernel)⟩
  | ref a =>
    unfold isT
    rcases h with ⟨xs, h⟩ | ⟨xs, h⟩ | ⟨xs, h⟩
    · exact ⟨_, .base (.lst h), by simp only [h]; exact kit_ty (r := false) (by decide +kernel)⟩
    · exact ⟨_, .base (.tup h), by simp only [h]; exact kit_ty (r := true) (by decide +kernel)⟩
    · exact ⟨_, .base (.dK h), by simp only [h]; exact kit_ty (r := false) (by decide +kernel)⟩
  | byt b => exact h.elim
  | flt b => exact h.elim
  | ty n => exact h.elim
theorem isT_at {v : V} (h : isT H v = true) : ∃ a xs, v = .ref a ∧ H a = some (.tup xs) := by
  cases v with
  | ref a =>
    unfold isT at h
    cases e : H a with
    | none => simp only [e] at h; cases h
    | some o =>
      cases o with
      | tup xs => exact ⟨a, xs, rfl, e⟩
      | _ => simp only [e] at h; cases h
  | _ => cases h
theorem isT_of {a : Addr} {xs : List V} (h : H a = some (.tup xs)) : isT H (.ref a) = true := by
  unfold isT
  simp only [h]
end
section
variable {P : Program} {w : World} {K : PySem.W.Frag} {mg : Str → Option Value} {base : Heap}
def spWhole : Sp := fun vs H Q _ => ∃ v, vs = [v] ∧ Kn H v ∧ Q (.bl (isW v)) H
theorem and_whole {v : V} : (isI v && !isB v) = isW v := by cases v <;> rfl
def wfrom (lo : Int) : V → Bool
  | .int i => decide (lo ≤ i)
  | _ => false
def parts (H : Hp) : V → Option (List V)
  | .ref a => match H a with
    | some (.tup xs) => some xs
    | _ => none
  | _ => none
theorem parts_of' {H : Hp} {a : Addr} {xs : List V} (h : H a = some (.tup xs)) : parts H (.ref a) = some xs := by
  unfold parts
  simp only [h]
theorem parts_none {H : Hp} {v : V} (h : isT H v = false) : parts H v = none := by
  cases v with
  | ref a =>
    unfold isT at h
    unfold parts
    cases e : H a with
    | none => simp only [e]
    | some o =>
      cases o with
      | tup xs => simp only [e] at h; cases h
      | _ => simp only [e]
  | _ => rfl
def lenIs (H : Hp) (v : V) (n : Int) : Bool := match parts H v with
  | some xs => decide ((xs.length : Int) = n)
  | none => false
def spTupleOf : Sp := fun vs H Q _ => ∃ n v, vs = [.int n, v] ∧ Kn H v ∧ Q (.bl (lenIs H v n)) H
theorem dec_int (a b : Int) : decide (V.int a = V.int b) = decide (a = b) := by
  by_cases h : a = b
  · rw [decide_eq_true h, h, decide_eq_true rfl]
  · rw [decide_eq_false h, decide_eq_false (fun z => h (V.int.inj z))]
/-! ### a def whose code object stands at c: its own table is at Pt -/
structure FunC (K : PySem.W.Frag) (x qual : Str) (st : Stmt) (f : Addr) (fd : FuncData) (c : Addr) : Prop where
  ex : ∃ (oc : Value) (od : Option Addr) (kV doc pm : Value) (an : Option Addr) (ct : Value) (osl : Array (Option Value)),
    fd = PySem.W.fnOf x qual (defArgs st) (defBody st) (defScope st) .none kV doc pm an (.ref c) ct ∧ K.lookup f = some ⟨oc, od, .func fd, osl⟩ ∧ PySem.W.codeIn K (.ref c) qual = true
  kp : PySem.W.keepIn K (.ref f) = true
theorem FunC.ok {x qual : Str} {st : Stmt} {f c : Addr} {fd : FuncData} {N ps : List Str} {k : Nat} {sp : Sp} (F : FunC K x qual st f fd c) (S : FnScope N ps (defScope st)) (len : ∀ vs H Q E, sp vs H Q E → vs.length = ps.length)
    (hbody : ∀ (A : Around) (outer : List Env) (s : Shared) (H : Hp) (vs : List V) (Q : VK) (E : XK), Room k (A.deeper (envOfC qual (defScope st) s.heap.objs.size f (.ref c))) → sp vs H Q E →
      ∃ t, PSs (cxOf CX0 P w K mg base N qual (defScope st) f (.ref c) A outer s H E).nox (defBody st) t ∧ t { nx := fun _ H' => Q .non H', rt := Q } (start N vs) H) : FnOk P w K mg base CX0 (k + 1) f fd ps sp := by
  obtain ⟨oc, od, kV, doc, pm, an, ct, osl, rfl, lk, hcd⟩ := F.ex
  refine fn_of lk hcd S len fun A outer s H vs Q E hr hsp => ?_
  obtain ⟨t, h, q⟩ := hbody A outer s H vs Q E hr hsp
  exact ⟨t, h.nox, q⟩
theorem FunC.fn {x qual : Str} {st : Stmt} {f c : Addr} {fd : FuncData} (F : FunC K x qual st f fd c) : Fun K x qual st f fd := by
  obtain ⟨oc, od, kV, doc, pm, an, ct, osl, rfl, lk, hcd⟩ := F.ex
  exact ⟨⟨oc, od, kV, doc, pm, an, _, ct, osl, rfl, lk, hcd⟩, F.kp⟩
end
/-! ### all but the tables is kept -/
structure Kt (Ps : List Addr) (H H' : Hp) : Prop where
  tab : ∀ P ∈ Ps, GxR.TabG H' P
  keep : ∀ b o, b ∉ Ps → H b = some o → H' b = some o
def Tabs (Ps : List Addr) (H : Hp) : Prop := ∀ P ∈ Ps, GxR.TabG H P
theorem Kt.refl {Ps : List Addr} {H : Hp} (h : Tabs Ps H) : Kt Ps H H := ⟨h, fun _ _ _ e => e⟩
theorem Kt.trans {Ps : List Addr} {H H1 H2 : Hp} (a : Kt Ps H H1) (b : Kt Ps H1 H2) : Kt Ps H H2 := ⟨b.tab, fun x o h e => b.keep x o h (a.keep x o h e)⟩
theorem Kt.same {Ps : List Addr} {H H' : Hp} (h : Tabs Ps H) (s : Same H H') : Kt Ps H H' := ⟨fun P hP => by obtain ⟨ps, e, t⟩ := h P hP; exact ⟨ps, s _ _ e, t⟩, fun b o _ e => s b o e⟩
theorem Kt.tabbed {Ps : List Addr} {P : Addr} {H H' : Hp} (h : Tabs Ps H) (hP : P ∈ Ps) (t : GxR.Tabbed P H H') : Kt Ps H H' := by
  refine ⟨fun Q hQ => ?_, fun b o hb e => ?_⟩
  · by_cases e : Q = P
    · rw [e]
      exact t.1
    · obtain ⟨ps, e1, t1⟩ := h Q hQ
      exact ⟨ps, by rw [t.2 Q e]; exact e1, t1⟩
  · rw [t.2 b (fun z => hb (by rw [z]; exact hP))]
    exact e
theorem Tabs.out {Ps : List Addr} {H : Hp} {a : Addr} {o : HO} (t : Tabs Ps H) (h : H a = some o) (no : ∀ ps, o ≠ .tbl ps) : a ∉ Ps := fun z => by
  obtain ⟨ps, e, _⟩ := t a z
  rw [e] at h
  cases h
  exact no _ rfl
theorem Kt.tup {Ps : List Addr} {a : Addr} {H H' : Hp} {xs : List V} (k : Kt Ps H H') (t : Tabs Ps H) (h : H a = some (.tup xs)) : H' a = some (.tup xs) := k.keep a _ (t.out h fun _ z => by cases z) h
theorem Kt.lst {Ps : List Addr} {a : Addr} {H H' : Hp} {xs : List V} (k : Kt Ps H H') (t : Tabs Ps H) (h : H a = some (.lst xs)) : H' a = some (.lst xs) := k.keep a _ (t.out h fun _ z => by cases z) h
theorem Kt.dct {Ps : List Addr} {a : Addr} {H H' : Hp} {xs : List (Key × V)} (k : Kt Ps H H') (t : Tabs Ps H) (h : H a = some (.dK xs)) : H' a = some (.dK xs) := k.keep a _ (t.out h fun _ z => by cases z) h
theorem Kt.tk {Ps : List Addr} {H H' : Hp} (k : Kt Ps H H') (t : Tabs Ps H) : Tk H H' := fun _ _ e => k.tup t e
theorem Kt.kn {Ps : List Addr} {H H' : Hp} (k : Kt Ps H H') (t : Tabs Ps H) {v : V} (h : Kn H v) : Kn H' v := by
  cases v with
  | ref a =>
    rcases h with ⟨xs, h⟩ | ⟨xs, h⟩ | ⟨xs, h⟩
    · exact .inl ⟨xs, k.lst t h⟩
    · exact .inr (.inl ⟨xs, k.tup t h⟩)
    · exact .inr (.inr ⟨xs, k.dct t h⟩)
  | _ => exact h
theorem Kt.well {Ps : List Addr} {d : Addr} {b : Nat} {H H' : Hp} (k : Kt Ps H H') (t : Tabs Ps H) (D : Well H d b) : Well H' d b := by
  obtain ⟨g, st, n, e1, e2⟩ := D
  exact ⟨g, st, n, k.lst t e1, e2⟩
theorem Tabs.kp {Ps : List Addr} {d : Addr} {b : Nat} {H H' : Hp} (t : Tabs Ps H) (k : Kp d d H H') (D : Well H d b) : Tabs Ps H' := fun P hP => by
  obtain ⟨ps, e, x⟩ := t P hP
  obtain ⟨g, st, n, e1, e2⟩ := D
  have ne : P ≠ d := ne_of e e1 (by intro z; cases z)
  exact ⟨ps, k _ _ ne ne e, x⟩
theorem Tabs.same {Ps : List Addr} {H H' : Hp} (t : Tabs Ps H) (s : Same H H') : Tabs Ps H' := (Kt.same t s).tab
theorem Tabs.new {Ps : List Addr} {H : Hp} {a : Addr} {o : HO} (t : Tabs Ps H) (h : H a = none) : Tabs Ps (upd H a o) := t.same (same_new h)
/-! ### x in t of data of any depth -/
def rInT (K : PySem.W.Frag) : R2 := fun x y H Q => ∃ d ds, Dp K H x d ∧ Dp K H y (.tuple ds) ∧ SeqAt.shaped d = true ∧ SeqAt.shaped (.tuple ds) = true ∧ Q (.bl (ds.any fun z => PyData.eqv z d)) H
theorem op_inTup {X : Cx} (hu : X.A.units + 65 < cLine) : OpR X (compareOp .In) (rInT X.K) := by
  intro pins s σ H x y v u Q I rx ry want
  obtain ⟨d, ds, hd, he, sd, se, q⟩ := want
  obtain ⟨as, r1⟩ := Dp.reads I d x v hd rx
  obtain ⟨bs, r2⟩ := Dp.reads I (.tuple ds) y u he ry
  have lay : PyData.canLayAll0 ds = true := by
    have z := SeqAt.canLay_of_shaped se
    rw [PyData.canLay0] at z
    exact z
  have deep := SeqAt.depth_of_shaped sd
  exact SeqAt.in_tuple_reads r2 r1 lay (SeqAt.canLay_of_shaped sd) (by omega) ⟨.bl _, H, I, rfl, q⟩
/-! ### ties, walks, parts: the mathematics -/
def Adj (ts : List Tie) (a b : Int) (foe : Bool) : Prop := ∃ t ∈ ts, t.foe = foe ∧ ((t.one = a ∧ t.other = b) ∨ (t.one = b ∧ t.other = a))
theorem Adj.symm {ts : List Tie} {a b : Int} {k : Bool} (h : Adj ts a b k) : Adj ts b a k := by
  obtain ⟨t, ht, e, h⟩ := h
  exact ⟨t, ht, e, h.symm⟩
/-- a walk with so many foes, even or odd -/
inductive RP (ts : List Tie) (a : Int) : Int → Bool → Prop
  | nil : RP ts a a false
  | step {b c : Int} {p k : Bool} : RP ts a b p → Adj ts b c k → RP ts a c (p ^^ k)
def Rch (ts : List Tie) (a b : Int) : Prop := ∃ p, RP ts a b p
theorem RP.trans {ts : List Tie} {a b c : Int} {p q : Bool} (h : RP ts a b p) (g : RP ts b c q) : RP ts a c (p ^^ q) := by
  induction g with
  | nil =>
    rw [Bool.xor_false]
    exact h
  | step _ k ih =>
    rw [← Bool.xor_assoc]
    exact ih.step k
theorem RP.one {ts : List Tie} {a b : Int} {k : Bool} (h : Adj ts a b k) : RP ts a b k := by
  have q := RP.nil.step h
  rw [Bool.false_xor] at q
  exact q
theorem RP.symm {ts : List Tie} {a b : Int} {p : Bool} (h : RP ts a b p) : RP ts b a p := by
  induction h with
  | nil => exact .nil
  | step _ k ih =>
    have q := (RP.one k.symm).trans ih
    rw [Bool.xor_comm] at q
    exact q
theorem Rch.refl {ts : List Tie} {a : Int} : Rch ts a a := ⟨_, .nil⟩
theorem Rch.symm {ts : List Tie} {a b : Int} (h : Rch ts a b) : Rch ts b a := by
  obtain ⟨p, h⟩ := h
  exact ⟨p, h.symm⟩
theorem Rch.trans {ts : List Tie} {a b c : Int} (h : Rch ts a b) (g : Rch ts b c) : Rch ts a c := by
  obtain ⟨p, h⟩ := h
  obtain ⟨q, g⟩ := g
  exact ⟨_, h.trans g⟩
theorem Rch.adj {ts : List Tie} {a b : Int} {k : Bool} (h : Adj ts a b k) : Rch ts a b := ⟨_, RP.one h⟩
theorem Rch.ind {ts : List Tie} {a b : Int} (C : Int → Prop) (h : Rch ts a b) (h0 : C a) (hs : ∀ x y k, C x → Adj ts x y k → C y) : C b := by
  obtain ⟨p, h⟩ := h
  induction h with
  | nil => exact h0
  | step _ k ih => exact hs _ _ _ ih k
theorem Adj.rng {ts : List Tie} {n a b : Int} {k : Bool} (ok : ∀ t ∈ ts, TieOk n t) (h : Adj ts a b k) : 0 ≤ b ∧ b < n := by
  obtain ⟨t, ht, _, h⟩ := h
  obtain ⟨h1, h2, h3, h4, _⟩ := ok t ht
  rcases h with ⟨e1, e2⟩ | ⟨e1, e2⟩
  · omega
  · omega
theorem Rch.rng {ts : List Tie} {n a b : Int} (ok : ∀ t ∈ ts, TieOk n t) (ha : 0 ≤ a ∧ a < n) (h : Rch ts a b) : 0 ≤ b ∧ b < n := h.ind (fun x => 0 ≤ x ∧ x < n) ha fun _ _ _ _ k => k.rng ok
def leader (ts : List Tie) (s : Int) : Prop := ∀ q, Rch ts s q → s ≤ q
/-- rising lists of the same numbers are one -/
theorem rising_ext : ∀ {xs ys : List Int}, xs.Pairwise (· < ·) → ys.Pairwise (· < ·) → (∀ z, z ∈ xs ↔ z ∈ ys) → xs = ys
  | [], [], _, _, _ => rfl
  | [], y :: ys, _, _, h => by have := (h y).mpr (by simp); simp at this
  | x :: xs, [], _, _, h => by have := (h x).mp (by simp); simp at this
  | x :: xs, y :: ys, hx, hy, h => by
    rw [List.pairwise_cons] at hx hy
    have e : x = y := by
      have h1 := (h x).mp (by simp)
      have h2 := (h y).mpr (by simp)
      rcases List.mem_cons.mp h1 with e | e
      · exact e
      · rcases List.mem_cons.mp h2 with e' | e'
        · exact e'.symm
        · have := hx.1 y e'
          have := hy.1 x e
          omega
    subst e
    rw [rising_ext hx.2 hy.2 fun z => ?_]
    constructor
    · intro hz
      rcases List.mem_cons.mp ((h z).mp (List.mem_cons_of_mem _ hz)) with e | e
      · have := hx.1 z hz
        omega
      · exact e
    · intro hz
      rcases List.mem_cons.mp ((h z).mpr (List.mem_cons_of_mem _ hz)) with e | e
      · have := hy.1 z hz
        omega
      · exact e
/-- 0, 1, .., n - 1 -/
def rng (n : Nat) : List Int := (List.range n).map fun (i : Nat) => (i : Int)
theorem mem_rng {n : Nat} {z : Int} : z ∈ rng n ↔ 0 ≤ z ∧ z < n := by
  unfold rng
  rw [List.mem_map]
  constructor
  · rintro ⟨i, hi, rfl⟩
    have := List.mem_range.mp hi
    omega
  · rintro ⟨h1, h2⟩
    exact ⟨z.toNat, List.mem_range.mpr (by omega), by omega⟩
theorem rng_rising (n : Nat) : (rng n).Pairwise (· < ·) := by
  unfold rng
  rw [List.pairwise_map]
  exact List.pairwise_lt_range.imp (by intro a b h; omega)
theorem rng_succ (n : Nat) : rng (n + 1) = rng n ++ [(n : Int)] := by
  unfold rng
  rw [List.range_succ, List.map_append]
  rfl
theorem rng_length (n : Nat) : (rng n).length = n := by
  unfold rng
  rw [List.length_map, List.length_range]
open Classical in
/-- the part of s -/
noncomputable def partOf (ts : List Tie) (n : Nat) (s : Int) : List Int := (rng n).filter fun p => decide (Rch ts s p)
open Classical in
/-- the parts by their first places, below i -/
noncomputable def partsTo (ts : List Tie) (n i : Nat) : List (List Int) := ((rng i).filter fun s => decide (leader ts s)).map (partOf ts n)
open Classical in
theorem partsTo_succ (ts : List Tie) (n i : Nat) : partsTo ts n (i + 1) = partsTo ts n i ++ (if leader ts i then [partOf ts n i] else []) := by
  unfold partsTo
  rw [rng_succ, List.filter_append, List.map_append]
  congr 1
  by_cases h : leader ts (i : Int)
  · rw [if_pos h, List.filter_cons, if_pos (decide_eq_true h)]
    rfl
  · rw [if_neg h, List.filter_cons, if_neg (by simpa using h)]
    rfl
theorem part_rising (ts : List Tie) (n : Nat) (s : Int) : (partOf ts n s).Pairwise (· < ·) := (rng_rising n).filter _
theorem mem_part {ts : List Tie} {n : Nat} {s z : Int} : z ∈ partOf ts n s ↔ (0 ≤ z ∧ z < n) ∧ Rch ts s z := by
  unfold partOf
  rw [List.mem_filter, mem_rng]
  simp
/-! ### the least place that each comes to, gone over again and again -/
def relax (f : Int → Int) (t : Tie) : Int → Int := fun x => if x = t.one ∨ x = t.other then min (f t.one) (f t.other) else f x
def rounds (ts : List Tie) : Nat → Int → Int
  | 0 => fun x => x
  | r + 1 => ts.foldl relax (rounds ts r)
theorem relax_le (f : Int → Int) (t : Tie) (x : Int) : relax f t x ≤ f x := by
  unfold relax
  split
  · rename_i h
    rcases h with rfl | rfl <;> omega
  · exact Int.le_refl _
theorem fold_le : ∀ (l : List Tie) (f : Int → Int) (x : Int), l.foldl relax f x ≤ f x
  | [], _, _ => Int.le_refl _
  | t :: l, f, x => Int.le_trans (fold_le l (relax f t) x) (relax_le f t x)
theorem fold_tie : ∀ (l : List Tie) (f : Int → Int) (t : Tie), t ∈ l → l.foldl relax f t.one ≤ min (f t.one) (f t.other) ∧ l.foldl relax f t.other ≤ min (f t.one) (f t.other)
  | t' :: l, f, t, h => by
    rcases List.mem_cons.mp h with e | e
    · subst e
      have h1 := fold_le l (relax f t) t.one
      have h2 := fold_le l (relax f t) t.other
      have e1 : relax f t t.one = min (f t.one) (f t.other) := by unfold relax; rw [if_pos (.inl rfl)]
      have e2 : relax f t t.other = min (f t.one) (f t.other) := by unfold relax; rw [if_pos (.inr rfl)]
      rw [e1] at h1
      rw [e2] at h2
      exact ⟨h1, h2⟩
    · have ih := fold_tie l (relax f t') t e
      have h1 := relax_le f t' t.one
      have h2 := relax_le f t' t.other
      exact ⟨Int.le_trans ih.1 (by omega), Int.le_trans ih.2 (by omega)⟩
theorem fold_rch {ts : List Tie} : ∀ (l : List Tie) (f : Int → Int), (∀ t ∈ l, t ∈ ts) → (∀ x, Rch ts x (f x)) → ∀ x, Rch ts x (l.foldl relax f x)
  | [], _, _, h => h
  | t :: l, f, hl, h => fold_rch l (relax f t) (fun t' ht => hl t' (List.mem_cons_of_mem _ ht)) fun x => by
    have ad : Rch ts t.one t.other := Rch.adj (k := t.foe) ⟨t, hl t (by simp), rfl, .inl ⟨rfl, rfl⟩⟩
    unfold relax
    split
    · rename_i hx
      have key : Rch ts x t.one ∧ Rch ts x t.other := by
        rcases hx with e | e <;> subst e
        · exact ⟨Rch.refl, ad⟩
        · exact ⟨ad.symm, Rch.refl⟩
      rcases Int.le_total (f t.one) (f t.other) with q | q
      · rw [Int.min_eq_left q]
        exact key.1.trans (h _)
      · rw [Int.min_eq_right q]
        exact key.2.trans (h _)
    · exact h x
theorem rounds_rch (ts : List Tie) : ∀ (r : Nat) (x : Int), Rch ts x (rounds ts r x)
  | 0, _ => Rch.refl
  | r + 1, x => fold_rch ts _ (fun _ h => h) (rounds_rch ts r) x
theorem filter_lt {p q : Int → Bool} : ∀ {l : List Int}, (∀ x ∈ l, q x = true → p x = true) → (∃ x ∈ l, p x = true ∧ q x = false) → (l.filter q).length < (l.filter p).length
  | [], _, ⟨x, hx, _⟩ => by simp at hx
  | y :: l, hi, ⟨x, hx, hp, hq⟩ => by
    have mono : (l.filter q).length ≤ (l.filter p).length := by
      have hi' : ∀ x ∈ l, q x = true → p x = true := fun x h => hi x (List.mem_cons_of_mem _ h)
      clear hi hx hp hq
      induction l with
      | nil => exact Nat.le_refl _
      | cons z l ih =>
        have ih := ih fun x h => hi' x (List.mem_cons_of_mem _ h)
        rw [List.filter_cons, List.filter_cons]
        have hz := hi' z (by simp)
        cases h1 : q z <;> cases h2 : p z <;> simp_all <;> omega
    rw [List.filter_cons, List.filter_cons]
    rcases List.mem_cons.mp hx with e | e
    · subst e
      rw [hq, hp]
      simp
      omega
    · have ih := filter_lt (l := l) (fun x h => hi x (List.mem_cons_of_mem _ h)) ⟨x, e, hp, hq⟩
      have hy := hi y (by simp)
      cases h1 : q y <;> cases h2 : p y <;> simp_all <;> omega
open Classical in
/-- behind as many rounds as there are places each has its part's least place -/
theorem rounds_least {ts : List Tie} {n : Nat} (ok : ∀ t ∈ ts, TieOk n t) {m p : Int} (hm : leader ts m) (h0 : 0 ≤ m ∧ m < n) (hp : Rch ts m p) : rounds ts n p = m := by
  have ge : ∀ r x, Rch ts m x → m ≤ rounds ts r x := fun r x hx => hm _ (hx.trans (rounds_rch ts r x))
  have mono : ∀ r x, rounds ts (r + 1) x ≤ rounds ts r x := fun r x => fold_le ts _ x
  have atm : ∀ r, rounds ts r m = m := fun r => by
    have h1 := ge r m Rch.refl
    have h2 : rounds ts r m ≤ m := by
      induction r with
      | zero => exact Int.le_refl _
      | succ r ih => exact Int.le_trans (mono r m) (ih (ge r m Rch.refl))
    omega
  have cnt : ∀ r, ((rng n).filter fun x => decide (Rch ts m x ∧ rounds ts r x ≠ m)).length ≤ n - r := fun r => by
    induction r with
    | zero =>
      refine Nat.le_trans (List.length_filter_le _ _) ?_
      rw [rng_length]
      omega
    | succ r ih =>
      by_cases hex : ∃ x, Rch ts m x ∧ rounds ts r x ≠ m
      · obtain ⟨x, hx, hne⟩ := hex
        -- an edge over which it comes
        have edge : ∃ a b k, Rch ts m a ∧ rounds ts r a = m ∧ Adj ts a b k ∧ rounds ts r b ≠ m := by
          by_cases hn : ∃ a b k, Rch ts m a ∧ rounds ts r a = m ∧ Adj ts a b k ∧ rounds ts r b ≠ m
          · exact hn
          · exfalso
            refine hne (hx.ind (fun y => Rch ts m y ∧ rounds ts r y = m) ⟨Rch.refl, atm r⟩ fun a b k ha k' => ⟨ha.1.trans (Rch.adj k'), ?_⟩).2
            by_cases hb : rounds ts r b = m
            · exact hb
            · exact absurd ⟨a, b, k, ha.1, ha.2, k', hb⟩ hn
        obtain ⟨a, b, k, ha, ha2, hab, hb⟩ := edge
        have hmb : Rch ts m b := ha.trans (Rch.adj hab)
        have hb' : rounds ts (r + 1) b = m := by
          have h1 := ge (r + 1) b hmb
          obtain ⟨t, ht, _, h⟩ := hab
          have ft := fold_tie ts (rounds ts r) t ht
          have h2 : rounds ts (r + 1) b ≤ m := by
            rcases h with ⟨e1, e2⟩ | ⟨e1, e2⟩
            · have q := ft.2
              rw [e1, e2, ha2] at q
              exact Int.le_trans q (by omega)
            · have q := ft.1
              rw [e1, e2, ha2] at q
              exact Int.le_trans q (by omega)
          omega
        have lt := filter_lt (p := fun x => decide (Rch ts m x ∧ rounds ts r x ≠ m)) (q := fun x => decide (Rch ts m x ∧ rounds ts (r + 1) x ≠ m)) (l := rng n) (fun x _ hq => by
          have hq := of_decide_eq_true hq
          refine decide_eq_true ⟨hq.1, fun z => hq.2 ?_⟩
          have h1 := ge (r + 1) x hq.1
          have h2 := mono r x
          omega) ⟨b, mem_rng.mpr (hmb.rng ok h0), decide_eq_true ⟨hmb, hb⟩, decide_eq_false fun z => z.2 hb'⟩
        omega
      · have e : (rng n).filter (fun x => decide (Rch ts m x ∧ rounds ts (r + 1) x ≠ m)) = [] := by
          rw [List.filter_eq_nil_iff]
          intro x _ hq
          have hq := of_decide_eq_true hq
          refine hex ⟨x, hq.1, fun z => hq.2 ?_⟩
          have h1 := ge (r + 1) x hq.1
          have h2 := mono r x
          omega
        rw [e]
        exact Nat.zero_le _
  have c := cnt n
  rw [Nat.sub_self] at c
  have e := List.eq_nil_of_length_eq_zero (Nat.le_zero.mp c)
  by_cases hne : rounds ts n p = m
  · exact hne
  · rw [List.filter_eq_nil_iff] at e
    exact absurd (decide_eq_true ⟨hp, hne⟩) (e p (mem_rng.mpr (hp.rng ok h0)))
open Classical in
/-- each has a least place -/
theorem has_leader {ts : List Tie} {n : Nat} (ok : ∀ t ∈ ts, TieOk n t) {p : Int} (h0 : 0 ≤ p ∧ p < n) : ∃ m, leader ts m ∧ (0 ≤ m ∧ m < n) ∧ Rch ts m p := by
  have key : ∀ (k : Nat) (x : Int), x = k → Rch ts p x → ∃ m, leader ts m ∧ (0 ≤ m ∧ m < n) ∧ Rch ts m p := by
    intro k
    induction k using Nat.strongRecOn with
    | ind k ih =>
      intro x hx hr
      have hxr := hr.rng ok h0
      by_cases hl : leader ts x
      · exact ⟨x, hl, hxr, hr.symm⟩
      · have hl' : ∃ q, Rch ts x q ∧ q < x := by
          by_cases h : ∃ q, Rch ts x q ∧ q < x
          · exact h
          · exfalso
            refine hl fun q hq => ?_
            by_cases h' : q < x
            · exact absurd ⟨q, hq, h'⟩ h
            · omega
        obtain ⟨q, hq, hlt⟩ := hl'
        have hqr := hq.rng ok hxr
        exact ih q.toNat (by omega) q (by omega) (hr.trans hq)
  exact key p.toNat p (by omega) Rch.refl
/-! ### tuples that are known to have no dict: their methods -/
def NoD (H : Hp) (p : Addr) (xs : List V) : Prop := ∃ o : Obj, o.dict = none ∧ H p = some (.frz o (.tup xs))
theorem NoD.same {H H' : Hp} {p : Addr} {xs : List V} (h : NoD H p xs) (s : Same H H') : NoD H' p xs := by
  obtain ⟨o, h1, h2⟩ := h
  exact ⟨o, h1, s _ _ h2⟩
theorem NoD.sq {K : PySem.W.Frag} {H : Hp} {p : Addr} {xs : List V} (h : NoD H p xs) : SqT K H p xs := by
  obtain ⟨o, h1, h2⟩ := h
  exact .inl (.inr ⟨o, h2⟩)
theorem NoD.kp {H H' : Hp} {d p : Addr} {b : Nat} {xs : List V} (h : NoD H p xs) (k : Kp d d H H') (D : Well H d b) : NoD H' p xs := by
  obtain ⟨o, h1, h2⟩ := h
  obtain ⟨g, st, n, e1, _⟩ := D
  have ne : p ≠ d := ne_of h2 e1 (by intro z; cases z)
  exact ⟨o, h1, k _ _ ne ne h2⟩
section
variable {X : Cx}
theorem call_tuple_ofZ : CallR X (.type "tuple") (fun xs H Q => ∃ p ys, xs = [.ref p] ∧ SqL X.K H p ys ∧ ∀ l o, o.dict = none → H l = none → Q (.ref l) (upd H l (.frz o (.tup ys)))) := by
  intro pins s σ H xs us Q I r h
  obtain ⟨p, ys, rfl, hq, q⟩ := h
  obtain ⟨u, rfl, rx⟩ := vals1 r
  cases rx
  obtain ⟨its, r', pl, hz⟩ := I.list hq
  have hlen := r'.length
  refine call_tuple_list pl.isList (fun h' kp => ?_) (by simp only [List.size_toArray] <;> omega)
  have I1 : Inv X pins σ H { s with heap := h' } := I.kept (t' := s.toks) kp
  have I2 : Inv X pins σ (upd H h'.objs.size (.frz { cls := .type "tuple", data := .seq its.toArray } (.tup ys))) { s with heap := h'.push { cls := .type "tuple", data := .seq its.toArray } } :=
    I1.laid (t' := s.toks) (fun b o e => Heap.get?_push_of_some _ e) (Nat.le_refl _) (show ObjOk X.prog X.w _ _ _ (.frz { cls := .type "tuple", data := .seq its.toArray } (.tup ys)) from ⟨Heap.get?_push_size _ rfl, hz, its, r', IsTup.new _ _⟩)
  exact ⟨.ref h'.objs.size, _, I2, rfl, q _ _ rfl (I1.hok.fresh (Nat.le_refl _))⟩
def tTupRgZ (te : L2.St → Hp → (Int → Int → Hp → Prop) → Prop) : TE := fun σ H Q => te σ H fun a b H1 => RgOk a b ∧ ∀ q o, o.dict = none → H1 q = none → Q (.ref q) (upd H1 q (.frz o (.tup (rgV a b))))
theorem pe_tupRgZ {e : Expr} {te : L2.St → Hp → (Int → Int → Hp → Prop) → Prop} {p pos : Pos} (hc : X.calm = true) (hg : Gl X "tuple") (hm : X.mg "tuple" = none) (he : PRg X e te) (na : starEach [e] X.env = (false, eval e X.env) :: starEach [] X.env := by rfl) : PE X (.Call (.Name "tuple" p) [e] [] pos) (tTupRgZ te) := by
  refine ⟨fun pins s σ H Q I h => ?_⟩
  refine Call_ (ld_blt I hg hm boot_tuple (PyProof.Rows.callWith_type1 (args_cons (thn (he pins s σ H _ I h) fun x s1 ⟨r, a, b, t, u, v, H1, ex, hr, I1, ok, q⟩ => args_nil ?_) na) na))
  subst ex
  obtain ⟨b1, b2, b3, b4, b5⟩ := ok
  refine call_tuple_range (n := (b - a).toNat) (I1.ok.hd hc) hr (small_one b1 b2 b3 b4) (rangeSize_nat a b) b5 fun h' tk acc hk hi => ?_
  have I2 : Inv X pins σ H1 { s1 with heap := h', toks := tk } := I1.kept hk
  refine ⟨.ref h'.objs.size, upd H1 h'.objs.size (.frz { cls := .type "tuple", data := .seq acc } (.tup (rgV a b))), I2.laid (t' := tk) (fun c o e => Heap.get?_push_of_some _ e) (Nat.le_refl _) (show ObjOk X.prog X.w _ _ _ (.frz { cls := .type "tuple", data := .seq acc } (.tup (rgV a b))) from ⟨Heap.get?_push_size _ rfl, ?_, acc.toList, vals_rg hi, ?_⟩), rfl, q _ _ rfl (I2.hok.fresh (Nat.le_refl _))⟩
  · rw [rgV_length, sizeLine_eq]; omega
  · rw [Array.toArray_toList]; exact IsTup.new _ _
/-- a method of such a tuple -/
def tBMT (r : V → List V → Hp → VK → Prop) (to : TE) (t : TA) : TE := fun σ H Q => to σ H fun x H1 => (∃ p xs, x = .ref p ∧ NoD H1 p xs) ∧ t σ H1 fun xs H2 => r x xs H2 Q
theorem pe_bmT {o e : Expr} {es : List Expr} {to : TE} {t : TA} {name : Str} {apos cpos : Pos} {id : String} {r : V → List V → Hp → VK → Prop} (slot : Slot "tuple" name id) (hty : typeOf (.builtin id) = pure (.type "method_descriptor")) (hm : MtR X id r) (ho : PE X o to) (ha : PA X (e :: es) t)
    (hbase : attributeBase o name X.env (eval o X.env) = eval o X.env := by rfl)
    (hfew : ((backTo cpos (starEach (e :: es) X.env)).all (fun x => !x.1) && (backToKw cpos (keywordEach [] X.env)).all (fun x => x.1.isSome)
      && decide ((e :: es).length + ([] : List Keyword).length + (if ([] : List Keyword).isEmpty then 0 else 1) < 30)) = true := by rfl)
    (hline : (apos.endLine == cpos.line) = true := by rfl) (hs : starEach (e :: es) X.env = (false, eval e X.env) :: starEach es X.env := by rfl) (hplain : (backTo cpos (starEach es X.env)).any (·.1) = false := by rfl) :
    PE X (.Call (.Attribute o name apos) (e :: es) [] cpos) (tBMT r to t) := by
  refine ⟨fun pins s σ H Q I h => ?_⟩
  refine wpAny_Call_method_late hbase hfew hline rfl (thn (ho.run pins s σ H _ I h) fun v s1 ⟨x, H1, I1, r1, ⟨p, xs, ex, ob, od, hp⟩, q1⟩ => ?_)
  subst ex
  obtain rfl : v = Value.ref p := r1
  obtain ⟨e1, hz, its, rv, o2, e2, c2, n2, d2⟩ := (show ObjOk X.prog X.w H1 s1.heap p (.frz ob (.tup xs)) from I1.hok p _ hp)
  rw [e1] at e2
  cases e2
  refine ⟨"tuple", id, PySem.F.plainAttrs_tuple, slot, hty, ⟨ob, e1, c2⟩, fun a ea => ?_, ?_⟩
  · cases ea
    exact ⟨ob, e1, od⟩
  have hA := ha.run cpos pins s1 σ H1 _ I1 q1
  rw [hs] at hA ⊢
  refine Calls.callWith_builtin (by show (false || (backTo cpos (starEach es X.env)).any (·.1)) = false; rw [hplain] <;> rfl) (Calls.evalArgs_plain ?_)
  exact thn hA fun us s2 ⟨vs, H2, I2, r2, q2⟩ => hm pins s2 σ H2 (.ref p) vs (.ref p) us Q I2 rfl r2 q2
def rCntT (K : PySem.W.Frag) : V → List V → Hp → VK → Prop := fun x xs H Q => ∃ (p : Addr) (ns : List Int) (k : Int), x = .ref p ∧ xs = [.int k] ∧ SqT K H p (ns.map V.int) ∧ Q (.int (ns.count k : Nat)) H
theorem mt_tcount : MtR X "tuple.count" (rCntT X.K) := by
  intro pins s σ H x xs v us Q I rx rxs h
  obtain ⟨p, ns, k, rfl, rfl, hs, q⟩ := h
  cases rx
  obtain ⟨u, rfl, ru⟩ := rxs.one
  obtain ⟨t, rfl⟩ := ru
  obtain ⟨its, rv, ⟨⟨cls, dd, data, sl⟩, ho, hc, n, hd⟩, hlen⟩ := I.tuple hs
  simp only at hc hd
  subst hc hd
  have hi := ints_of_vals rv
  refine call_meets PySem.F.slot_tuple_count ⟨_, ho, rfl⟩ PySem.F.entry_tuple_count (PySem.F.args_tuple_count_2 _ _)
    (SeqAt.tuple_countAt p its.toArray n dd sl (.int k t) (eqk k)) ⟨ho, fun y hy => (eqk_gives hi y (by simpa using hy)).at _ _, ?_⟩
  have ec : its.toArray.toList.countP (eqk k) = ns.count k := eqk_count hi
  refine ⟨.int (ns.count k : Nat), H, I.tok _, ⟨s.toks, ?_⟩, q⟩
  show Value.int ((its.toArray.toList.countP (eqk k) : Nat) : Int) s.toks = Value.int ((ns.count k : Nat) : Int) s.toks
  rw [ec]
end
/-! ### zip of two tuples -/
theorem walk_zipT {K : PySem.W.Frag} {a b : Addr} {xs ys : List V} {n : Nat} (hn : n = min xs.length ys.length) : Walk (RZ.ItzT K a b) n (fun H => SqT K H a xs ∧ SqT K H b ys) (YPair (fun i => xs[i]?) (fun i => ys[i]?)) := by
  subst hn
  refine ⟨fun i _ hi q => ?_, fun _ q => ⟨xs, ys, q.1, q.2, by omega⟩, fun i H v H' _ q y => ?_⟩
  · have h1 : i < xs.length := by omega
    have h2 : i < ys.length := by omega
    exact ⟨xs, ys, xs[i], ys[i], q.1, q.2, by simp [h1], by simp [h2]⟩
  · obtain ⟨T, x, z, h1, h2, h3, h4, h5⟩ := y
    exact ⟨T, x, z, h1, h2, h3, h4 xs q.1, h5 ys q.2⟩
/-! ### rows of numbers as data -/
def IntsV (H : Hp) (v : V) (xs : List Int) : Prop := ∃ b, v = .ref b ∧ H b = some (.tup (xs.map V.int))
theorem IntsV.tk {H H' : Hp} (k : Tk H H') {v : V} {xs : List Int} (h : IntsV H v xs) : IntsV H' v xs := by
  obtain ⟨a, rfl, e⟩ := h
  exact ⟨a, rfl, k _ _ e⟩
def intsD (xs : List Int) : PyData := .tuple (xs.map PyData.int)
section
variable {K : PySem.W.Frag} {H : Hp}
theorem dp_ints : ∀ (xs : List Int), DpAll K H (xs.map V.int) (xs.map PyData.int)
  | [] => .nil
  | x :: xs => .cons (.int x) (dp_ints xs)
theorem IntsV.dp {v : V} {xs : List Int} (h : IntsV H v xs) : Dp K H v (intsD xs) := by
  obtain ⟨b, rfl, e⟩ := h
  exact .tup (SqT.of e) (dp_ints xs)
end
theorem lay_ints : ∀ xs : List Int, PyData.canLayAll0 (xs.map PyData.int) = true
  | [] => by simp [PyData.canLayAll0]
  | x :: xs => by simp [PyData.canLayAll0, PyData.canLay0, lay_ints xs]
theorem deep_ints : ∀ xs : List Int, PyData.depthAll (xs.map PyData.int) = 0
  | [] => by simp [PyData.depthAll]
  | x :: xs => by simp [PyData.depthAll, PyData.depth, deep_ints xs]
theorem lay_intsD (xs : List Int) : (intsD xs).canLay0 = true := by
  unfold intsD
  rw [PyData.canLay0]
  exact lay_ints xs
theorem deep_intsD (xs : List Int) : (intsD xs).depth = 1 := by
  unfold intsD
  rw [PyData.depth, deep_ints]
theorem shaped_intsD (xs : List Int) : SeqAt.shaped (intsD xs) = true := by
  unfold SeqAt.shaped
  rw [lay_intsD, deep_intsD]
  rfl
theorem eqv_nil (xs : List Int) : PyData.eqv (intsD xs) (intsD []) = xs.isEmpty := by
  unfold intsD
  rw [PyData.eqv]
  cases xs <;> rfl
/-! ### webs turned -/
theorem Same.mut {H H' : Hp} {a : Addr} {o : HO} (s : Same H H') (h : H a = none) : Same H (upd H' a o) := fun b x e => by
  rw [upd_ne (ne_of_none e h)]
  exact s b x e
theorem Same.seqT {K : PySem.W.Frag} {H H' : Hp} {a : Addr} {xs : List V} (e : Same H H') (h : SqT K H a xs) : SqT K H' a xs := by
  rcases h with (h | ⟨o, h⟩) | h
  · exact .inl (.inl (e _ _ h))
  · exact .inl (.inr ⟨o, e _ _ h⟩)
  · exact .inr h
def inP (ps : List Int) (i : Int) : Bool := decide (i ∈ ps)
def flipT (t : Tie) : Tie := ⟨t.one, t.other, !t.foe⟩
def turnT (ps : List Int) (t : Tie) : Tie := if inP ps t.one = inP ps t.other then t else flipT t
def AmongAt (H : Hp) (D : Addr) (ps : List Int) : Prop := ∃ kvs : List (Key × V), H D = some (.dK kvs) ∧ ∀ k : Int, (valV kvs (Sum.inl k)).isSome = inP ps k
theorem AmongAt.same {H H' : Hp} {D : Addr} {ps : List Int} (h : AmongAt H D ps) (s : Same H H') : AmongAt H' D ps := by
  obtain ⟨kvs, h1, h2⟩ := h
  exact ⟨kvs, s _ _ h1, h2⟩
def spTurnedTie : Sp := fun vs H Q _ => ∃ (v : V) (D : Addr) (t : Tie) (ps : List Int), vs = [v, .ref D] ∧ TieV H v t ∧ AmongAt H D ps ∧ ∀ u H', Same H H' → TieV H' u (turnT ps t) → Q u H'
def spTurned (K : PySem.W.Frag) : Sp := fun vs H Q _ => ∃ (v : V) (p : Addr) (n : Int) (ts : List Tie) (ps : List Int), vs = [v, .ref p] ∧ WebAt H v n ts ∧ ts.length ≤ 120 ∧ SqT K H p (ps.map V.int) ∧ ps.length ≤ 40 ∧
  ∀ u H', Same H H' → WebAt H' u n (ts.map (turnT ps)) → Q u H'
theorem inP_take {ps : List Int} {i : Nat} {x : Int} (h : ps[i]? = some x) (k : Int) : inP (ps.take (i + 1)) k = (decide (k = x) || inP (ps.take i) k) := by
  unfold inP
  rw [List.take_add_one, h]
  by_cases e1 : k = x
  · subst e1
    simp
  · by_cases e2 : k ∈ ps.take i
    · rw [decide_eq_true e2, decide_eq_true (List.mem_append_left _ e2)]
      simp
    · rw [decide_eq_false e2, decide_eq_false e1, decide_eq_false]
      · rfl
      · intro h
        rcases List.mem_append.mp h with h | h
        · exact e2 h
        · simp at h
          exact e1 h
theorem map_take_succ {α β : Type} {f : α → β} {xs : List α} {i : Nat} {x : α} (h : xs[i]? = some x) : (xs.take (i + 1)).map f = (xs.take i).map f ++ [f x] := by
  rw [List.take_add_one, h, List.map_append]
  rfl
section
variable {P : Program} {w : World} {K : PySem.W.Frag} {mg : Str → Option Value} {base : Heap}
theorem ok_turned_tie {f : Addr} {fd : FuncData} (F : Fun K "turned_tie" "turned_tie" s_turned_tie f fd) : FnOk P w K mg base CX0 1 f fd ["tie", "among"] spTurnedTie := by
  refine F.ok sc_turned_tie (fun vs H Q E h => ?_) (fun cdv A outer s H vs Q E hr h => ?_)
  · obtain ⟨v, D, t, ps, rfl, _⟩ := h
    rfl
  · obtain ⟨v, D, t, ps, rfl, ⟨a, rfl, ha⟩, ⟨kvs, hD, hk⟩, q⟩ := h
    have hu := hu_of hr
    refine ⟨_, (pss_cons (ps_asg (pv 0) (pg_tup rfl (pgs_cons (pg_name (i := 2) sc_turned_tie.nd rfl (.inl rfl)) (pgs_cons (pg_name (i := 3) sc_turned_tie.nd rfl (.inl rfl)) (pgs_cons (pg_name (i := 4) sc_turned_tie.nd rfl (.inl rfl)) pgs_nil)))))
      (pss_cons (ps_if (pt_cmpR op_eq (pe_cmp (pc_din hu (pv 2) (pv 1))) (pe_cmp (pc_din hu (pv 3) (pv 1))) (nomark _))
        (pss_one (ps_ret (pv 0)))
        pss_nil)
      (pss_one (ps_ret (pe_tup (pa_cons (pv 2) (pa_cons (pv 3) (pa_cons (pe_ifExp (pt_cmpR op_eq (pv 4) pe_str (nomark _)) pe_str pe_str) pa_nil)))))))), ?_⟩
    refine ⟨.ref a, rfl, a, _, rfl, SqT.of ha, rfl, _, _, rfl, _, _, rfl, _, _, rfl, rfl, ?_⟩
    refine ⟨.int t.one, rfl, .ref D, rfl, D, _, rfl, DGet.k (k := Sum.inl t.one) hD, .int t.other, rfl, .ref D, rfl, D, _, rfl, DGet.k (k := Sum.inl t.other) hD, rfl, _, rfl, ?_⟩
    rw [hk, hk]
    refine ite2 (fun e => ?_) (fun e => ?_)
    · have e1 : inP ps t.one = inP ps t.other := V.bl.inj (of_decide_eq_true e)
      refine ⟨.ref a, rfl, q _ _ (Same.refl H) ?_⟩
      unfold turnT
      rw [if_pos e1]
      exact ⟨a, rfl, ha⟩
    · have e1 : ¬ inP ps t.one = inP ps t.other := fun z => e (decide_eq_true (by rw [z]))
      have e2 : decide (V.str (kindS t.foe) = V.str "friend") = !t.foe := by cases t.foe <;> rfl
      refine ⟨.int t.one, rfl, .int t.other, rfl, .str (kindS t.foe), rfl, rfl, _, rfl, ?_⟩
      rw [e2]
      have fin : ∀ p, H p = none → Q (.ref p) (upd H p (.tup [.int t.one, .int t.other, .str (kindS (!t.foe))])) := fun p np => by
        refine q _ _ (same_new np) ?_
        unfold turnT
        rw [if_neg e1]
        exact ⟨p, rfl, upd_same⟩
      cases hf : t.foe with
      | true =>
        rw [hf] at fin
        exact ⟨by show 3 ≤ sizeLine; decide, fun p np => fin p np⟩
      | false =>
        rw [hf] at fin
        exact ⟨by show 3 ≤ sizeLine; decide, fun p np => fin p np⟩
theorem ok_turned {f : Addr} {fd : FuncData} (F : Fun K "turned" "turned" s_turned f fd) (M : Free mg) (D1 : Df P w K mg base 1 "turned_tie" ["tie", "among"] spTurnedTie) : FnOk P w K mg base CX0 2 f fd ["web", "places"] (spTurned K) := by
  obtain ⟨f1, fd1, G1, g1, k1, b1⟩ := D1
  refine F.ok sc_turned (fun vs H Q E h => ?_) (fun cdv A outer s H vs Q E hr h => ?_)
  · obtain ⟨v, p, n, ts, ps, rfl, _⟩ := h
    rfl
  · obtain ⟨v, p, n, ts, ps, rfl, ⟨wa, wb, us, rfl, hwa, hwb, hp⟩, few, hP, hps, q⟩ := h
    refine ⟨_, (pss_cons (ps_set (i := 2) sc_turned.nd rfl (.inr rfl) (pe_dc (own := [("place", 3)]) (g := gName 3) (tt := tYes) rfl sc_turned.nd (pi_tup (pv 1)) (blkOk_by (N := N_turned) (sc := defScope s_turned) (own := [("place", 3)]) (by decide +kernel)) (fun _ _ _ _ _ => (pg_name (i := 3) sc_turned.nd rfl (.inl rfl))) (fun _ _ _ _ _ => pts_nil) (fun _ _ _ _ _ => (pv 3)) (fun _ _ _ _ _ => pe_bl)))
      (pss_one (ps_ret (pe_tup (pa_cons (pe_ix ix_tup (pv 0) pe_int (fun _ _ => rfl)) (pa_cons (pe_callTy call_tuple_of (by rfl) M.tuple (by decide +kernel) (pa_cons (pe_lc (own := [("tie", 4)]) (g := gName 4) (tt := tYes) rfl sc_turned.nd (pi_tup (pe_ix ix_tup (pv 0) pe_int (fun _ _ => rfl))) (blkOk_by (N := N_turned) (sc := defScope s_turned) (own := [("tie", 4)]) (by decide +kernel)) (fun _ _ _ _ _ => (pg_name (i := 4) sc_turned.nd rfl (.inl rfl))) (fun _ _ _ _ _ => pts_nil) (fun _ _ _ _ _ => (pe_call G1 hr (by rfl) g1 k1 b1 .nil pass0 (pa_cons (pv 4) (pa_cons (pv 2) pa_nil))))) pa_nil)) pa_nil)))))), ?_⟩
    refine ⟨.ref p, rfl, p, rfl, ⟨_, hP⟩, fun D nD => ?_⟩
    refine dc_tup (xs := ps.map V.int) (fun i H' => ∃ kvs : List (Key × V), H' D = some (.dK kvs) ∧ kvs.length ≤ i ∧ (∀ k : Int, (valV kvs (Sum.inl k)).isSome = inP (ps.take i) k) ∧ Same H H') ⟨[], upd_same, Nat.le_refl _, fun k => rfl, same_new nD⟩ (fun i H' _ h => by
      obtain ⟨kvs, _, _, _, s1⟩ := h
      exact Same.seqT s1 hP) ?_ ?_
    · rintro i x H1 ex ⟨kvs, hD, hl, hk, s1⟩
      rw [List.getElem?_map] at ex
      obtain ⟨y, hy, rfl⟩ := Option.map_eq_some_iff.mp ex
      have hi : i < ps.length := (List.getElem?_eq_some_iff.mp hy).1
      refine ⟨rfl, .int y, rfl, kvs, Sum.inl y, rfl, hD, small1000 (by omega), putK kvs (Sum.inl y) (.bl true), upd_same, ?_, fun k => ?_, Same.mut s1 nD⟩
      · have := length_putK kvs (Sum.inl y) (.bl true)
        omega
      · rw [valV_put, inP_take hy, ← hk]
        by_cases e : k = y
        · subst e
          rw [if_pos rfl]
          simp
        · rw [if_neg (fun z => e (Sum.inl.inj z)), decide_eq_false e]
          rfl
    · rintro H1 ⟨kvs, hD, hl, hk, s1⟩
      rw [List.length_map] at hl hk
      rw [List.take_length] at hk
      have hA : AmongAt H1 D ps := ⟨kvs, hD, hk⟩
      clear hD hl hk
      refine ⟨.ref wa, rfl, wa, _, 0, .int n, rfl, rfl, SqT.of (s1 _ _ hwa), rfl, .ref wa, rfl, wa, _, 1, .ref wb, rfl, rfl, SqT.of (s1 _ _ hwa), rfl, wb, rfl, ⟨_, SqT.of (s1 _ _ hwb)⟩, fun Z nZ => ?_⟩
      have hlen : us.length = ts.length := Paired.length hp
      refine lc_tup (xs := us) (fun i H' => ∃ vs : List V, H' Z = some (.lst vs) ∧ Paired (TieV H') vs ((ts.take i).map (turnT ps)) ∧ Same H1 H') ⟨[], upd_same, .nil, same_new nZ⟩ (fun i H' _ h => by
        obtain ⟨vs, _, _, s2⟩ := h
        exact SqT.of (s2 _ _ (s1 _ _ hwb))) ?_ ?_
      · rintro i x H2 ex ⟨vs, hZ, hv, s2⟩
        obtain ⟨t, et, ht⟩ := Paired.at hp ex
        have hi : i < us.length := (List.getElem?_eq_some_iff.mp ex).1
        have lv : vs.length = i := by
          rw [Paired.length hv, List.length_map, List.length_take]
          omega
        refine ⟨rfl, x, rfl, .ref D, rfl, x, D, t, ps, rfl, ht.tk (Same.tk (s1.trans s2)), hA.same s2, fun u H3 s3 hu3 => ?_⟩
        have hZ3 := s3 _ _ hZ
        refine ⟨vs, hZ3, small1000 (by omega), vs ++ [u], upd_same, ?_, Same.mut (s2.trans s3) nZ⟩
        rw [map_take_succ et]
        exact Paired.snoc (ties_tk (tk_lst hZ3) (ties_tk (Same.tk s3) hv)) (hu3.tk (tk_lst hZ3))
      · rintro H2 ⟨vs, hZ, hv, s2⟩
        rw [hlen, List.take_length] at hv
        refine ⟨Z, vs, rfl, .inl ⟨SqL.of hZ, fun r nr => ⟨by show 2 ≤ sizeLine; decide, fun o no => ?_⟩⟩⟩
        have s3 : Same H2 _ := (same_new (o := .tup vs) nr).trans (same_new (o := .tup [.int n, .ref r]) no)
        exact q _ _ ((s1.trans s2).trans s3) ⟨o, r, vs, rfl, upd_same, same_new no _ _ upd_same, ties_tk (Same.tk s3) hv⟩
end
/-! ### the law's own turning -/
theorem cnt_in : ∀ {ps : List Int}, ps.Nodup → ∀ k : Int, ps.count k = if inP ps k = true then 1 else 0
  | [], _, k => rfl
  | x :: xs, nd, k => by
    have nd' := List.nodup_cons.mp nd
    rw [List.count_cons, cnt_in nd'.2 k]
    unfold inP
    by_cases e : x = k
    · subst e
      rw [decide_eq_false nd'.1]
      simp
    · by_cases h : k ∈ xs
      · rw [decide_eq_true h, decide_eq_true (List.mem_cons_of_mem _ h)]
        simp [e]
      · rw [decide_eq_false h, decide_eq_false (fun z => (List.mem_cons.mp z).elim (fun z => e z.symm) h)]
        simp [e]
def spAbout : Sp := fun vs H Q _ => ∃ (v : V) (p : Addr) (n : Int) (ts : List Tie) (ps : List Int), vs = [v, .ref p] ∧ WebAt H v n ts ∧ ts.length ≤ 120 ∧ NoD H p (ps.map V.int) ∧ ps.Nodup ∧
  ∀ u H', Same H H' → WebAt H' u n (ts.map (turnT ps)) → Q u H'
theorem flips (b : Bool) : valV (mergeK [] [((Sum.inr "friend" : Key), V.str "foe"), (Sum.inr "foe", V.str "friend")]) (Sum.inr (kindS b)) = some (.str (kindS (!b))) := by
  cases b <;> decide
section
variable {P : Program} {w : World} {K : PySem.W.Frag} {mg : Str → Option Value} {base : Heap}
theorem ok_l_about {f : Addr} {fd : FuncData} (F : Fun K "_law_about" "_law_about" s_l_about f fd) (M : Free mg) : FnOk P w K mg base CX0 1 f fd ["_law_web_here", "_law_places_here"] spAbout := by
  refine F.ok sc_l_about (fun vs H Q E h => ?_) (fun cdv A outer s H vs Q E hr h => ?_)
  · obtain ⟨v, p, n, ts, ps, rfl, _⟩ := h
    rfl
  · obtain ⟨v, p, n, ts, ps, rfl, ⟨wa, wb, us, rfl, hwa, hwb, hp⟩, few, hP, nd, q⟩ := h
    have hu := hu_of hr
    refine ⟨_, (pss_cons (ps_set (i := 2) sc_l_about.nd rfl (.inl rfl) (pe_disp (pps_cons pe_str pe_str (pps_cons pe_str pe_str pps_nil)) (by rfl) (by rfl) (fun z => by cases z) (by decide)))
      (pss_cons (ps_set (i := 3) sc_l_about.nd rfl (.inl rfl) (pe_lst pa_nil))
      (pss_cons (ps_for PassesOwn.never rfl (pi_tup (pe_ix ix_tup (pv 0) pe_int (fun _ _ => rfl))) (pg_name (i := 4) sc_l_about.nd rfl (.inl rfl))
        (Evl.pss_cut (ps_if (pt_cmpR op_eq (pe_op op_add (pe_bmT PySem.F.slot_tuple_count PySem.F.type_tuple_count mt_tcount (pv 1) (pa_cons (pe_ix ix_tup (pv 4) pe_int (fun _ _ => rfl)) pa_nil)) (pe_bmT PySem.F.slot_tuple_count PySem.F.type_tuple_count mt_tcount (pv 1) (pa_cons (pe_ix ix_tup (pv 4) pe_int (fun _ _ => rfl)) pa_nil))) pe_int (nomark _))
          (pss_one (ps_set (i := 4) sc_l_about.nd rfl (.inl rfl) (pe_op op_catU (pe_slice sl_tupU (pv 4) po_none (po_some pe_int)) (pe_tup (pa_cons (pe_dget hu (pv 2) (pe_ix ix_tup (pv 4) pe_int (fun _ _ => rfl)) (fun _ _ => rfl)) pa_nil)))))
          pss_nil)
        (pss_one (ps_expr (pe_bm PySem.F.plainAttrs_list PySem.F.slot_list_append PySem.F.type_list_append mt_append (pv 3) (pa_cons (pv 4) pa_nil))))))
      (pss_one (ps_ret (pe_tup (pa_cons (pe_ix ix_tup (pv 0) pe_int (fun _ _ => rfl)) (pa_cons (pe_callTy call_tuple_of (by rfl) M.tuple (by decide +kernel) (pa_cons (pv 3) pa_nil)) pa_nil)))))))), ?_⟩
    refine fun D nD => ⟨upd_same, [((Sum.inr "friend" : Key), V.str "foe"), (Sum.inr "foe", V.str "friend")], rfl, by decide, ?_⟩
    rw [upd_upd]
    generalize hkv : mergeK [] [((Sum.inr "friend" : Key), V.str "foe"), (Sum.inr "foe", V.str "friend")] = kvs
    have hk : ∀ b, valV kvs (Sum.inr (kindS b)) = some (.str (kindS (!b))) := fun b => by rw [← hkv]; exact flips b
    clear hkv
    have s1 : Same H (upd H D (.dK kvs)) := same_new nD
    have hD : (upd H D (.dK kvs)) D = some (.dK kvs) := upd_same
    generalize upd H D (.dK kvs) = H1 at s1 hD
    refine ⟨Nat.zero_le _, fun Z nZ => ?_⟩
    have s2 : Same H1 (upd H1 Z (.lst [])) := same_new nZ
    have hlen : us.length = ts.length := Paired.length hp
    refine ⟨.ref wa, rfl, wa, _, 1, .ref wb, rfl, rfl, SqT.of (s2 _ _ (s1 _ _ hwa)), rfl, wb, rfl, ⟨_, SqT.of (s2 _ _ (s1 _ _ hwb))⟩, ?_⟩
    refine for_tup (xs := us) (fun i σ' H' => ∃ (y4 : Option V) (vs : List V), σ' = [some (.ref wa), some (.ref p), some (.ref D), some (.ref Z), y4] ∧ H' Z = some (.lst vs) ∧ Paired (TieV H') vs ((ts.take i).map (turnT ps)) ∧ Same H1 H') ⟨none, [], rfl, upd_same, .nil, s2⟩ (fun i σ' H' _ h => by
      obtain ⟨y4, vs, _, _, _, s3⟩ := h
      exact SqT.of (s3 _ _ (s1 _ _ hwb))) ?_ ?_
    · rintro i x σ' H2 ex ⟨y4, vs, rfl, hZ, hv, s3⟩
      obtain ⟨t, et, a, rfl, hx⟩ := Paired.at hp ex
      have hi : i < us.length := (List.getElem?_eq_some_iff.mp ex).1
      have lv : vs.length = i := by
        rw [Paired.length hv, List.length_map, List.length_take]
        omega
      have s12 := s1.trans s3
      have hP2 := hP.same s12
      have hx2 := s12 _ _ hx
      refine ⟨fun σ' H' => ∃ u, σ' = [some (.ref wa), some (.ref p), some (.ref D), some (.ref Z), some u] ∧ TieV H' u (turnT ps t) ∧ Same H2 H', ?_, ?_⟩
      · refine ⟨.ref p, rfl, ⟨p, _, rfl, hP2⟩, .ref a, rfl, a, _, 0, _, rfl, rfl, SqT.of hx2, rfl, p, ps, t.one, rfl, rfl, hP2.sq, .ref p, rfl, ⟨p, _, rfl, hP2⟩, .ref a, rfl, a, _, 1, _, rfl, rfl, SqT.of hx2, rfl, p, ps, t.other, rfl, rfl, hP2.sq, _, _, rfl, rfl, rfl, _, rfl, ?_⟩
        rw [cnt_in nd, cnt_in nd]
        have e0 : ∀ x y : Bool, decide (V.int (((if x = true then 1 else 0 : Nat) : Int) + ((if y = true then 1 else 0 : Nat) : Int)) = V.int 1) = (x != y) := fun x y => by cases x <;> cases y <;> rfl
        rw [e0]
        by_cases e1 : inP ps t.one = inP ps t.other
        · rw [e1]
          have e2 : (inP ps t.other != inP ps t.other) = false := by cases inP ps t.other <;> rfl
          rw [e2]
          refine ⟨.ref a, rfl, ?_, Same.refl H2⟩
          unfold turnT
          rw [if_pos e1]
          exact ⟨a, rfl, hx2⟩
        · have e2 : (inP ps t.one != inP ps t.other) = true := by
            cases h1 : inP ps t.one <;> cases h2 : inP ps t.other <;> first | rfl | exact absurd (h1.trans h2.symm) e1
          rw [e2]
          refine ⟨.ref a, rfl, 2, rfl, a, _, rfl, hx2, fun r H3 s4 hr3 => ?_⟩
          have ec : cutV [V.int t.one, V.int t.other, V.str (kindS t.foe)] none (some 2) = [V.int t.one, V.int t.other] := rfl
          rw [ec] at hr3
          refine ⟨.ref D, rfl, .ref a, rfl, a, _, 2, _, rfl, rfl, SqT.of (s4 _ _ hx2), rfl, D, .str (kindS (!t.foe)), rfl, ?_, by show 1 ≤ sizeLine; decide, fun o no => ?_⟩
          · rw [← hk t.foe]
            exact DGet.k (k := Sum.inr (kindS t.foe)) (s4 _ _ (s3 _ _ hD))
          · refine ⟨r, o, _, _, rfl, rfl, same_new no _ _ hr3, upd_same, by show 3 ≤ 100000; decide, fun r5 H5 s5 h5 => ?_⟩
            refine ⟨_, rfl, ?_, (s4.trans (same_new no)).trans s5⟩
            unfold turnT
            rw [if_neg e1]
            exact ⟨r5, rfl, h5⟩
      · rintro σ' H3 ⟨u, rfl, hu3, s4⟩
        have hZ3 := s4 _ _ hZ
        refine ⟨.ref Z, rfl, .inl ⟨rfl, _, SqL.of hZ3⟩, u, rfl, Z, vs, _, rfl, rfl, hZ3, small1000 (by omega), ?_⟩
        refine ⟨_, vs ++ [u], rfl, upd_same, ?_, Same.mut (s3.trans s4) nZ⟩
        rw [map_take_succ et]
        exact Paired.snoc (ties_tk (tk_lst hZ3) (ties_tk (Same.tk s4) hv)) (hu3.tk (tk_lst hZ3))
    · rintro σ' H2 ⟨y4, vs, rfl, hZ, hv, s3⟩
      rw [hlen, List.take_length] at hv
      refine ⟨.ref wa, rfl, wa, _, 0, .int n, rfl, rfl, SqT.of (s3 _ _ (s1 _ _ hwa)), rfl, .ref Z, rfl, Z, vs, rfl, .inl ⟨SqL.of hZ, fun r nr => ⟨by show 2 ≤ sizeLine; decide, fun o no => ?_⟩⟩⟩
      have s4 : Same H2 _ := (same_new (o := .tup vs) nr).trans (same_new (o := .tup [.int n, .ref r]) no)
      exact q _ _ ((s1.trans s3).trans s4) ⟨o, r, vs, rfl, upd_same, same_new no _ _ upd_same, ties_tk (Same.tk s4) hv⟩
end
/-! ### things that are alike -/
def Lk (H : Hp) : Nat → V → V → Prop
  | 0, v, u => (∃ i, v = .int i ∧ u = .int i) ∨ (∃ z, v = .str z ∧ u = .str z)
  | k + 1, v, u => (∃ i, v = .int i ∧ u = .int i) ∨ (∃ z, v = .str z ∧ u = .str z) ∨
    ∃ a b xs ys, v = .ref a ∧ u = .ref b ∧ H a = some (.tup xs) ∧ H b = some (.tup ys) ∧ xs.length = ys.length ∧ xs.length ≤ 900 ∧ ∀ (i : Nat) x y, xs[i]? = some x → ys[i]? = some y → Lk H k x y
theorem Lk.tk {H H' : Hp} (t : Tk H H') : ∀ {k : Nat} {v u : V}, Lk H k v u → Lk H' k v u
  | 0, _, _, h => h
  | k + 1, _, _, h => by
    rcases h with h | h | ⟨a, b, xs, ys, e1, e2, h1, h2, h3, h4, h5⟩
    · exact .inl h
    · exact .inr (.inl h)
    · exact .inr (.inr ⟨a, b, xs, ys, e1, e2, t _ _ h1, t _ _ h2, h3, h4, fun i x y g1 g2 => Lk.tk t (h5 i x y g1 g2)⟩)
theorem Lk.int {H : Hp} {k : Nat} {i : Int} : Lk H k (.int i) (.int i) := by
  cases k with
  | zero => exact .inl ⟨i, rfl, rfl⟩
  | succ k => exact .inl ⟨i, rfl, rfl⟩
theorem Lk.str {H : Hp} {k : Nat} {z : Str} : Lk H k (.str z) (.str z) := by
  cases k with
  | zero => exact .inr ⟨z, rfl, rfl⟩
  | succ k => exact .inr (.inl ⟨z, rfl, rfl⟩)
theorem tie_lk {H : Hp} {v u : V} {t : Tie} (h : TieV H v t) (g : TieV H u t) : Lk H 1 v u := by
  obtain ⟨a, rfl, ha⟩ := h
  obtain ⟨b, rfl, hb⟩ := g
  refine .inr (.inr ⟨a, b, _, _, rfl, rfl, ha, hb, rfl, by show 3 ≤ 900; decide, fun i x y g1 g2 => ?_⟩)
  match i with
  | 0 => simp at g1 g2; subst g1 g2; exact Lk.int
  | 1 => simp at g1 g2; subst g1 g2; exact Lk.int
  | 2 => simp at g1 g2; subst g1 g2; exact Lk.str
  | i + 3 => simp at g1
theorem web_lk {H : Hp} {v u : V} {n : Int} {ts : List Tie} (h : WebAt H v n ts) (g : WebAt H u n ts) (few : ts.length ≤ 120) : Lk H 3 v u := by
  obtain ⟨a, a2, vs, rfl, h1, h2, h3⟩ := h
  obtain ⟨b, b2, us, rfl, g1, g2, g3⟩ := g
  refine .inr (.inr ⟨a, b, _, _, rfl, rfl, h1, g1, rfl, by show 2 ≤ 900; decide, fun i x y e1 e2 => ?_⟩)
  match i with
  | 0 => simp at e1 e2; subst e1 e2; exact Lk.int
  | 1 =>
    simp at e1 e2
    subst e1 e2
    have l1 := Paired.length h3
    have l2 := Paired.length g3
    refine .inr (.inr ⟨a2, b2, _, _, rfl, rfl, h2, g2, by omega, by omega, fun i x y e1 e2 => ?_⟩)
    obtain ⟨t, f1, f2⟩ := Paired.at h3 e1
    obtain ⟨t', f3, f4⟩ := Paired.at g3 e2
    rw [f1] at f3
    cases f3
    exact tie_lk f2 f4
  | i + 2 => simp at e1
theorem ints_lk {H : Hp} {a b : Addr} {xs : List Int} (h : H a = some (.tup (xs.map V.int))) (g : H b = some (.tup (xs.map V.int))) (few : xs.length ≤ 900) : Lk H 1 (.ref a) (.ref b) := by
  refine .inr (.inr ⟨a, b, _, _, rfl, rfl, h, g, rfl, by rw [List.length_map]; exact few, fun i x y e1 e2 => ?_⟩)
  rw [e1] at e2
  cases e2
  rw [List.getElem?_map] at e1
  obtain ⟨z, _, rfl⟩ := Option.map_eq_some_iff.mp e1
  exact Lk.int
def spSame : Nat → Sp
  | 0 => fun _ _ _ _ => False
  | k + 1 => fun vs H Q _ => ∃ v u, vs = [v, u] ∧ Lk H k v u ∧ ∀ H', Same H H' → Q (.bl true) H'
def isS : V → Bool
  | .str _ => true
  | _ => false
theorem kn_str {K : PySem.W.Frag} {H : Hp} {v : V} (h : Kn H v) : ∃ t, TyX K H v t ∧ PySem.W.kitOne K t (.type "str") = some (isS v) := by
  cases v with
  | non => exact ⟨_, .base .non, kit_ty (r := false) (by decide +kernel)⟩
  | bl b => exact ⟨_, .base (.bl b), kit_ty (r := false) (by decide +kernel)⟩
  | int i => exact ⟨_, .base (.int i), kit_ty (r := false) (by decide +kernel)⟩
  | str x => exact ⟨_, .base (.str x), kit_ty (r := true) (by decide +kernel)⟩
  | ref a =>
    rcases h with ⟨xs, h⟩ | ⟨xs, h⟩ | ⟨xs, h⟩
    · exact ⟨_, .base (.lst h), kit_ty (r := false) (by decide +kernel)⟩
    · exact ⟨_, .base (.tup h), kit_ty (r := false) (by decide +kernel)⟩
    · exact ⟨_, .base (.dK h), kit_ty (r := false) (by decide +kernel)⟩
  | byt b => exact h.elim
  | flt b => exact h.elim
  | ty n => exact h.elim
section
variable {P : Program} {w : World} {K : PySem.W.Frag} {mg : Str → Option Value} {base : Heap}
theorem ok_l_same {f : Addr} {fd : FuncData} (F : Fun K "_law_same" "_law_same" s_l_same f fd) (M : Free mg) (mall : mg "all" = none) (mzip : mg "zip" = none) (gS : mg "_law_same" = some (.ref f)) (bS : Binds K fd ["_law_found", "_law_due_here"] []) :
    ∀ k : Nat, FnOk P w K mg base CX0 k f fd ["_law_found", "_law_due_here"] (spSame k)
  | 0 => ⟨fun vs H Q E h => h.elim, fun B out z H ar us vs Q E _ _ _ _ h => h.elim⟩
  | k + 1 => by
    have GS := ok_l_same F M mall mzip gS bS k
    refine F.ok sc_l_same (fun vs H Q E h => ?_) (fun cdv A outer s H vs Q E hr h => ?_)
    · obtain ⟨v, u, rfl, _⟩ := h
      rfl
    · obtain ⟨v, u, rfl, hl, q⟩ := h
      refine ⟨_, (pss_cons (ps_if (pt_val (pe_callB call_isi (by rfl) M.isinstance (by decide +kernel) (pa_cons (pv 1) (pa_cons (pe_bltn (v := .ty "tuple") (by rfl) M.tuple (by decide +kernel) rfl) pa_nil))))
        (pss_cons (ps_if (PW.pt (pw_or (pt_not (pt_val (pe_callB call_isi (by rfl) M.isinstance (by decide +kernel) (pa_cons (pv 0) (pa_cons (pe_bltn (v := .ty "tuple") (by rfl) M.tuple (by decide +kernel) rfl) pa_nil))))) (pw_or1 (pt_cmpR op_ne (pe_callB call_len_seq (by rfl) M.len PySem.boot_len (pa_cons (pv 0) pa_nil)) (pe_callB call_len_seq (by rfl) M.len PySem.boot_len (pa_cons (pv 1) pa_nil)) (nomark _)))))
          (pss_one (ps_ret pe_bl))
          pss_nil)
        (pss_one (ps_ret (pe_callB (cr_all rfl) (by rfl) mall (by decide +kernel) (pa_cons (pe_lc (own := [("_law_one", 2), ("_law_other", 3)]) (g := gTup K 2 (gCons (gName 2) (gCons (gName 3) gNil))) (tt := tYes) rfl sc_l_same.nd (RZ.pi_zipA (by rfl) mzip (pa_cons (pv 0) (pa_cons (pv 1) pa_nil))) (blkOk_by (N := N_l_same) (sc := defScope s_l_same) (own := [("_law_one", 2), ("_law_other", 3)]) (by decide +kernel)) (fun _ _ _ _ _ => (pg_tup rfl (pgs_cons (pg_name (i := 2) sc_l_same.nd rfl (.inl rfl)) (pgs_cons (pg_name (i := 3) sc_l_same.nd rfl (.inl rfl)) pgs_nil)))) (fun _ _ _ _ _ => pts_nil) (fun _ _ _ _ _ => (pe_call GS hr (by rfl) gS F.kp bS .nil pass0 (pa_cons (pv 2) (pa_cons (pv 3) pa_nil))))) pa_nil)))))
        pss_nil)
      (pss_cons (ps_if (PW.pt (pw_or (pt_val (pe_callB call_isi (by rfl) M.isinstance (by decide +kernel) (pa_cons (pv 1) (pa_cons (pe_bltn (v := .ty "bool") (by rfl) M.bool (by decide +kernel) rfl) pa_nil)))) (pw_or1 (pt_val (pe_callB call_isi (by rfl) M.isinstance (by decide +kernel) (pa_cons (pv 0) (pa_cons (pe_bltn (v := .ty "bool") (by rfl) M.bool (by decide +kernel) rfl) pa_nil)))))))
        (pss_one (ps_ret (pe_and (pe_callB call_isi (by rfl) M.isinstance (by decide +kernel) (pa_cons (pv 1) (pa_cons (pe_bltn (v := .ty "bool") (by rfl) M.bool (by decide +kernel) rfl) pa_nil))) (pe_and (pe_callB call_isi (by rfl) M.isinstance (by decide +kernel) (pa_cons (pv 0) (pa_cons (pe_bltn (v := .ty "bool") (by rfl) M.bool (by decide +kernel) rfl) pa_nil))) (pe_one (pe_cmpR op_eq (pv 0) (pv 1) (nomark _)))))))
        pss_nil)
      (pss_cons (ps_if (pt_val (pe_callB call_isi (by rfl) M.isinstance (by decide +kernel) (pa_cons (pv 1) (pa_cons (pe_bltn (v := .ty "int") (by rfl) M.int (by decide +kernel) rfl) pa_nil))))
        (pss_one (ps_ret (pe_and (pe_callB call_isi (by rfl) M.isinstance (by decide +kernel) (pa_cons (pv 0) (pa_cons (pe_bltn (v := .ty "int") (by rfl) M.int (by decide +kernel) rfl) pa_nil))) (pe_one (pe_cmpR op_eq (pv 0) (pv 1) (nomark _))))))
        pss_nil)
      (pss_one (ps_ret (pe_and (pe_cmpR op_eq (pv 0) (pv 1) (nomark _)) (pe_one (pe_cmpR op_eq (pe_callB call_isi (by rfl) M.isinstance (by decide +kernel) (pa_cons (pv 0) (pa_cons (pe_bltn (v := .ty "str") (by rfl) M.str (by decide +kernel) rfl) pa_nil))) (pe_callB call_isi (by rfl) M.isinstance (by decide +kernel) (pa_cons (pv 1) (pa_cons (pe_bltn (v := .ty "str") (by rfl) M.str (by decide +kernel) rfl) pa_nil))) (nomark _))))))))), ?_⟩
      have leaf : (∃ i, v = .int i ∧ u = .int i) ∨ (∃ z, v = .str z ∧ u = .str z) ∨ (∃ (j : Nat) (_ : k = j + 1) (a b : Addr) (xs ys : List V), v = .ref a ∧ u = .ref b ∧ H a = some (.tup xs) ∧ H b = some (.tup ys) ∧ xs.length = ys.length ∧ xs.length ≤ 900 ∧ ∀ (i : Nat) x y, xs[i]? = some x → ys[i]? = some y → Lk H j x y) := by
        cases k with
        | zero =>
          rcases hl with h | h
          · exact .inl h
          · exact .inr (.inl h)
        | succ j =>
          rcases hl with h | h | ⟨a, b, xs, ys, h⟩
          · exact .inl h
          · exact .inr (.inl h)
          · exact .inr (.inr ⟨j, rfl, a, b, xs, ys, h⟩)
      rcases leaf with ⟨i, rfl, rfl⟩ | ⟨z, rfl, rfl⟩ | ⟨j, rfl, a, b, xs, ys, rfl, rfl, ha, hb, hlen, few, hh⟩
      · obtain ⟨t1, h1, e1⟩ := kn_tup (K := K) (H := H) (v := .int i) trivial
        obtain ⟨t2, h2, e2⟩ := kn_bool (K := K) (H := H) (v := .int i) trivial
        obtain ⟨t3, h3, e3⟩ := kn_int (K := K) (H := H) (v := .int i) trivial
        refine ⟨.int i, rfl, .int i, _, t1, _, _, rfl, .ty "tuple", h1, e1, _, rfl, ?_⟩
        refine ⟨.int i, rfl, .int i, _, t2, _, _, rfl, .ty "bool", h2, e2, _, rfl, .int i, rfl, .int i, _, t2, _, _, rfl, .ty "bool", h2, e2, _, rfl, ?_⟩
        refine ⟨.int i, rfl, .int i, _, t3, _, _, rfl, .ty "int", h3, e3, _, rfl, ?_⟩
        refine ⟨.int i, rfl, .int i, _, t3, _, _, rfl, .ty "int", h3, e3, _, rfl, .int i, rfl, .int i, rfl, rfl, ?_⟩
        rw [decide_eq_true rfl]
        exact q _ (Same.refl H)
      · obtain ⟨t1, h1, e1⟩ := kn_tup (K := K) (H := H) (v := .str z) trivial
        obtain ⟨t2, h2, e2⟩ := kn_bool (K := K) (H := H) (v := .str z) trivial
        obtain ⟨t3, h3, e3⟩ := kn_int (K := K) (H := H) (v := .str z) trivial
        obtain ⟨t4, h4, e4⟩ := kn_str (K := K) (H := H) (v := .str z) trivial
        refine ⟨.str z, rfl, .str z, _, t1, _, _, rfl, .ty "tuple", h1, e1, _, rfl, ?_⟩
        refine ⟨.str z, rfl, .str z, _, t2, _, _, rfl, .ty "bool", h2, e2, _, rfl, .str z, rfl, .str z, _, t2, _, _, rfl, .ty "bool", h2, e2, _, rfl, ?_⟩
        refine ⟨.str z, rfl, .str z, _, t3, _, _, rfl, .ty "int", h3, e3, _, rfl, ?_⟩
        refine ⟨.str z, rfl, .str z, rfl, rfl, _, rfl, ?_⟩
        rw [decide_eq_true rfl]
        refine ⟨.str z, rfl, .str z, _, t4, _, _, rfl, .ty "str", h4, e4, .str z, rfl, .str z, _, t4, _, _, rfl, .ty "str", h4, e4, rfl, ?_⟩
        rw [decide_eq_true rfl]
        exact q _ (Same.refl H)
      · obtain ⟨t1, h1, e1⟩ := kn_tup (K := K) (H := H) (v := .ref b) (.inr (.inl ⟨_, hb⟩))
        obtain ⟨t2, h2, e2⟩ := kn_tup (K := K) (H := H) (v := .ref a) (.inr (.inl ⟨_, ha⟩))
        rw [isT_of hb] at e1
        rw [isT_of ha] at e2
        refine ⟨.ref b, rfl, .ref b, _, t1, _, _, rfl, .ty "tuple", h1, e1, _, rfl, ?_⟩
        refine ⟨.ref a, rfl, .ref a, _, t2, _, _, rfl, .ty "tuple", h2, e2, _, rfl, ?_⟩
        refine ⟨.ref a, rfl, a, xs, rfl, .inr (SqT.of ha), .ref b, rfl, b, ys, rfl, .inr (SqT.of hb), rfl, _, rfl, ?_⟩
        rw [hlen, decide_eq_true rfl]
        refine ⟨.ref a, rfl, .ref b, rfl, a, b, xs, ys, rfl, .inr ⟨SqT.of ha, SqT.of hb, fun Z nZ => ?_⟩⟩
        refine lc_it (walk_zipT (xs := xs) (ys := ys) (n := xs.length) (by omega)) (fun i H' => H' Z = some (.lst ((List.replicate i true).map V.bl)) ∧ Same H H') ⟨upd_same, same_new nZ⟩ (fun i H' _ h => ⟨SqT.of (h.2 _ _ ha), SqT.of (h.2 _ _ hb)⟩) ?_ ?_
        · rintro i x H1 H2 hi ⟨hZ, s1⟩ ⟨T, x1, y1, rfl, nT, rfl, g1, g2⟩
          have s2 := s1.trans (same_new (o := .tup [x1, y1]) nT)
          have hZ2 := same_new (o := .tup [x1, y1]) nT _ _ hZ
          refine ⟨T, _, rfl, SqT.of upd_same, rfl, _, _, rfl, _, _, rfl, rfl, rfl, x1, rfl, y1, rfl, x1, y1, rfl, (hh i x1 y1 g1 g2).tk (Same.tk s2), fun H3 s3 => ?_⟩
          refine ⟨_, s3 _ _ hZ2, by rw [List.length_map, List.length_replicate]; exact small1000 (by omega), ?_, Same.mut (s2.trans s3) nZ⟩
          rw [upd_same, List.replicate_succ', List.map_append]
          rfl
        · rintro H1 ⟨hZ, s1⟩
          refine ⟨Z, _, rfl, SqL.of hZ, ?_⟩
          have ea : (List.replicate xs.length true).all id = true := by
            rw [List.all_eq_true]
            intro x hx
            rw [List.eq_of_mem_replicate hx]
            rfl
          rw [ea]
          exact q _ s1
end
/-! ### data that repr tells -/
structure Fine (k w : Nat) (d : PyData) : Prop where
  lay : d.canLay0 = true
  shw : d.showable = true
  nod : d.hasDict = false
  sho : d.intsShort 13 = true
  dep : d.depth ≤ k
  wei : d.weight ≤ w
theorem Fine.int {i : Int} (h0 : -1000 ≤ i) (h1 : i < 1000) : Fine 0 10 (.int i) := by
  have hn : i.natAbs < 1024 := by omega
  have hl : i.natAbs.log2 < 10 ∨ i.natAbs = 0 := by
    by_cases e : i.natAbs = 0
    · exact .inr e
    · exact .inl ((Nat.log2_lt e).mpr (by omega))
  have hl2 : i.natAbs.log2 < 1920 := by
    rcases hl with h | h
    · omega
    · rw [h]
      decide
  refine ⟨rfl, ?_, rfl, ?_, Nat.le_refl _, ?_⟩
  · rw [PyData.showable]
    exact decide_eq_true hl2
  · have h3 := PyProof.Rows.intsShortAll_ints2 [i] (fun n hn => by rw [List.mem_singleton.mp hn]; omega)
    simpa [PyData.intsShortAll] using h3
  · rw [PyData.weight]
    split
    · omega
    · rename_i e
      rcases hl with h | h
      · omega
      · exact absurd (by simpa using h) e
theorem Fine.non : Fine 0 0 .none := ⟨rfl, rfl, rfl, rfl, Nat.le_refl _, Nat.le_refl _⟩
theorem Fine.bool (b : Bool) : Fine 0 0 (.bool b) := ⟨rfl, rfl, rfl, rfl, Nat.le_refl _, Nat.le_refl _⟩
theorem Fine.str {x : Str} (h1 : (PyData.str x).canLay0 = true) (h2 : x.cps.size ≤ 100) : Fine 0 100 (.str x) := ⟨h1, rfl, rfl, rfl, Nat.le_refl _, h2⟩
theorem Fine.mono {k k' w w' : Nat} {d : PyData} (h : Fine k w d) (hk : k ≤ k') (hw : w ≤ w') : Fine k' w' d := ⟨h.lay, h.shw, h.nod, h.sho, Nat.le_trans h.dep hk, Nat.le_trans h.wei hw⟩
theorem fine_all {k w : Nat} : ∀ {xs : List PyData}, (∀ x ∈ xs, Fine k w x) → PyData.canLayAll0 xs = true ∧ PyData.showableAll xs = true ∧ PyData.hasDictAll xs = false ∧ PyData.intsShortAll 13 xs = true ∧ PyData.depthAll xs ≤ k ∧ PyData.weightAll xs ≤ xs.length * (w + 1)
  | [], _ => by simp [PyData.canLayAll0, PyData.showableAll, PyData.hasDictAll, PyData.intsShortAll, PyData.depthAll, PyData.weightAll]
  | x :: xs, h => by
    obtain ⟨h1, h2, h3, h4, h5, h6⟩ := fine_all (xs := xs) fun y hy => h y (List.mem_cons_of_mem _ hy)
    obtain ⟨g1, g2, g3, g4, g5, g6⟩ := h x (by simp)
    refine ⟨by rw [PyData.canLayAll0, g1, h1]; rfl, by rw [PyData.showableAll, g2, h2]; rfl, by rw [PyData.hasDictAll, g3, h3]; rfl, by rw [PyData.intsShortAll, g4, h4]; rfl, ?_, ?_⟩
    · rw [PyData.depthAll]
      omega
    · rw [PyData.weightAll, List.length_cons, Nat.succ_mul]
      omega
theorem Fine.tup {k w n : Nat} {xs : List PyData} (h : ∀ x ∈ xs, Fine k w x) (hn : xs.length ≤ n) : Fine (k + 1) (n * (w + 1)) (.tuple xs) := by
  obtain ⟨h1, h2, h3, h4, h5, h6⟩ := fine_all h
  refine ⟨by rw [PyData.canLay0]; exact h1, by rw [PyData.showable]; exact h2, by rw [PyData.hasDict]; exact h3, by rw [PyData.intsShort]; exact h4, by rw [PyData.depth]; omega, ?_⟩
  rw [PyData.weight]
  exact Nat.le_trans h6 (Nat.mul_le_mul_right _ hn)
theorem Fine.len {k w : Nat} {d : PyData} (h : Fine k w d) (hk : k ≤ 60) (hw : w ≤ 1000000) : d.shown.length ≤ sizeLine := by
  have hl : PyData.layable0 d = true := by
    unfold PyData.layable0
    rw [h.lay, decide_eq_true (show d.depth ≤ 64 by have := h.dep; omega), decide_eq_true (show d.weight ≤ 2 ^ 20 by have := h.wei; omega)]
    rfl
  have := PyProof.Rows.shown_le13 hl h.sho
  rw [sizeLine_eq]
  omega
def tieD (t : Tie) : PyData := .tuple [.int t.one, .int t.other, .str (kindS t.foe)]
def webD (n : Int) (ts : List Tie) : PyData := .tuple [.int n, .tuple (ts.map tieD)]
theorem kind_ok (b : Bool) : (PyData.str (kindS b)).canLay0 = true ∧ (kindS b).cps.size ≤ 100 := by cases b <;> decide +kernel
theorem Fine.tie {n : Int} {t : Tie} (h : TieOk n t) (hn : n ≤ 40) : Fine 1 303 (tieD t) := by
  obtain ⟨h1, h2, h3, h4, _⟩ := h
  refine (Fine.tup (k := 0) (w := 100) (n := 3) (fun x hx => ?_) (Nat.le_refl _)).mono (Nat.le_refl _) (by decide)
  simp only [List.mem_cons, List.not_mem_nil, or_false] at hx
  rcases hx with rfl | rfl | rfl
  · exact (Fine.int (by omega) (by omega)).mono (Nat.le_refl _) (by decide)
  · exact (Fine.int (by omega) (by omega)).mono (Nat.le_refl _) (by decide)
  · exact Fine.str (kind_ok _).1 (kind_ok _).2
theorem Fine.web {n : Int} {ts : List Tie} (h : WebOk n ts) : Fine 3 80000 (webD n ts) := by
  have h1 := h.lo
  have h2 := h.hi
  have ft : Fine 2 36480 (.tuple (ts.map tieD)) := (Fine.tup (k := 1) (w := 303) (n := 120) (fun x hx => by
    obtain ⟨t, ht, rfl⟩ := List.mem_map.mp hx
    exact Fine.tie (h.ok t ht) h2) (by rw [List.length_map]; exact h.few)).mono (Nat.le_refl _) (by decide)
  refine (Fine.tup (k := 2) (w := 36480) (n := 2) (fun x hx => ?_) (Nat.le_refl _)).mono (Nat.le_refl _) (by decide)
  simp only [List.mem_cons, List.not_mem_nil, or_false] at hx
  rcases hx with rfl | rfl
  · exact (Fine.int (by omega) (by omega)).mono (by decide) (by decide)
  · exact ft
theorem Fine.intsD {xs : List Int} (h : ∀ x ∈ xs, 0 ≤ x ∧ x < 1000) (hl : xs.length ≤ 200) : Fine 1 2200 (intsD xs) :=
  (Fine.tup (k := 0) (w := 10) (n := 200) (fun x hx => by
    obtain ⟨i, hi, rfl⟩ := List.mem_map.mp hx
    have := h i hi
    exact Fine.int (by omega) (by omega)) (by rw [List.length_map]; exact hl)).mono (Nat.le_refl _) (by decide)
theorem dp_ties {K : PySem.W.Frag} {H : Hp} : ∀ {vs : List V} {ts : List Tie}, Paired (TieV H) vs ts → DpAll K H vs (ts.map tieD)
  | _, _, .nil => .nil
  | _, _, .cons r t => by
    obtain ⟨a, rfl, e⟩ := r
    exact .cons (.tup (SqT.of e) (.cons (.int _) (.cons (.int _) (.cons (.str _) .nil)))) (dp_ties t)
theorem WebAt.dp {K : PySem.W.Frag} {H : Hp} {v : V} {n : Int} {ts : List Tie} (h : WebAt H v n ts) : Dp K H v (webD n ts) := by
  obtain ⟨a, b, vs, rfl, h1, h2, h3⟩ := h
  exact .tup (SqT.of h1) (.cons (.int _) (.cons (.tup (SqT.of h2) (dp_ties h3)) .nil))
/-! ### drawn places -/
theorem flat_ints (xs : List Int) : (xs.map V.int).all flatV = true := by
  rw [List.all_map, List.all_eq_true]
  intro x _
  rfl
theorem in_ints (ps : List Int) (i : Int) : inV (.int i) (ps.map V.int) = inP ps i := by
  rw [Bool.eq_iff_iff]
  unfold inV inP
  rw [List.any_map, List.any_eq_true, decide_eq_true_iff]
  constructor
  · rintro ⟨x, hx, e⟩
    have e' : (x == i) = true := e
    rw [beq_iff_eq] at e'
    subst e'
    exact hx
  · intro h
    exact ⟨i, h, by show (i == i) = true; simp⟩
theorem rgV_rng (m : Int) : rgV 0 m = (rng m.toNat).map V.int := by
  unfold rgV rng
  rw [List.map_map]
  have e : (m - 0).toNat = m.toNat := by omega
  rw [e]
  refine List.map_congr_left fun i _ => ?_
  show V.int (0 + (i : Nat)) = V.int (i : Nat)
  rw [Int.zero_add]
theorem rising_nodup {xs : List Int} (h : xs.Pairwise (· < ·)) : xs.Nodup := h.imp fun h => by omega
theorem filter_rng_succ (p : Int → Bool) (i : Nat) : ((rng (i + 1)).filter p).map V.int = ((rng i).filter p).map V.int ++ (if p i = true then [V.int i] else []) := by
  rw [rng_succ, List.filter_append, List.map_append, List.filter_cons]
  by_cases h : p i = true
  · rw [if_pos h, if_pos h]
    rfl
  · rw [if_neg h, if_neg h]
    rfl
theorem filter_rng_len (p : Int → Bool) (i : Nat) : ((rng i).filter p).length ≤ i := by
  have := List.length_filter_le p (rng i)
  rw [rng_length] at this
  exact this
def spPlaces : Sp := fun vs H Q _ => ∃ (d : Addr) (b : Nat) (n : Int), vs = [.ref d, .int n] ∧ Well H d b ∧ b < 2 ^ 50 ∧ 1 ≤ n ∧ n ≤ 40 ∧
  ∀ (p : Addr) (ps : List Int) (H' : Hp), NoD H' p (ps.map V.int) → ps.Pairwise (· < ·) → (∀ x ∈ ps, 0 ≤ x ∧ x < n) → ps.length ≤ 40 → Well H' d (b + 100) → Kp d d H H' → Q (.ref p) H'
section
variable {P : Program} {w : World} {K : PySem.W.Frag} {mg : Str → Option Value} {base : Heap}
theorem ok_l_places {f : Addr} {fd : FuncData} (F : Fun K "_law_places" "_law_places" s_l_places f fd) (M : Free mg) (Dd : Df P w K mg base 1 "_law_draw" ["_law_well_here", "_law_most"] spDraw) : FnOk P w K mg base CX0 2 f fd ["_law_well_here", "_law_many"] spPlaces := by
  obtain ⟨fD, fdD, GD, gD, kD, bD⟩ := Dd
  refine F.ok sc_l_places (fun vs H Q E h => ?_) (fun cdv A outer s H vs Q E hr h => ?_)
  · obtain ⟨d, b, n, rfl, _⟩ := h
    rfl
  · obtain ⟨d, b, n, rfl, hD, hB, hn1, hn2, q⟩ := h
    obtain ⟨k, rfl⟩ : ∃ k : Nat, n = k := ⟨n.toNat, by omega⟩
    refine ⟨_, (pss_cons (ps_set (i := 2) sc_l_places.nd rfl (.inl rfl) (pe_call GD hr (by rfl) gD kD bD .nil pass0 (pa_cons (pv 0) (pa_cons pe_int pa_nil))))
      (pss_cons (ps_if (pt_cmpR op_lt (pv 2) pe_int (nomark _))
        (pss_one (ps_ret (pe_tupRgZ rfl (by rfl) M.tuple (prg_1 (by rfl) M.range (pe_op op_mul (pv 1) (pv 2))))))
        pss_nil)
      (pss_one (ps_ret (pe_callTy call_tuple_ofZ (by rfl) M.tuple (by decide +kernel) (pa_cons (pe_lc (own := [("_law_place", 3)]) (g := gName 3) (te := tVar 3) rfl sc_l_places.nd (pi_range1 (by rfl) M.range (pa_cons (pv 1) pa_nil)) (blkOk_by (N := N_l_places) (sc := defScope s_l_places) (own := [("_law_place", 3)]) (by decide +kernel)) (fun _ _ _ _ _ => (pg_name (i := 3) sc_l_places.nd rfl (.inl rfl))) (fun _ _ _ _ _ => (pts_one (pt_cmpR op_eq (pe_call GD hr (by rfl) gD kD bD .nil pass0 (pa_cons (pv 0) (pa_cons pe_int pa_nil))) pe_int (nomark _)))) (fun _ _ _ _ _ => (pv 3))) pa_nil)))))), ?_⟩
    refine ⟨.ref d, rfl, d, b, 8, rfl, hD, by omega, by decide, by decide, fun v H1 a1 b1 D1 K1 => ?_⟩
    refine ⟨.int v, rfl, v, 2, rfl, rfl, _, rfl, ite2 (fun e => ?_) (fun e => ?_)⟩
    · have hv := of_decide_eq_true e
      have hm : 0 ≤ (k : Int) * v ∧ (k : Int) * v ≤ k := by
        have h01 : v = 0 ∨ v = 1 := by omega
        rcases h01 with e | e <;> subst e <;> omega
      refine ⟨.int k, rfl, .int v, rfl, k, v, rfl, rfl, .inl ⟨by omega, by omega⟩, _, rfl, RgOk.of_le (by omega) (by omega) (by omega) (by omega), fun r o od nr => ?_⟩
      refine q r (rng ((k : Int) * v).toNat) _ ⟨o, od, by rw [upd_same, rgV_rng]⟩ (rng_rising _) (fun x hx => ?_) (by rw [rng_length]; omega) ((D1.new nr).mono (by omega)) (K1.trans (Kp.new nr))
      have := mem_rng.mp hx
      omega
    · refine ⟨.int k, rfl, k, rfl, by omega, by omega, fun Z nZ => ?_⟩
      rw [Int.toNat_natCast]
      have hZd := D1.ned nZ
      have nZ0 := K1.free nZ hZd hZd
      refine lc_range (lo := 0) (n := k) (fun i H' => ∃ ps : List Int, H' Z = some (.lst (ps.map V.int)) ∧ ps.length ≤ i ∧ ps.Pairwise (· < ·) ∧ (∀ x ∈ ps, 0 ≤ x ∧ x < i) ∧ Well H' d (b + 1 + i) ∧ Kp d d H H') ⟨[], upd_same, Nat.le_refl _, .nil, fun x hx => by simp at hx, D1.new nZ, K1.trans (Kp.new nZ)⟩ ?_ ?_
      · rintro i H2 hi ⟨ps, h2, l2, r2, o2, D2, K2⟩
        refine ⟨rfl, .ref d, rfl, d, _, 2, rfl, D2, by omega, by decide, by decide, fun y H3 a3 b3 D3 K3 => ⟨rfl, _, rfl, ?_⟩⟩
        have h3 := K3 _ _ hZd hZd h2
        refine ite2 (fun _ => ?_) (fun _ => ?_)
        · rw [show (0 : Int) + (i : Nat) = i from by omega]
          refine ⟨.int i, rfl, _, h3, by rw [List.length_map]; exact small1000 (by omega), ps ++ [(i : Int)], by rw [upd_same, List.map_append]; rfl, by rw [List.length_append]; show ps.length + 1 ≤ i + 1; omega, ?_, fun x hx => ?_, (D3.mut hZd).mono (by omega), (K2.trans K3).mut nZ0⟩
          · rw [List.pairwise_append]
            refine ⟨r2, by simp, fun x hx y hy => ?_⟩
            rw [List.mem_singleton.mp hy]
            exact (o2 x hx).2
          · rcases List.mem_append.mp hx with h | h
            · have := o2 x h
              omega
            · rw [List.mem_singleton.mp h]
              omega
        · exact ⟨ps, h3, by omega, r2, fun x hx => by have := o2 x hx; omega, D3.mono (by omega), K2.trans K3⟩
      · rintro H2 ⟨ps, h2, l2, r2, o2, D2, K2⟩
        refine ⟨Z, _, rfl, SqL.of h2, fun r o od nr => ?_⟩
        exact q r ps _ ⟨o, od, upd_same⟩ r2 o2 (by omega) ((D2.new nr).mono (by omega)) (K2.trans (Kp.new nr))
end
/-! ### stems (mathematics) -/
theorem Rch.mono {ts ts' : List Tie} (h : ∀ t ∈ ts, t ∈ ts') {a b : Int} (r : Rch ts a b) : Rch ts' a b :=
  r.ind (fun x => Rch ts' a x) .refl fun x y k hx ad => by
    obtain ⟨t, ht, e⟩ := ad
    exact hx.trans (Rch.adj (k := k) ⟨t, h t ht, e⟩)
theorem rch_pq {ts : List Tie} {t : Tie} {p q : Int} (h : (p = t.one ∧ q = t.other) ∨ (p = t.other ∧ q = t.one)) : Rch (ts ++ [t]) p q := by
  refine Rch.adj (k := t.foe) ⟨t, List.mem_append_right _ (by simp), rfl, ?_⟩
  rcases h with ⟨h1, h2⟩ | ⟨h1, h2⟩
  · exact .inl ⟨h1.symm, h2.symm⟩
  · exact .inr ⟨h2.symm, h1.symm⟩
theorem rch_snoc {ts : List Tie} {t : Tie} {p q : Int} (h : (p = t.one ∧ q = t.other) ∨ (p = t.other ∧ q = t.one)) {a b : Int} : Rch (ts ++ [t]) a b ↔ Rch ts a b ∨ (Rch ts a p ∧ Rch ts q b) ∨ (Rch ts a q ∧ Rch ts p b) := by
  have up : ∀ {x y : Int}, Rch ts x y → Rch (ts ++ [t]) x y := fun r => r.mono fun t ht => List.mem_append_left _ ht
  constructor
  · intro r
    refine r.ind (fun x => Rch ts a x ∨ (Rch ts a p ∧ Rch ts q x) ∨ (Rch ts a q ∧ Rch ts p x)) (.inl .refl) fun x y k hx ad => ?_
    obtain ⟨t', ht, e1, e2⟩ := ad
    rcases List.mem_append.mp ht with ht | ht
    · have st : Rch ts x y := Rch.adj (k := k) ⟨t', ht, e1, e2⟩
      rcases hx with h1 | ⟨h1, h2⟩ | ⟨h1, h2⟩
      · exact .inl (h1.trans st)
      · exact .inr (.inl ⟨h1, h2.trans st⟩)
      · exact .inr (.inr ⟨h1, h2.trans st⟩)
    · rw [List.mem_singleton] at ht
      subst ht
      have xy : (x = p ∧ y = q) ∨ (x = q ∧ y = p) := by
        rcases e2 with ⟨e2, e3⟩ | ⟨e2, e3⟩ <;> rcases h with ⟨h1, h2⟩ | ⟨h1, h2⟩
        · exact .inl ⟨by omega, by omega⟩
        · exact .inr ⟨by omega, by omega⟩
        · exact .inr ⟨by omega, by omega⟩
        · exact .inl ⟨by omega, by omega⟩
      rcases xy with ⟨rfl, rfl⟩ | ⟨rfl, rfl⟩
      · rcases hx with h1 | ⟨h1, h2⟩ | ⟨h1, h2⟩
        · exact .inr (.inl ⟨h1, .refl⟩)
        · exact .inr (.inl ⟨h1, .refl⟩)
        · exact .inl h1
      · rcases hx with h1 | ⟨h1, h2⟩ | ⟨h1, h2⟩
        · exact .inr (.inr ⟨h1, .refl⟩)
        · exact .inl h1
        · exact .inr (.inr ⟨h1, .refl⟩)
  · rintro (h1 | ⟨h1, h2⟩ | ⟨h1, h2⟩)
    · exact up h1
    · exact (up h1).trans ((rch_pq h).trans (up h2))
    · exact (up h1).trans ((rch_pq h).symm.trans (up h2))
theorem rch_nil {a b : Int} (h : Rch [] a b) : a = b := h.ind (fun x => a = x) rfl fun x y k _ ad => by
  obtain ⟨t, ht, _⟩ := ad
  simp at ht
def tieN (ts : List Tie) (k : Nat) : Tie := ts.getD k ⟨0, 0, false⟩
theorem tieN_of {ts : List Tie} {k : Nat} {t : Tie} (h : ts[k]? = some t) : tieN ts k = t := by
  unfold tieN
  rw [List.getD_eq_getElem?_getD, h]
  rfl
open Classical in
noncomputable def stemB (ts : List Tie) (k : Nat) : Bool := decide (¬ Rch (ts.take k) (tieN ts k).one (tieN ts k).other)
noncomputable def stemsTo (ts : List Tie) (k : Nat) : List Int := (rng k).filter fun i => stemB ts i.toNat
theorem stemsTo_succ (ts : List Tie) (k : Nat) : stemsTo ts (k + 1) = stemsTo ts k ++ (if stemB ts k = true then [(k : Int)] else []) := by
  unfold stemsTo
  rw [rng_succ, List.filter_append, List.filter_cons, Int.toNat_natCast]
  rfl
theorem stemsTo_len (ts : List Tie) (k : Nat) : (stemsTo ts k).length ≤ k := by
  unfold stemsTo
  have := List.length_filter_le (fun i => stemB ts i.toNat) (rng k)
  rw [rng_length] at this
  exact this
open Classical in
theorem stem_iff {ts : List Tie} {k : Nat} {t : Tie} (h : ts[k]? = some t) : stemB ts k = true ↔ ¬ Rch (ts.take k) t.one t.other := by
  unfold stemB
  rw [tieN_of h]
  exact decide_eq_true_iff
theorem take_snoc {α : Type} {ts : List α} {k : Nat} {t : α} (h : ts[k]? = some t) : ts.take (k + 1) = ts.take k ++ [t] := by
  rw [List.take_add_one, h]
  rfl
/-- labels: alike just where ties lead -/
def Lab (ts : List Tie) (n : Nat) (g : Int → Int) : Prop := ∀ i j : Int, 0 ≤ i → i < n → 0 ≤ j → j < n → (g i = g j ↔ Rch ts i j)
def mrg (g : Int → Int) (old new : Int) : Int → Int := fun x => if g x = old then new else g x
theorem lab_nil (n : Nat) : Lab [] n (fun i => i) := fun i j _ _ _ _ => ⟨fun h => by rw [show i = j from h]; exact .refl, fun h => rch_nil h⟩
theorem lab_same {ts : List Tie} {n : Nat} {g : Int → Int} {t : Tie} (h : Lab ts n g) (ok : TieOk n t) (e : g t.one = g t.other) : Lab (ts ++ [t]) n g := fun i j i0 i1 j0 j1 => by
  obtain ⟨o1, o2, o3, o4, _⟩ := ok
  have r : Rch ts t.one t.other := (h _ _ o1 o2 o3 o4).mp e
  rw [rch_snoc (.inl ⟨rfl, rfl⟩), h i j i0 i1 j0 j1]
  constructor
  · exact .inl
  · rintro (h1 | ⟨h1, h2⟩ | ⟨h1, h2⟩)
    · exact h1
    · exact h1.trans (r.trans h2)
    · exact h1.trans (r.symm.trans h2)
theorem lab_step {ts : List Tie} {n : Nat} {g : Int → Int} {t : Tie} {p q : Int} (h : Lab ts n g) (ok : TieOk n t) (e : (p = t.one ∧ q = t.other) ∨ (p = t.other ∧ q = t.one)) : Lab (ts ++ [t]) n (mrg g (g p) (g q)) := fun i j i0 i1 j0 j1 => by
  have pr : (0 ≤ p ∧ p < n) ∧ (0 ≤ q ∧ q < n) := by
    obtain ⟨o1, o2, o3, o4, _⟩ := ok
    rcases e with ⟨rfl, rfl⟩ | ⟨rfl, rfl⟩
    · exact ⟨⟨o1, o2⟩, o3, o4⟩
    · exact ⟨⟨o3, o4⟩, o1, o2⟩
  obtain ⟨⟨p0, p1⟩, q0, q1⟩ := pr
  rw [rch_snoc e]
  unfold mrg
  have ip := h i p i0 i1 p0 p1
  have jp := h j p j0 j1 p0 p1
  have iq := h i q i0 i1 q0 q1
  have jq := h j q j0 j1 q0 q1
  have ij := h i j i0 i1 j0 j1
  by_cases hi : g i = g p <;> by_cases hj : g j = g p
  · rw [if_pos hi, if_pos hj]
    exact ⟨fun _ => .inl (ij.mp (hi.trans hj.symm)), fun _ => rfl⟩
  · rw [if_pos hi, if_neg hj]
    constructor
    · intro z
      exact .inr (.inl ⟨ip.mp hi, (jq.mp z.symm).symm⟩)
    · rintro (z | ⟨_, z⟩ | ⟨_, z⟩)
      · exact absurd ((ij.mpr z).symm.trans hi) hj
      · exact (jq.mpr z.symm).symm
      · exact absurd (jp.mpr z.symm) hj
  · rw [if_neg hi, if_pos hj]
    constructor
    · intro z
      exact .inr (.inr ⟨iq.mp z, (jp.mp hj).symm⟩)
    · rintro (z | ⟨z, _⟩ | ⟨z, _⟩)
      · exact absurd ((ij.mpr z).trans hj) hi
      · exact absurd (ip.mpr z) hi
      · exact iq.mpr z
  · rw [if_neg hi, if_neg hj]
    constructor
    · intro z
      exact .inl (ij.mp z)
    · rintro (z | ⟨z, _⟩ | ⟨_, z⟩)
      · exact ij.mpr z
      · exact absurd (ip.mpr z) hi
      · exact absurd (jp.mpr z.symm) hj
/-- heads: labels that are places of their own; how many -/
structure Heads (ts : List Tie) (n i : Nat) (g : Int → Int) : Prop where
  lab : Lab (ts.take i) n g
  rng : ∀ x : Int, 0 ≤ x → x < n → 0 ≤ g x ∧ g x < n
  idem : ∀ x : Int, 0 ≤ x → x < n → g (g x) = g x
  cnt : ((FF.rng n).filter fun x => decide (g x = x)).length + (stemsTo ts i).length = n
theorem heads_nil (ts : List Tie) (n : Nat) : Heads ts n 0 (fun i => i) := by
  refine ⟨by rw [List.take_zero]; exact lab_nil n, fun x h0 h1 => ⟨h0, h1⟩, fun x _ _ => rfl, ?_⟩
  have e : ((FF.rng n).filter fun x => decide (x = x)) = FF.rng n := by
    rw [List.filter_eq_self]
    intro x _
    exact decide_eq_true rfl
  show ((FF.rng n).filter fun x => decide (x = x)).length + 0 = n
  rw [e, rng_length, Nat.add_zero]
theorem filter_drop {p q : Int → Bool} {h : Int} : ∀ {l : List Int}, l.Nodup → h ∈ l → p h = true → (∀ x ∈ l, q x = (p x && decide (x ≠ h))) → (l.filter q).length + 1 = (l.filter p).length
  | x :: l, nd, hm, hp, hq => by
    rw [List.nodup_cons] at nd
    have hx := hq x (by simp)
    rw [List.filter_cons, List.filter_cons, hx]
    by_cases e : x = h
    · subst e
      have same : l.filter q = l.filter p := List.filter_congr fun y hy => by
        rw [hq y (List.mem_cons_of_mem _ hy), decide_eq_true (show y ≠ x from fun z => nd.1 (by rw [← z]; exact hy)), Bool.and_true]
      rw [same, hp]
      simp
    · have hm' : h ∈ l := (List.mem_cons.mp hm).elim (fun z => absurd z.symm e) id
      have ih := filter_drop (l := l) nd.2 hm' hp fun y hy => hq y (List.mem_cons_of_mem _ hy)
      rw [decide_eq_true (show x ≠ h from e), Bool.and_true]
      cases p x
      · simpa using ih
      · simp
        omega
theorem heads_same {ts : List Tie} {n i : Nat} {g : Int → Int} {t : Tie} (h : Heads ts n i g) (et : ts[i]? = some t) (ok : TieOk n t) (e : g t.one = g t.other) : Heads ts n (i + 1) g := by
  refine ⟨by rw [take_snoc et]; exact lab_same h.lab ok e, h.rng, h.idem, ?_⟩
  have no : ¬ stemB ts i = true := fun z => (stem_iff et).mp z ((h.lab _ _ ok.1 ok.2.1 ok.2.2.1 ok.2.2.2.1).mp e)
  rw [stemsTo_succ, if_neg no, List.append_nil]
  exact h.cnt
theorem heads_step {ts : List Tie} {n i : Nat} {g : Int → Int} {t : Tie} {p q : Int} (h : Heads ts n i g) (et : ts[i]? = some t) (ok : TieOk n t) (e : (p = t.one ∧ q = t.other) ∨ (p = t.other ∧ q = t.one)) (ne : g p ≠ g q) : Heads ts n (i + 1) (mrg g (g p) (g q)) := by
  have pr : (0 ≤ p ∧ p < n) ∧ (0 ≤ q ∧ q < n) := by
    obtain ⟨o1, o2, o3, o4, _⟩ := ok
    rcases e with ⟨rfl, rfl⟩ | ⟨rfl, rfl⟩
    · exact ⟨⟨o1, o2⟩, o3, o4⟩
    · exact ⟨⟨o3, o4⟩, o1, o2⟩
  obtain ⟨⟨p0, p1⟩, q0, q1⟩ := pr
  have gp := h.rng p p0 p1
  have gq := h.rng q q0 q1
  have ip := h.idem p p0 p1
  have iq := h.idem q q0 q1
  refine ⟨by rw [take_snoc et]; exact lab_step h.lab ok e, fun x x0 x1 => ?_, fun x x0 x1 => ?_, ?_⟩
  · unfold mrg
    split
    · exact gq
    · exact h.rng x x0 x1
  · have ix := h.idem x x0 x1
    by_cases hx : g x = g p
    · have e1 : mrg g (g p) (g q) x = g q := if_pos hx
      rw [e1]
      show (if g (g q) = g p then g q else g (g q)) = g q
      rw [iq, if_neg (Ne.symm ne)]
    · have e1 : mrg g (g p) (g q) x = g x := if_neg hx
      rw [e1]
      show (if g (g x) = g p then g q else g (g x)) = g x
      rw [ix, if_neg hx]
  · have yes : stemB ts i = true := (stem_iff et).mpr fun z => by
      have hl := (h.lab _ _ ok.1 ok.2.1 ok.2.2.1 ok.2.2.2.1).mpr z
      rcases e with ⟨rfl, rfl⟩ | ⟨rfl, rfl⟩
      · exact ne hl
      · exact ne hl.symm
    have drop := filter_drop (p := fun x => decide (g x = x)) (q := fun x => decide (mrg g (g p) (g q) x = x)) (h := g p) (l := FF.rng n) ((rng_rising n).imp fun h => by omega) (mem_rng.mpr gp) (decide_eq_true ip) (fun x hx => ?_)
    · rw [stemsTo_succ, if_pos yes, List.length_append]
      have := h.cnt
      simp only [List.length_cons, List.length_nil]
      omega
    · have xr := mem_rng.mp hx
      rw [Bool.eq_iff_iff, Bool.and_eq_true, decide_eq_true_iff, decide_eq_true_iff, decide_eq_true_iff]
      show (if g x = g p then g q else g x) = x ↔ _
      by_cases hx : g x = g p
      · rw [if_pos hx]
        constructor
        · intro z
          exact absurd (by rw [← z, iq] at hx; exact hx.symm) ne
        · rintro ⟨z1, z2⟩
          exact absurd (z1.symm.trans hx) z2
      · rw [if_neg hx]
        exact ⟨fun z => ⟨z, fun y => hx (by rw [y]; exact ip)⟩, fun z => z.1⟩
/-- stems are told by the places of the ties alone -/
theorem rch_frames : ∀ {ts us : List Tie}, ts.length = us.length → (∀ (i : Nat) t u, ts[i]? = some t → us[i]? = some u → (u.one = t.one ∧ u.other = t.other) ∨ (u.one = t.other ∧ u.other = t.one)) → ∀ {a b : Int}, Rch ts a b → Rch us a b := by
  intro ts us hl h a b r
  refine r.ind (fun x => Rch us a x) .refl fun x y k hx ad => ?_
  obtain ⟨t, ht, _, e⟩ := ad
  obtain ⟨i, hi, rfl⟩ := List.getElem_of_mem ht
  have hu : us[i]? = some us[i] := List.getElem?_eq_getElem (by omega)
  have w := h i _ _ (List.getElem?_eq_getElem hi) hu
  refine hx.trans (Rch.adj (k := us[i].foe) ⟨us[i], List.getElem_mem _, rfl, ?_⟩)
  rcases w with ⟨w1, w2⟩ | ⟨w1, w2⟩ <;> rcases e with ⟨e1, e2⟩ | ⟨e1, e2⟩
  · exact .inl ⟨by omega, by omega⟩
  · exact .inr ⟨by omega, by omega⟩
  · exact .inr ⟨by omega, by omega⟩
  · exact .inl ⟨by omega, by omega⟩
def Framed (ts us : List Tie) : Prop := ts.length = us.length ∧ ∀ (i : Nat) t u, ts[i]? = some t → us[i]? = some u → (u.one = t.one ∧ u.other = t.other) ∨ (u.one = t.other ∧ u.other = t.one)
theorem Framed.symm {ts us : List Tie} (h : Framed ts us) : Framed us ts := ⟨h.1.symm, fun i u t e1 e2 => by
  rcases h.2 i t u e2 e1 with ⟨w1, w2⟩ | ⟨w1, w2⟩
  · exact .inl ⟨w1.symm, w2.symm⟩
  · exact .inr ⟨w2.symm, w1.symm⟩⟩
theorem Framed.take {ts us : List Tie} (h : Framed ts us) (k : Nat) : Framed (ts.take k) (us.take k) := by
  refine ⟨by rw [List.length_take, List.length_take, h.1], fun i t u e1 e2 => ?_⟩
  by_cases hk : i < k
  · rw [List.getElem?_take_of_lt hk] at e1 e2
    exact h.2 i t u e1 e2
  · rw [List.getElem?_take] at e1
    rw [if_neg hk] at e1
    cases e1
theorem Framed.map {ts : List Tie} {f : Tie → Tie} (h : ∀ t ∈ ts, ((f t).one = t.one ∧ (f t).other = t.other) ∨ ((f t).one = t.other ∧ (f t).other = t.one)) : Framed ts (ts.map f) := by
  refine ⟨by rw [List.length_map], fun i t u e1 e2 => ?_⟩
  rw [List.getElem?_map, e1] at e2
  cases e2
  exact h t (List.mem_of_getElem? e1)
theorem stems_framed {ts us : List Tie} (h : Framed ts us) : stemsTo us us.length = stemsTo ts ts.length := by
  unfold stemsTo
  rw [← h.1]
  refine List.filter_congr fun i hi => ?_
  have ir := mem_rng.mp hi
  have e1 : ts[i.toNat]? = some ts[i.toNat] := List.getElem?_eq_getElem (by omega)
  have l := h.1
  have e2 : us[i.toNat]? = some us[i.toNat] := List.getElem?_eq_getElem (by omega)
  have ht := h.take i.toNat
  rw [Bool.eq_iff_iff, stem_iff e1, stem_iff e2]
  have both : ∀ a b : Int, Rch (ts.take i.toNat) a b ↔ Rch (us.take i.toNat) a b := fun a b => ⟨fun r => rch_frames ht.1 ht.2 r, fun r => rch_frames ht.symm.1 ht.symm.2 r⟩
  rcases h.2 _ _ _ e1 e2 with ⟨w1, w2⟩ | ⟨w1, w2⟩
  · rw [w1, w2, both]
  · rw [w1, w2, both]
    exact ⟨fun z y => z y.symm, fun z y => z y.symm⟩
theorem stemsTo_rising (ts : List Tie) (k : Nat) : (stemsTo ts k).Pairwise (· < ·) := (rng_rising k).filter _
theorem stemsTo_mem {ts : List Tie} {k : Nat} {i : Int} : i ∈ stemsTo ts k ↔ (0 ≤ i ∧ i < k) ∧ stemB ts i.toNat = true := by
  unfold stemsTo
  rw [List.mem_filter, mem_rng]
theorem stems_own (ts : List Tie) : stemsTo ((stemsTo ts ts.length).map fun i => tieN ts i.toNat) (stemsTo ts ts.length).length = rng (stemsTo ts ts.length).length := by
  generalize hS : stemsTo ts ts.length = S
  unfold stemsTo
  rw [List.filter_eq_self]
  intro j hj
  have jr := mem_rng.mp hj
  have hjl : j.toNat < S.length := by omega
  have ej : (S.map fun i => tieN ts i.toNat)[j.toNat]? = some (tieN ts S[j.toNat].toNat) := by
    rw [List.getElem?_map, List.getElem?_eq_getElem hjl]
    rfl
  have hm : S[j.toNat] ∈ stemsTo ts ts.length := by rw [hS]; exact List.getElem_mem _
  obtain ⟨⟨m0, m1⟩, mb⟩ := stemsTo_mem.mp hm
  have et : ts[S[j.toNat].toNat]? = some (tieN ts S[j.toNat].toNat) := by
    have h : S[j.toNat].toNat < ts.length := by omega
    rw [List.getElem?_eq_getElem h, tieN_of (List.getElem?_eq_getElem h)]
  rw [stem_iff ej]
  rw [stem_iff et] at mb
  refine fun r => mb (r.mono fun t ht => ?_)
  rw [← List.map_take, List.mem_map] at ht
  obtain ⟨x, hx, rfl⟩ := ht
  obtain ⟨a, ha, rfl⟩ := List.getElem_of_mem hx
  rw [List.length_take] at ha
  rw [List.getElem_take]
  have hx' : S[a] ∈ stemsTo ts ts.length := by rw [hS]; exact List.getElem_mem _
  obtain ⟨⟨x0, x1⟩, _⟩ := stemsTo_mem.mp hx'
  have rise : S.Pairwise (· < ·) := by rw [← hS]; exact stemsTo_rising _ _
  have lt : S[a] < S[j.toNat] := List.pairwise_iff_getElem.mp rise a j.toNat (by omega) hjl (by omega)
  have h : S[a].toNat < ts.length := by omega
  rw [tieN_of (List.getElem?_eq_getElem h)]
  rw [List.mem_iff_getElem]
  exact ⟨S[a].toNat, by rw [List.length_take]; omega, by rw [List.getElem_take]⟩
/-! ### enumerate of a tuple -/
set_option maxHeartbeats 1000000 in
theorem meets_enumOne {v : Value} {o : Obj} {S : Heap → Prop} (B : Begins v o S) : Meets (Builtin.«enumerate.__new__» ⟨[.type "enumerate", v], []⟩) (fun _ R s => S s.heap ∧
      R (.ok (.ret (.ref (s.heap.push o).objs.size))) { s with heap := (s.heap.push o).push { cls := .type "enumerate", data := .fields #[.none, .bool false, .ref s.heap.objs.size, rawInt 0, .none, .none] } }) :=
  .of_wp fun prog w A R s h => by
    obtain ⟨hp, g, d, tk, os⟩ := s
    obtain ⟨h1, h⟩ := h
    have sub0 := sub_enumerate
    have begun : ∀ {A' : PySem.Around} {E : Value → Shared → Prop} {Q : Value → Shared → Prop}, Q (.ref hp.objs.size) ⟨hp.push o, g, d, tk, os⟩ → wpAny (model prog w) A' (pyIter v) Q E ⟨hp, g, d, tk, os⟩ := fun q => B.iter prog w _ _ ⟨hp, g, d, tk, os⟩ _ h1 q
    wp_walk using begun
    refine wpAny_stack_any fun st => wpAny_pure ?_
    split
    · rename_i c _ _ _ _ _
      cases (c == Value.type "enumerate")
      all_goals
        wp_walk using begun
        exact ⟨_, rfl, h⟩
    · wp_walk using begun
      exact ⟨_, rfl, h⟩
theorem call_enumT {P : Program} {w : World} {A : PySem.Around} {E : Value → Shared → Prop} {s : Shared} {t : Addr} {items : Array Value} {Q : Value → Shared → Prop} (ht : s.heap.IsTuple t items)
    (h : ∀ h', IsEnum h' (s.heap.objs.size + 1) s.heap.objs.size 0 .none → h'.IsTupleIter s.heap.objs.size t 0 → (∀ b o, s.heap.get? b = some o → h'.get? b = some o) → Q (.ref (s.heap.objs.size + 1)) { s with heap := h' }) : wpAny (model P w) A (call (.type "enumerate") [.ref t]) Q E s := by
  refine callType_new PySem.F.called_enumerate (by decide) (PySem.F.typeCall_enumerate_1 _) (PySem.F.newCall_enumerate_1 _) (fun ob => PySem.F.args_object_init_2 ob _) PySem.F.entry_enumerate_new (meets_enumOne (begins_tuple t items)) ⟨ht, ?_⟩
  have size1 := Heap.size_push s.heap { cls := .type "tuple_iterator", data := .fields #[.ref t, .int 0 0] }
  have en := Heap.get?_push_size (s.heap.push { cls := .type "tuple_iterator", data := .fields #[.ref t, .int 0 0] }) (o := { cls := .type "enumerate", data := .fields #[.none, .bool false, .ref s.heap.objs.size, rawInt 0, .none, .none] }) rfl
  rw [size1] at en
  show _ ∧ _
  rw [size1]
  exact ⟨⟨_, en, rfl⟩, h _ en ⟨_, Heap.get?_push_of_some _ (Heap.get?_push_size _ rfl), rfl, rfl⟩ fun b o e => Heap.get?_push_of_some _ (Heap.get?_push_of_some _ e)⟩
/-- the turns: a new pair each, of the number and the part -/
def ItN (K : PySem.W.Frag) (a : Addr) : It where
  go := fun i H => ∃ (xs : List V) (x : V), SqT K H a xs ∧ xs[i]? = some x
  yld := fun i H v H' => ∃ T x, v = .ref T ∧ H T = none ∧ H' = upd H T (.tup [.int (i : Nat), x]) ∧ ∀ xs, SqT K H a xs → xs[i]? = some x
  stop := fun i H => ∃ xs : List V, SqT K H a xs ∧ xs.length ≤ i
theorem turn_enumT {P : Program} {w : World} {K : PySem.W.Frag} {elts : List Expr} {kk : Nat} {tpos : Pos} (a e it : Addr) (n1 : e ≠ it) (n2 : a ≠ it) (n3 : e ≠ a) :
    Turn P w K (.Tuple elts kk tpos) (ItN K a) [e, it] e (fun i h => (∃ old, IsEnum h e it ((i : Nat) : Int) old) ∧ h.IsTupleIter it a i) where
  mem := List.mem_cons_self
  obj := by
    rintro i h ⟨⟨old, he⟩, o, ho, hc, hd⟩ b hb
    rcases List.mem_cons.mp hb with rfl | hb
    · exact ⟨_, he, fun v q => nomatch q⟩
    · rw [List.mem_singleton.mp hb]
      exact ⟨o, ho, fun v q => by rw [hd] at q; cases q⟩
  keep := by
    rintro i h h' ⟨⟨old, he⟩, hit⟩ kp
    exact ⟨⟨old, kp e (by simp) _ he⟩, hit.at fun o q => kp it (by simp) o q⟩
  item := by
    intro X hP hw hK hc i pins s σ H E I hf st hg
    subst hP hw hK
    obtain ⟨⟨old, he⟩, hit⟩ := st
    obtain ⟨xs, x, hq, hx⟩ := hg
    obtain ⟨its, rv, tup, _⟩ := I.tuple hq
    obtain ⟨u, hu, ru⟩ := rv.get hx
    have le := Heap.lt_size he
    have li : it < s.heap.objs.size := let ⟨_, q, _⟩ := hit; Heap.lt_size q
    have lt : i < its.toArray.size := by simpa using (List.getElem?_eq_some_iff.mp hu).1
    refine wpAny_pyNext_enum_itemD (Draws.tuple (A := X.A.in1) (I.ok.hd hc) it a n2 its.toArray) he ⟨hit, tup⟩ lt n1 (by simp [n1, n3]) fun x' h' tk ex out st' new _ kp => ?_
    obtain rfl : u = x' := Option.some.inj (((by simpa using hu) : its.toArray[i]? = some u).symm.trans ex)
    refine ⟨_, rfl, wpAny_letOwnedTupleGo_enum (s := { s with heap := h', toks := tk + 1 }) out fun h2 he2 sb => ?_⟩
    have new2 : h2.get? s.heap.objs.size = some { cls := .type "tuple", data := .seq #[.int i tk, u] } := (sb.2 _ (Nat.ne_of_gt le)).trans new
    have objT : ObjOk X.prog X.w (upd H s.heap.objs.size (.tup [.int (i : Nat), x])) h2 s.heap.objs.size (.tup [.int (i : Nat), x]) := ⟨by show 2 ≤ sizeLine; decide, [.int i tk, u], .cons ⟨_, rfl⟩ (.cons ru .nil), ⟨_, new2, rfl, _, rfl⟩⟩
    have J : Inv X pins σ (upd H s.heap.objs.size (.tup [.int (i : Nat), x])) { s with heap := h2, toks := tk + 1 } := I.turnedNew (ch := [e, it]) (fun b ob hb q => by
      simp only [List.mem_cons, List.not_mem_nil, or_false, not_or] at hb
      exact (sb.2 b hb.1).trans (kp b ob hb.1 hb.2 q)) hf (Nat.le_refl _) objT
    refine ⟨.ref s.heap.objs.size, _, J, rfl, ⟨_, x, rfl, I.hok.fresh (Nat.le_refl _), rfl, fun ys hy => by rw [I.tuple_inj hy hq]; exact hx⟩, ⟨⟨u, ?_⟩, st'.1.at fun o q => (sb.2 it (Ne.symm n1)).trans q⟩, fun b hb => ?_⟩
    · rw [show ((i + 1 : Nat) : Int) = (i : Int) + 1 from by omega]
      exact he2
    · have lb : b < s.heap.objs.size := by
        rcases List.mem_cons.mp hb with rfl | hb
        · exact le
        · rw [List.mem_singleton.mp hb]
          exact li
      rw [upd_ne (Nat.ne_of_lt lb)]
      exact (hf b hb).1
  done := by
    intro X hP hw hK hc i pins s σ H E I hf st hg
    subst hP hw hK
    obtain ⟨⟨old, he⟩, hit⟩ := st
    obtain ⟨xs, hq, hx⟩ := hg
    obtain ⟨its, rv, tup, _⟩ := I.tuple hq
    have hl := rv.length
    obtain ⟨f0, f1, f2, f3, f4, f5⟩ := hf it (by simp)
    have D : Draws X.prog X.w X.A.in1 it [it, a] i (fun _ _ => False) (fun j h => j = i ∧ h.IsTupleIter it a i ∧ h.IsTuple a its.toArray) := {
      live := fun j h z => let ⟨_, ⟨o, q, _⟩, _⟩ := z; ⟨o, q⟩
      frame := fun j h h' z kp => ⟨z.1, z.2.1.at fun o q => kp it (by simp) o q, z.2.2.at fun o q => kp a (by simp) o q⟩
      item := fun j s' Q E' hj z => absurd z.1 (Nat.ne_of_lt hj)
      done := fun s' Q E' z fin => wpAny_nextOf_tuple_end (I.ok.hd hc) z.2.1 z.2.2 (by simp; omega) fin }
    exact wpAny_pyNext_enum_endD D he ⟨rfl, hit, tup⟩ fun h' eb => ⟨rfl, I.turned (t' := s.toks) (fun b o hb q => eb b o hb q) f0 f1 f3 f4 f5⟩
  self := fun A i s Q E st h => let ⟨⟨_, he⟩, _⟩ := st; wpAny_pyIter_enum he h
def iEnT (K : PySem.W.Frag) (ta : TA) : TI := fun σ H R => ta σ H fun vs H1 => ∃ a xs, vs = [.ref a] ∧ SqT K H1 a xs ∧ R (ItN K a) H1
theorem pi_enumT {X : Cx} {e : Expr} {ta : TA} {p pos tpos : Pos} {elts : List Expr} {kk : Nat} (hg : Gl X "enumerate") (hm : X.mg "enumerate" = none) (ha : PA X [e] ta) (hs : starEach [e] X.env = [(false, eval e X.env)] := by rfl) :
    PI X (.Tuple elts kk tpos) (.Call (.Name "enumerate" p) [e] [] pos) (iEnT X.K ta) := by
  refine ⟨fun pins s σ H R I want => Call_ (ld_blt I hg hm boot_enumerate (PyProof.Rows.callWith_type1 (thn (ha.run pos pins s σ H _ I want) fun us s1 got => ?_) hs rfl))⟩
  obtain ⟨vs, H1, J, rel, a, xs, ex, hq, q⟩ := got
  subst ex
  obtain ⟨u, eu, r1⟩ := vals1 rel
  subst eu
  obtain rfl : u = Value.ref a := r1
  obtain ⟨its, rv, tup, _⟩ := J.tuple hq
  have la : a < s1.heap.objs.size := let ⟨_, q, _⟩ := tup; Heap.lt_size q
  refine call_enumT (items := its.toArray) tup fun h' he hit kp => wpAny_pyIter_enum he ?_
  have J2 : Inv X pins σ H1 { s1 with heap := h' } := J.kept (t' := s1.toks) kp
  refine ⟨s1.heap.objs.size + 1, [s1.heap.objs.size + 1, s1.heap.objs.size], _, _, H1, rfl, J2, turn_enumT a (s1.heap.objs.size + 1) s1.heap.objs.size (Nat.succ_ne_self _) (Nat.ne_of_lt la) (Nat.ne_of_gt (Nat.lt_succ_of_lt la)), ⟨⟨.none, he⟩, hit⟩, fun b hb => ?_, q⟩
  have lb : s1.heap.objs.size ≤ b := by
    rcases List.mem_cons.mp hb with rfl | hb
    · exact Nat.le_succ _
    · rw [List.mem_singleton.mp hb]
      exact Nat.le_refl _
  exact J.fpOk lb (J.hok.fresh lb)
theorem walk_enumT {K : PySem.W.Frag} {a : Addr} {xs : List V} : Walk (ItN K a) xs.length (fun H => SqT K H a xs) (YPair (fun i => some (.int (i : Nat))) (fun i => xs[i]?)) :=
  ⟨fun i H hi h => ⟨xs, xs[i], h, List.getElem?_eq_getElem hi⟩, fun H h => ⟨xs, h, Nat.le_refl _⟩, fun i H x H' hi h y => by
    obtain ⟨T, z, e1, e2, e3, e4⟩ := y
    exact ⟨T, _, z, e1, e2, e3, rfl, e4 xs h⟩⟩
/-! ### neighbours, and what a walk has come to (mathematics) -/
abbrev Nb := Int × Bool
def nb1 (t : Tie) (i : Int) : List Nb := (if i = t.one then [(t.other, t.foe)] else []) ++ (if i = t.other then [(t.one, t.foe)] else [])
def nbs (ts : List Tie) (i : Int) : List Nb := ts.flatMap fun t => nb1 t i
theorem nbs_snoc (ts : List Tie) (t : Tie) (i : Int) : nbs (ts ++ [t]) i = nbs ts i ++ nb1 t i := by
  unfold nbs
  rw [List.flatMap_append]
  simp
theorem nb1_len (t : Tie) (i : Int) : (nb1 t i).length ≤ 2 := by
  unfold nb1
  rw [List.length_append]
  split <;> split <;> simp
theorem nbs_len (ts : List Tie) (i : Int) : (nbs ts i).length ≤ 2 * ts.length := by
  induction ts with
  | nil => simp [nbs]
  | cons t ts ih =>
    have h := nb1_len t i
    unfold nbs at ih ⊢
    rw [List.flatMap_cons, List.length_append, List.length_cons]
    omega
theorem mem_nbs {ts : List Tie} {i : Int} {p : Nb} : p ∈ nbs ts i ↔ Adj ts i p.1 p.2 := by
  unfold nbs Adj nb1
  rw [List.mem_flatMap]
  constructor
  · rintro ⟨t, ht, h⟩
    refine ⟨t, ht, ?_⟩
    rcases List.mem_append.mp h with h | h
    · split at h
      · rename_i e
        rw [List.mem_singleton] at h
        subst h
        exact ⟨rfl, .inl ⟨e.symm, rfl⟩⟩
      · simp at h
    · split at h
      · rename_i e
        rw [List.mem_singleton] at h
        subst h
        exact ⟨rfl, .inr ⟨rfl, e.symm⟩⟩
      · simp at h
  · rintro ⟨t, ht, e, h⟩
    refine ⟨t, ht, List.mem_append.mpr ?_⟩
    obtain ⟨p1, p2⟩ := p
    simp only at e h
    rcases h with ⟨h1, h2⟩ | ⟨h1, h2⟩
    · left
      rw [if_pos h1.symm, List.mem_singleton, ← e, ← h2]
    · right
      rw [if_pos h2.symm, List.mem_singleton, ← e, ← h1]
theorem pigeon : ∀ (n : Nat) (xs : List Int), xs.Nodup → (∀ x ∈ xs, 0 ≤ x ∧ x < n) → xs.length ≤ n
  | 0, xs, _, h => by
    cases xs with
    | nil => simp
    | cons x r =>
      have := h x (by simp)
      omega
  | n + 1, xs, nd, h => by
    have q := pigeon n (xs.erase (n : Int)) (nd.erase _) fun x hx => by
      have h1 := h x (List.mem_of_mem_erase hx)
      have h2 : x ≠ n := (List.Nodup.mem_erase_iff nd).mp hx |>.1
      omega
    have l := List.length_erase (a := (n : Int)) (l := xs)
    split at l
    · omega
    · omega
structure SF (ts : List Tie) (s : Int) (ks : List Nb) (wl ex : List Int) : Prop where
  nd : (ks.map (·.1)).Nodup
  rp : ∀ p ∈ ks, RP ts s p.1 p.2
  st : s ∈ ks.map (·.1)
  sub : ∀ x ∈ wl, x ∈ ks.map (·.1)
  le : wl.length ≤ ks.length
  cl : ∀ x ∈ ks.map (·.1), x ∉ wl → x ∉ ex → ∀ y k, Adj ts x y k → y ∈ ks.map (·.1)
theorem SF.keys {ts : List Tie} {s : Int} {ks : List Nb} {wl ex : List Int} (h : SF ts s ks wl ex) {x : Int} (hx : x ∈ ks.map (·.1)) : ∃ b, (x, b) ∈ ks ∧ RP ts s x b := by
  obtain ⟨p, hp, rfl⟩ := List.mem_map.mp hx
  exact ⟨p.2, hp, h.rp p hp⟩
theorem SF.few {ts : List Tie} {n : Nat} {s : Int} {ks : List Nb} {wl ex : List Int} (h : SF ts s ks wl ex) (ok : ∀ t ∈ ts, TieOk n t) (hs : 0 ≤ s ∧ s < n) : ks.length ≤ n := by
  have q := pigeon n (ks.map (·.1)) h.nd fun x hx => by
    obtain ⟨b, _, hb⟩ := h.keys hx
    exact Rch.rng ok hs ⟨b, hb⟩
  rw [List.length_map] at q
  exact q
theorem SF.all {ts : List Tie} {s : Int} {ks : List Nb} (h : SF ts s ks [] []) (z : Int) : z ∈ ks.map (·.1) ↔ Rch ts s z := by
  constructor
  · intro hz
    obtain ⟨b, _, hb⟩ := h.keys hz
    exact ⟨b, hb⟩
  · intro hz
    exact hz.ind (fun x => x ∈ ks.map (·.1)) h.st fun x y k hx ad => h.cl x hx (by simp) (by simp) y k ad
theorem SF.pop {ts : List Tie} {s p : Int} {ks : List Nb} {wl : List Int} (h : SF ts s ks (wl ++ [p]) []) : SF ts s ks wl [p] :=
  ⟨h.nd, h.rp, h.st, fun x hx => h.sub x (List.mem_append_left _ hx), by have := h.le; rw [List.length_append] at this; omega, fun x hx h1 h2 => h.cl x hx (fun z => by
    rcases List.mem_append.mp z with z | z
    · exact h1 z
    · exact h2 z) (by simp)⟩
theorem SF.push {ts : List Tie} {s p y : Int} {b f : Bool} {ks : List Nb} {wl : List Int} (h : SF ts s ks wl [p]) (hp : RP ts s p b) (ad : Adj ts p y f) (hy : y ∉ ks.map (·.1)) : SF ts s (ks ++ [(y, b ^^ f)]) (wl ++ [y]) [p] := by
  have em : (ks ++ [(y, b ^^ f)]).map (·.1) = ks.map (·.1) ++ [y] := by rw [List.map_append]; rfl
  refine ⟨?_, fun q hq => ?_, ?_, fun x hx => ?_, ?_, fun x hx h1 h2 z k hz => ?_⟩
  · rw [em, List.nodup_append]
    refine ⟨h.nd, by simp, fun x hx z hz e => ?_⟩
    rw [List.mem_singleton] at hz
    subst hz
    subst e
    exact hy hx
  · rcases List.mem_append.mp hq with q1 | q1
    · exact h.rp q q1
    · rw [List.mem_singleton] at q1
      subst q1
      exact hp.step ad
  · rw [em]
    exact List.mem_append_left _ h.st
  · rw [em]
    rcases List.mem_append.mp hx with q1 | q1
    · exact List.mem_append_left _ (h.sub x q1)
    · exact List.mem_append_right _ q1
  · rw [List.length_append, List.length_append]
    have := h.le
    simp
    omega
  · rw [em] at hx ⊢
    rcases List.mem_append.mp hx with q1 | q1
    · exact List.mem_append_left _ (h.cl x q1 (fun q2 => h1 (List.mem_append_left _ q2)) h2 z k hz)
    · exact absurd (List.mem_append_right _ q1) h1
theorem SF.done {ts : List Tie} {s p : Int} {ks : List Nb} {wl : List Int} (h : SF ts s ks wl [p]) (hp : ∀ q ∈ nbs ts p, q.1 ∈ ks.map (·.1)) : SF ts s ks wl [] :=
  ⟨h.nd, h.rp, h.st, h.sub, h.le, fun x hx h1 _ y k ad => by
    by_cases e : x = p
    · subst e
      exact hp (y, k) (mem_nbs.mpr ad)
    · exact h.cl x hx h1 (fun z => e (List.mem_singleton.mp z)) y k ad⟩
theorem room1 {k : Nat} {A : PySem.Around} (r : Room k A) : A.units + 1 < cLine := by have := r.un; omega
/-! ### the law: the least place that each comes to -/
def lf (f : Int → Int) (n : Nat) : List V := (rng n).map fun i => V.int (f i)
theorem lf_len (f : Int → Int) (n : Nat) : (lf f n).length = n := by unfold lf; rw [List.length_map, rng_length]
theorem lf_get? (f : Int → Int) {n j : Nat} (h : j < n) : (lf f n)[j]? = some (.int (f j)) := by
  unfold lf rng
  rw [List.map_map, List.getElem?_map, List.getElem?_range h]
  rfl
theorem lf_at (f : Int → Int) {n : Nat} {i : Int} (h0 : 0 ≤ i) (h1 : i < n) : atI (lf f n) i = some (.int (f i)) := by
  have e : ((i.toNat : Nat) : Int) = i := by omega
  refine atI_of h0 ?_
  rw [lf_get? f (by omega), e]
theorem lf_set (f : Int → Int) {n : Nat} {i y : Int} (h0 : 0 ≤ i) (h1 : i < n) : (lf f n).set i.toNat (.int y) = lf (fun x => if x = i then y else f x) n := by
  refine List.ext_getElem? fun j => ?_
  rw [List.getElem?_set]
  by_cases hj : j < n
  · by_cases e : i.toNat = j
    · rw [if_pos e, if_pos (by rw [lf_len]; omega), lf_get? _ hj, if_pos (by omega)]
    · rw [if_neg e, lf_get? _ hj, lf_get? _ hj, if_neg (by omega)]
  · have e : i.toNat ≠ j := by omega
    rw [if_neg e, List.getElem?_eq_none (by rw [lf_len]; omega), List.getElem?_eq_none (by rw [lf_len]; omega)]
theorem ixN_of {n : Nat} {i : Int} (h0 : 0 ≤ i) (h1 : i < n) : ixN n i = some i.toNat := by
  unfold ixN
  rw [if_pos (by omega), if_pos (by omega)]
/-! ### stems -/
theorem lf_succ (f : Int → Int) (j : Nat) : lf f (j + 1) = lf f j ++ [V.int (f j)] := by
  unfold lf
  rw [rng_succ, List.map_append]
  rfl
theorem lf_id (n : Nat) : rgV 0 n = lf (fun i => i) n := by
  rw [rgV_rng, Int.toNat_natCast]
  rfl
theorem neInt (x y : Int) : (!decide (V.int x = V.int y)) = !decide (x = y) := by
  congr 1
  rw [decide_eq_decide]
  exact ⟨fun h => V.int.inj h, fun h => by rw [h]⟩
theorem eqInt (x y : Int) : decide (V.int x = V.int y) = decide (x = y) := by
  rw [decide_eq_decide]
  exact ⟨fun h => V.int.inj h, fun h => by rw [h]⟩
theorem lf_congr {f g : Int → Int} {n : Nat} (h : ∀ x : Int, 0 ≤ x → x < n → f x = g x) : lf f n = lf g n := by
  unfold lf
  refine List.map_congr_left fun x hx => ?_
  have := mem_rng.mp hx
  rw [h x this.1 this.2]
def prt (g : Int → Int) (old new : Int) (j : Nat) : Int → Int := fun x => if x < (j : Int) then mrg g old new x else g x
theorem prt_at (g : Int → Int) (old new : Int) (j : Nat) : prt g old new j j = g j := if_neg (by omega)
theorem prt_zero (g : Int → Int) (old new : Int) (k : Nat) : lf (prt g old new 0) k = lf g k := lf_congr fun x h0 _ => if_neg (by omega)
theorem prt_end (g : Int → Int) (old new : Int) (k : Nat) : lf (prt g old new k) k = lf (mrg g old new) k := lf_congr fun x _ h1 => if_pos h1
theorem prt_eq {g : Int → Int} {old new : Int} {k j : Nat} (hj : j < k) (e : g j = old) : (lf (prt g old new j) k).set j (.int new) = lf (prt g old new (j + 1)) k := by
  have e6 := lf_set (prt g old new j) (n := k) (i := j) (y := new) (by omega) (by omega)
  rw [Int.toNat_natCast] at e6
  rw [e6]
  refine lf_congr fun x _ _ => ?_
  show (if x = (j : Int) then new else if x < (j : Int) then mrg g old new x else g x) = if x < ((j + 1 : Nat) : Int) then mrg g old new x else g x
  by_cases ex : x = j
  · subst ex
    rw [if_pos rfl, if_pos (by omega)]
    exact (if_pos e).symm
  · rw [if_neg ex]
    by_cases hx2 : x < j
    · rw [if_pos hx2, if_pos (by omega)]
    · rw [if_neg hx2, if_neg (by omega)]
theorem prt_ne {g : Int → Int} {old new : Int} {k j : Nat} (e : ¬ g j = old) : lf (prt g old new (j + 1)) k = lf (prt g old new j) k := by
  refine lf_congr fun x _ _ => ?_
  show (if x < ((j + 1 : Nat) : Int) then mrg g old new x else g x) = if x < (j : Int) then mrg g old new x else g x
  by_cases ex : x = j
  · subst ex
    rw [if_pos (by omega), if_neg (by omega)]
    exact if_neg e
  · by_cases hx2 : x < j
    · rw [if_pos hx2, if_pos (by omega)]
    · rw [if_neg hx2, if_neg (by omega)]
def spStems : Sp := fun vs H Q _ => ∃ (v : V) (n : Int) (ts : List Tie), vs = [v] ∧ WebAt H v n ts ∧ WebOk n ts ∧ ∀ r H', Same H H' → H' r = some (.tup ((stemsTo ts ts.length).map V.int)) → Q (.ref r) H'
def spGroups : Sp := fun vs H Q _ => ∃ (n : Nat) (b : Addr) (us : List V) (ts : List Tie), vs = [.int n, .ref b] ∧ H b = some (.tup us) ∧ Paired (TieV H) us ts ∧ WebOk n ts ∧ ∀ r g H', Same H H' → H' r = some (.lst (lf g n)) → ((rng n).filter fun x => decide (g x = x)).length + (stemsTo ts ts.length).length = n → Q (.ref r) H'
section
variable {P : Program} {w : World} {K : PySem.W.Frag} {mg : Str → Option Value} {base : Heap}
theorem ok_stems {f : Addr} {fd : FuncData} (F : Fun K "stems" "stems" s_stems f fd) (M : Free mg) (me : mg "enumerate" = none) : FnOk P w K mg base CX0 1 f fd ["web"] spStems := by
  refine F.ok sc_stems (fun vs H Q E h => ?_) (fun cdv A outer s H vs Q E hr h => ?_)
  · obtain ⟨v, n, ts, rfl, _⟩ := h
    rfl
  · obtain ⟨v, n, ts, rfl, ⟨wa, wb, us, rfl, hwa, hwb, hp⟩, ok, q⟩ := h
    refine ⟨_, (pss_cons (ps_set (i := 1) sc_stems.nd rfl (.inl rfl) (pe_listRg rfl (by rfl) M.list (prg_1 (by rfl) M.range (pe_ix ix_tup (pv 0) pe_int (fun _ _ => rfl)))))
      (pss_cons (ps_set (i := 2) sc_stems.nd rfl (.inl rfl) (pe_lst pa_nil))
      (pss_cons (ps_for PassesOwn.never rfl (pi_enumT (by rfl) me (pa_cons (pe_ix ix_tup (pv 0) pe_int (fun _ _ => rfl)) pa_nil)) (pg_tup rfl (pgs_cons (pg_name (i := 3) sc_stems.nd rfl (.inl rfl)) (pgs_cons (pg_tup rfl (pgs_cons (pg_name (i := 4) sc_stems.nd rfl (.inl rfl)) (pgs_cons (pg_name (i := 5) sc_stems.nd rfl (.inl rfl)) (pgs_cons (pg_name (i := 6) sc_stems.nd rfl (.inl rfl)) pgs_nil)))) pgs_nil)))
        (pss_cons (ps_asg (pe_tup (pa_cons (pe_ix ix_list (pv 1) (pv 4) (fun _ _ => rfl)) (pa_cons (pe_ix ix_list (pv 1) (pv 5) (fun _ _ => rfl)) pa_nil))) (pg_tup rfl (pgs_cons (pg_name (i := 7) sc_stems.nd rfl (.inr rfl)) (pgs_cons (pg_name (i := 8) sc_stems.nd rfl (.inr rfl)) pgs_nil))))
        (pss_one (ps_if (pt_cmpR op_ne (pv 7) (pv 8) (nomark _))
          (pss_cons (ps_expr (pe_bm PySem.F.plainAttrs_list PySem.F.slot_list_append PySem.F.type_list_append mt_append (pv 2) (pa_cons (pv 3) pa_nil)))
          (pss_one (ps_setLc (i := 1) (own := [("label", 9)]) (g := gName 9) (tt := tYes) rfl sc_stems.nd rfl rfl (sw_true rfl rfl rfl (by decide +kernel)) (pi_list (pv 1)) (blkOk_by (N := N_stems) (sc := defScope s_stems) (own := [("label", 9)]) (by decide +kernel)) (fun _ _ _ _ _ => (pg_name (i := 9) sc_stems.nd rfl (.inl rfl))) (fun _ _ _ _ _ => pts_nil) (fun _ _ _ _ _ => (pe_ifExp (pt_cmpR op_eq (pv 9) (pv 7) (nomark _)) (pv 8) (pv 9))))))
          pss_nil))))
      (pss_one (ps_ret (pe_callTy call_tuple_of (by rfl) M.tuple (by decide +kernel) (pa_cons (pv 2) pa_nil))))))), ?_⟩
    obtain ⟨k, rfl⟩ : ∃ k : Nat, n = k := ⟨n.toNat, by have := ok.lo; omega⟩
    have hk := ok.hi
    have few := ok.few
    have hlen : us.length = ts.length := Paired.length hp
    refine ⟨.ref wa, rfl, wa, _, 0, .int k, rfl, rfl, SqT.of hwa, rfl, k, rfl, RgOk.of_le (by omega) (by omega) (by omega) (by omega), fun L nL => ?_⟩
    rw [lf_id]
    have s1 : Same H (upd H L (.lst (lf (fun i => i) k))) := same_new nL
    have hL1 : (upd H L (.lst (lf (fun i => i) k))) L = some (.lst (lf (fun i => i) k)) := upd_same
    generalize upd H L (.lst (lf (fun i => i) k)) = H1 at s1 hL1
    refine ⟨Nat.zero_le _, fun Z nZ => ?_⟩
    have nZ0 : H Z = none := s1.free nZ
    have hLZ : L ≠ Z := ne_of_none hL1 nZ
    have s2 : Same H (upd H1 Z (.lst [])) := s1.trans (same_new nZ)
    refine ⟨.ref wa, rfl, wa, _, 1, .ref wb, rfl, rfl, SqT.of (s2 _ _ hwa), rfl, wb, us, rfl, SqT.of (s2 _ _ hwb), ?_⟩
    refine for_it (walk_enumT (xs := us)) (fun i σ' H' => ∃ (y3 y4 y5 y6 y7 y8 : Option V) (L : Addr) (g : Int → Int), σ' = [some (.ref wa), some (.ref L), some (.ref Z), y3, y4, y5, y6, y7, y8, none] ∧ L ≠ Z ∧ H' L = some (.lst (lf g k)) ∧ Lab (ts.take i) k g ∧ H' Z = some (.lst ((stemsTo ts i).map V.int)) ∧ Same H H') ⟨none, none, none, none, none, none, L, _, rfl, hLZ, by rw [upd_ne hLZ]; exact hL1, by rw [List.take_zero]; exact lab_nil k, upd_same, s2⟩ (fun i σ' H' _ h => by
      obtain ⟨_, _, _, _, _, _, _, _, _, _, _, _, _, s3⟩ := h
      exact SqT.of (s3 _ _ hwb)) ?_ ?_
    · clear hL1 hLZ s1 s2
      rintro i x σ' H2 H3 hi ⟨y3, y4, y5, y6, y7, y8, L, g, rfl, hLZ, hL, lab, hZ, s2⟩ ⟨T, x1, y1, rfl, nT, rfl, gx, gy⟩
      obtain rfl : V.int (i : Nat) = x1 := Option.some.inj gx
      obtain ⟨t, et, c, rfl, hc⟩ := Paired.at hp gy
      have okt := ok.ok t (List.mem_of_getElem? et)
      have sT := same_new (o := .tup [.int (i : Nat), .ref c]) nT
      have s3 := s2.trans sT
      have hL3 := sT _ _ hL
      have hZ3 := sT _ _ hZ
      refine ⟨T, _, rfl, SqT.of upd_same, rfl, _, _, rfl, _, _, rfl, c, _, rfl, SqT.of (s3 _ _ hc), rfl, _, _, rfl, _, _, rfl, _, _, rfl, rfl, rfl, ?_⟩
      refine ⟨.ref L, rfl, .int t.one, rfl, L, _, t.one, _, rfl, rfl, SqL.of hL3, lf_at g okt.1 okt.2.1, .ref L, rfl, .int t.other, rfl, L, _, t.other, _, rfl, rfl, SqL.of hL3, lf_at g okt.2.2.1 okt.2.2.2.1, by show 2 ≤ sizeLine; decide, fun q1 n1 => ⟨q1, _, rfl, SqT.of upd_same, rfl, _, _, rfl, _, _, rfl, rfl, ?_⟩⟩
      have s4 := s3.trans (same_new (o := .tup [.int (g t.one), .int (g t.other)]) n1)
      have hL4 := same_new (o := .tup [.int (g t.one), .int (g t.other)]) n1 _ _ hL3
      have hZ4 := same_new (o := .tup [.int (g t.one), .int (g t.other)]) n1 _ _ hZ3
      generalize upd (upd H2 T (.tup [.int (i : Nat), .ref c])) q1 (.tup [.int (g t.one), .int (g t.other)]) = H4 at s4 hL4 hZ4
      have st := stem_iff et
      have lb := stemsTo_len ts i
      refine ⟨.int (g t.one), rfl, .int (g t.other), rfl, rfl, _, rfl, ?_⟩
      rw [neInt]
      by_cases e : g t.one = g t.other
      · rw [decide_eq_true e]
        have no : ¬ stemB ts i = true := fun z => st.mp z ((lab _ _ okt.1 okt.2.1 okt.2.2.1 okt.2.2.2.1).mp e)
        refine ⟨_, _, _, _, _, _, L, g, rfl, hLZ, hL4, by rw [take_snoc et]; exact lab_same lab okt e, ?_, s4⟩
        rw [stemsTo_succ, if_neg no, List.append_nil]
        exact hZ4
      · rw [decide_eq_false e]
        have yes : stemB ts i = true := st.mpr fun z => e ((lab _ _ okt.1 okt.2.1 okt.2.2.1 okt.2.2.2.1).mpr z)
        refine ⟨.ref Z, rfl, .inl ⟨rfl, _, SqL.of hZ4⟩, .int i, rfl, Z, _, _, rfl, rfl, hZ4, by rw [List.length_map]; exact small1000 (by omega), ?_⟩
        have hL5 : (upd H4 Z (.lst ((stemsTo ts i).map V.int ++ [.int i]))) L = some (.lst (lf g k)) := by rw [upd_ne hLZ]; exact hL4
        have hZ5 : (upd H4 Z (.lst ((stemsTo ts i).map V.int ++ [.int i]))) Z = some (.lst ((stemsTo ts (i + 1)).map V.int)) := by
          rw [upd_same, stemsTo_succ, if_pos yes, List.map_append]
          rfl
        have s5 : Same H (upd H4 Z (.lst ((stemsTo ts i).map V.int ++ [.int i]))) := Same.mut s4 nZ0
        generalize upd H4 Z (.lst ((stemsTo ts i).map V.int ++ [.int i])) = H5 at hL5 hZ5 s5
        refine ⟨.ref L, rfl, L, rfl, ⟨_, SqL.of hL5⟩, fun D nD => ?_⟩
        refine lc_list (xs := lf g k) (fun j H' => H' D = some (.lst (lf (mrg g (g t.one) (g t.other)) j)) ∧ Same H5 H') ⟨upd_same, same_new nD⟩ (fun j H' _ h => SqL.of (h.2 _ _ hL5)) ?_ ?_
        · rintro j x H6 ex ⟨hD, s6⟩
          have hj : j < k := by
            have := (List.getElem?_eq_some_iff.mp ex).1
            rw [lf_len] at this
            exact this
          rw [lf_get? g hj] at ex
          obtain rfl := Option.some.inj ex
          refine ⟨rfl, .int (g j), rfl, .int (g t.one), rfl, rfl, _, rfl, ?_⟩
          rw [eqInt, lf_succ]
          have sz : (lf (mrg g (g t.one) (g t.other)) j).length < sizeLine := by rw [lf_len]; exact small1000 (by omega)
          by_cases ej : g j = g t.one
          · rw [decide_eq_true ej]
            have em : mrg g (g t.one) (g t.other) j = g t.other := if_pos ej
            rw [em]
            exact ⟨.int (g t.other), rfl, _, hD, sz, upd_same, Same.mut s6 nD⟩
          · rw [decide_eq_false ej]
            have em : mrg g (g t.one) (g t.other) j = g j := if_neg ej
            rw [em]
            exact ⟨.int (g j), rfl, _, hD, sz, upd_same, Same.mut s6 nD⟩
        · rintro H6 ⟨hD, s6⟩
          rw [lf_len] at hD
          exact ⟨_, _, _, _, _, _, D, _, rfl, Ne.symm (ne_of_none hZ5 nD), hD, by rw [take_snoc et]; exact lab_step lab okt (.inl ⟨rfl, rfl⟩), s6 _ _ hZ5, s5.trans s6⟩
    · rintro σ' H2 ⟨y3, y4, y5, y6, y7, y8, L, g, rfl, hLZ, hL, lab, hZ, s2⟩
      rw [hlen] at hZ
      refine ⟨.ref Z, rfl, Z, _, rfl, .inl ⟨SqL.of hZ, fun r nr => ?_⟩⟩
      exact q r _ (s2.trans (same_new nr)) upd_same
end
/-! ### the law's own stems -/
structure Bes (H : Hp) (L : Addr) (As : List Addr) (N : Nat → List Int) : Prop where
  at' : H L = some (.lst (As.map V.ref))
  nd : As.Nodup
  each : ∀ j a, As[j]? = some a → H a = some (.lst ((N j).map V.int))
  out : L ∉ As
theorem Bes.same {H H' : Hp} {L : Addr} {As : List Addr} {N : Nat → List Int} (h : Bes H L As N) (s : Same H H') : Bes H' L As N :=
  ⟨s _ _ h.at', h.nd, fun j a e => s _ _ (h.each j a e), h.out⟩
theorem Bes.put {H : Hp} {L : Addr} {As : List Addr} {N : Nat → List Int} (h : Bes H L As N) {j : Nat} {a : Addr} {x : Int} (ea : As[j]? = some a) : Bes (upd H a (.lst ((N j).map V.int ++ [.int x]))) L As (fun i => N i ++ if i = j then [x] else []) := by
  refine ⟨?_, h.nd, fun i b e => ?_, h.out⟩
  · have ne : L ≠ a := fun z => h.out (by rw [z]; exact List.mem_of_getElem? ea)
    rw [upd_ne ne]
    exact h.at'
  · by_cases hij : i = j
    · subst hij
      rw [ea] at e
      cases e
      rw [upd_same, if_pos rfl, List.map_append]
      rfl
    · have ne : b ≠ a := fun z => hij (by
        subst z
        exact (List.getElem?_inj (List.getElem?_eq_some_iff.mp e).1 h.nd).mp (e.trans ea.symm))
      rw [upd_ne ne, if_neg hij, List.append_nil]
      exact h.each i b e
def nbI (st : List Tie) (j : Nat) : List Int := (nbs st j).map (·.1)
theorem nbI_snoc {st : List Tie} {t : Tie} {n : Nat} (ok : TieOk n t) : nbI (st ++ [t]) = fun i => (nbI st i ++ if i = t.one.toNat then [t.other] else []) ++ if i = t.other.toNat then [t.one] else [] := by
  funext i
  unfold nbI
  rw [nbs_snoc, List.map_append]
  unfold nb1
  rw [List.map_append, List.append_assoc]
  obtain ⟨o1, o2, o3, o4, _⟩ := ok
  congr 1
  congr 1
  · by_cases h : (i : Int) = t.one
    · rw [if_pos h, if_pos (by omega)]
      rfl
    · rw [if_neg h, if_neg (by omega)]
      rfl
  · by_cases h : (i : Int) = t.other
    · rw [if_pos h, if_pos (by omega)]
      rfl
    · rw [if_neg h, if_neg (by omega)]
      rfl
theorem nbI_len (st : List Tie) (j : Nat) : (nbI st j).length ≤ 2 * st.length := by
  unfold nbI
  rw [List.length_map]
  exact nbs_len st j
def kvT (ks : List Nb) : List (Key × V) := ks.map fun p => (Sum.inl p.1, V.bl true)
theorem kvT_isSome {z : Int} : ∀ {ks : List Nb}, (valV (kvT ks) (Sum.inl z)).isSome = decide (z ∈ ks.map (·.1))
  | [] => rfl
  | p :: ks => by
    have ih := kvT_isSome (z := z) (ks := ks)
    unfold kvT at ih ⊢
    rw [List.map_cons]
    by_cases e : p.1 = z
    · rw [valV_pos (by rw [e]), decide_eq_true (by rw [← e]; simp)]
      rfl
    · rw [valV_neg (fun y => e (Sum.inl.inj y)), ih, decide_eq_decide, List.map_cons, List.mem_cons]
      exact ⟨.inr, fun h => h.elim (fun y => absurd y.symm e) id⟩
theorem kvT_put {ks : List Nb} {z : Int} {b : Bool} (h : z ∉ ks.map (·.1)) : putK (kvT ks) (Sum.inl z) (.bl true) = kvT (ks ++ [(z, b)]) := by
  unfold putK
  rw [if_neg]
  · unfold kvT
    rw [List.map_append]
    rfl
  · intro g
    rw [List.any_eq_true] at g
    obtain ⟨kv, h1, h2⟩ := g
    unfold kvT at h1
    rw [List.mem_map] at h1
    obtain ⟨p, hp, rfl⟩ := h1
    exact h (List.mem_map.mpr ⟨p, hp, Sum.inl.inj (of_decide_eq_true h2)⟩)
theorem kvT_len (ks : List Nb) : (kvT ks).length = ks.length := by unfold kvT; rw [List.length_map]
def spLStems : Sp := fun vs H Q _ => ∃ (v : V) (n : Int) (ts : List Tie), vs = [v] ∧ WebAt H v n ts ∧ WebOk n ts ∧ ∀ r H', H r = none → Same H H' → H' r = some (.lst ((stemsTo ts ts.length).map V.int)) → Q (.ref r) H'
section
variable {P : Program} {w : World} {K : PySem.W.Frag} {mg : Str → Option Value} {base : Heap}
set_option maxHeartbeats 2000000 in
theorem ok_l_stems {f : Addr} {fd : FuncData} (F : Fun K "_law_stems" "_law_stems" s_l_stems f fd) (M : Free mg) (me : mg "enumerate" = none) : FnOk P w K mg base CX0 1 f fd ["_law_web_here"] spLStems := by
  refine F.ok sc_l_stems (fun vs H Q E h => ?_) (fun cdv A outer s H vs Q E hr h => ?_)
  · obtain ⟨v, n, ts, rfl, _⟩ := h
    rfl
  · obtain ⟨v, n, ts, rfl, ⟨wa, wb, us, rfl, hwa, hwb, hp⟩, ok, q⟩ := h
    have hu := hu_of hr
    refine ⟨_, (pss_cons (ps_setLc (i := 1) (own := [("_law_place", 2)]) (g := gName 2) (tt := tYes) rfl sc_l_stems.nd rfl rfl (sw_true rfl rfl rfl (by decide +kernel)) (pi_range1 (by rfl) M.range (pa_cons (pe_ix ix_tup (pv 0) pe_int (fun _ _ => rfl)) pa_nil)) (blkOk_by (N := N_l_stems) (sc := defScope s_l_stems) (own := [("_law_place", 2)]) (by decide +kernel)) (fun _ _ _ _ _ => (pg_name (i := 2) sc_l_stems.nd rfl (.inl rfl))) (fun _ _ _ _ _ => pts_nil) (fun _ _ _ _ _ => (pe_lst pa_nil)))
      (pss_cons (ps_set (i := 3) sc_l_stems.nd rfl (.inl rfl) (pe_lst pa_nil))
      (pss_cons (ps_for PassesOwn.never rfl (pi_enumT (by rfl) me (pa_cons (pe_ix ix_tup (pv 0) pe_int (fun _ _ => rfl)) pa_nil)) (pg_tup rfl (pgs_cons (pg_name (i := 4) sc_l_stems.nd rfl (.inl rfl)) (pgs_cons (pg_name (i := 5) sc_l_stems.nd rfl (.inl rfl)) pgs_nil)))
        (pss_cons (ps_set (i := 6) sc_l_stems.nd rfl (.inl rfl) (pe_lst (pa_cons (pe_ix ix_tup (pv 5) pe_int (fun _ _ => rfl)) pa_nil)))
        (pss_cons (ps_set (i := 7) sc_l_stems.nd rfl (.inl rfl) (pe_disp (pps_cons (pe_ix ix_tup (pv 5) pe_int (fun _ _ => rfl)) pe_bl pps_nil) (by rfl) (by rfl) (fun z => by cases z) (by decide)))
        (pss_cons (ps_while PassesOwn.never (pt_cmpR (op_neE hr.units0) (pv 6) (pe_lst pa_nil) (nomark _))
          (pss_one (ps_for PassesOwn.never rfl (pi_list (pe_ix ix_list (pv 1) (pe_bm0 PySem.F.plainAttrs_list PySem.F.slot_list_pop PySem.F.type_list_pop mt_pop (pv 6)) (fun _ _ => rfl))) (pg_name (i := 8) sc_l_stems.nd rfl (.inl rfl))
            (pss_one (ps_if (pt_cmp (pc_dnotin hu (pv 8) (pv 7)))
              (pss_cons (ps_dput hu (pv 7) (pv 8) pe_bl rfl)
              (pss_one (ps_expr (pe_bm PySem.F.plainAttrs_list PySem.F.slot_list_append PySem.F.type_list_append mt_append (pv 6) (pa_cons (pv 8) pa_nil)))))
              pss_nil)))))
        (pss_one (ps_if (pt_cmp (pc_dnotin hu (pe_ix ix_tup (pv 5) pe_int (fun _ _ => rfl)) (pv 7)))
          (pss_cons (ps_expr (pe_bm PySem.F.plainAttrs_list PySem.F.slot_list_append PySem.F.type_list_append mt_append (pv 3) (pa_cons (pv 4) pa_nil)))
          (pss_cons (ps_expr (pe_bm PySem.F.plainAttrs_list PySem.F.slot_list_append PySem.F.type_list_append mt_append (pe_ix ix_list (pv 1) (pe_ix ix_tup (pv 5) pe_int (fun _ _ => rfl)) (fun _ _ => rfl)) (pa_cons (pe_ix ix_tup (pv 5) pe_int (fun _ _ => rfl)) pa_nil)))
          (pss_one (ps_expr (pe_bm PySem.F.plainAttrs_list PySem.F.slot_list_append PySem.F.type_list_append mt_append (pe_ix ix_list (pv 1) (pe_ix ix_tup (pv 5) pe_int (fun _ _ => rfl)) (fun _ _ => rfl)) (pa_cons (pe_ix ix_tup (pv 5) pe_int (fun _ _ => rfl)) pa_nil))))))
          pss_nil))))))
      (pss_one (ps_ret (pv 3)))))), ?_⟩
    obtain ⟨k, rfl⟩ : ∃ k : Nat, n = k := ⟨n.toNat, by have := ok.lo; omega⟩
    have hk := ok.hi
    have few := ok.few
    have hlen : us.length = ts.length := Paired.length hp
    -- beside
    refine ⟨.ref wa, rfl, wa, _, 0, .int k, rfl, rfl, SqT.of hwa, rfl, k, rfl, by omega, by omega, fun B nB => ?_⟩
    rw [Int.toNat_natCast]
    refine lc_range (lo := 0) (n := k) (fun i H' => ∃ As : List Addr, As.length = i ∧ Bes H' B As (fun _ => []) ∧ (∀ x ∈ As, H x = none) ∧ Same H H') ?_ ?_ ?_
    · exact ⟨[], rfl, ⟨upd_same, List.nodup_nil, fun j a e => by simp at e, by simp⟩, fun x hx => by simp at hx, same_new nB⟩
    · rintro i H1 hi ⟨As, hl, hA, hf, s1⟩
      refine ⟨rfl, Nat.zero_le _, fun p np => ?_⟩
      have hA2 := hA.same (same_new (o := .lst []) np)
      have npA : p ∉ As := fun z => by
        obtain ⟨j, hj⟩ := List.getElem?_of_mem z
        have h1 := hA.each j p hj
        rw [np] at h1
        cases h1
      have npB : p ≠ B := fun z => by
        have h1 := hA.at'
        rw [← z, np] at h1
        cases h1
      refine ⟨_, hA2.at', by rw [List.length_map]; exact small1000 (by omega), As ++ [p], by rw [List.length_append, hl]; rfl, ⟨by rw [upd_same, List.map_append]; rfl, ?_, fun j x e => ?_, fun z => ?_⟩, fun x hx => ?_, Same.mut (s1.trans (same_new np)) nB⟩
      · rw [List.nodup_append]
        refine ⟨hA.nd, by simp, fun x hx y hy z => ?_⟩
        rw [List.mem_singleton] at hy
        subst hy
        subst z
        exact npA hx
      · have hx : x ≠ B := fun z => by
          subst z
          rcases List.mem_append.mp (List.mem_of_getElem? e) with h | h
          · exact hA.out h
          · exact npB (List.mem_singleton.mp h).symm
        rw [upd_ne hx]
        rcases List.mem_append.mp (List.mem_of_getElem? e) with h | h
        · obtain ⟨j2, e2⟩ := List.getElem?_of_mem h
          exact hA2.each j2 x e2
        · rw [List.mem_singleton] at h
          subst h
          exact upd_same
      · rcases List.mem_append.mp z with h | h
        · exact hA.out h
        · exact npB (List.mem_singleton.mp h).symm
      · rcases List.mem_append.mp hx with h | h
        · exact hf x h
        · rw [List.mem_singleton.mp h]
          exact s1.free np
    rintro H0 ⟨As, hl, hA, hf, s0⟩
    -- found
    refine ⟨Nat.zero_le _, fun Z nZ => ?_⟩
    have nZ0 : H Z = none := s0.free nZ
    have sZ := same_new (o := .lst []) nZ
    have hBZ : B ≠ Z := ne_of_none hA.at' nZ
    have hAZ : Z ∉ As := fun z => by
      obtain ⟨j, hj⟩ := List.getElem?_of_mem z
      have h1 := hA.each j Z hj
      rw [nZ] at h1
      cases h1
    have s1 := s0.trans sZ
    refine ⟨.ref wa, rfl, wa, _, 1, .ref wb, rfl, rfl, SqT.of (s1 _ _ hwa), rfl, wb, us, rfl, SqT.of (s1 _ _ hwb), ?_⟩
    refine for_it (walk_enumT (xs := us)) (fun i σ' H' => ∃ (y4 y5 y6 y7 y8 : Option V) (st : List Tie), σ' = [some (.ref wa), some (.ref B), none, some (.ref Z), y4, y5, y6, y7, y8] ∧ H' Z = some (.lst ((stemsTo ts i).map V.int)) ∧ Bes H' B As (nbI st) ∧ st.length ≤ i ∧ (∀ t ∈ st, TieOk k t) ∧ (∀ a b : Int, Rch st a b ↔ Rch (ts.take i) a b) ∧ Same H H') ⟨none, none, none, none, none, [], rfl, upd_same, hA.same sZ, Nat.le_refl _, fun t ht => by simp at ht, fun a b => by rw [List.take_zero], s1⟩ (fun i σ' H' _ h => by
      obtain ⟨_, _, _, _, _, _, _, _, _, _, _, _, s3⟩ := h
      exact SqT.of (s3 _ _ hwb)) ?_ ?_
    · clear s1 sZ hA s0
      rintro i x σ' H2 H3 hi ⟨y4, y5, y6, y7, y8, st, rfl, hZ, hB, lst, okst, rst, s2⟩ ⟨T, x1, y1, rfl, nT, rfl, gx, gy⟩
      obtain rfl : V.int (i : Nat) = x1 := Option.some.inj gx
      obtain ⟨t, et, c, rfl, hc⟩ := Paired.at hp gy
      have okt := ok.ok t (List.mem_of_getElem? et)
      have sT := same_new (o := .tup [.int (i : Nat), .ref c]) nT
      have s3 := s2.trans sT
      have hZ3 := sT _ _ hZ
      have hB3 := hB.same sT
      have hc3 := s3 _ _ hc
      refine ⟨T, _, rfl, SqT.of upd_same, rfl, _, _, rfl, _, _, rfl, rfl, ?_⟩
      generalize upd H2 T (.tup [.int (i : Nat), .ref c]) = H3 at sT s3 hZ3 hB3 hc3
      -- come, seen
      refine ⟨.ref c, rfl, c, _, 0, _, rfl, rfl, SqT.of hc3, rfl, by show 1 ≤ sizeLine; decide, fun C nC => ?_⟩
      have sC := same_new (o := .lst [.int t.one]) nC
      refine fun D nD => ⟨.ref c, rfl, c, _, 0, _, rfl, rfl, SqT.of (same_new nD _ _ (sC _ _ hc3)), rfl, upd_same, [(Sum.inl t.one, .bl true)], rfl, (by show 1 ≤ 15; decide), ?_⟩
      rw [upd_upd]
      have eD : mergeK [] [((Sum.inl t.one : Key), V.bl true)] = kvT [(t.one, false)] := rfl
      rw [eD]
      have hCD : C ≠ D := ne_of_none upd_same nD
      have nD3 : H3 D = none := sC.free nD
      have s35 : Same H3 (upd (upd H3 C (.lst [.int t.one])) D (.dK (kvT [(t.one, false)]))) := sC.trans (same_new nD)
      have hC5 : (upd (upd H3 C (.lst [.int t.one])) D (.dK (kvT [(t.one, false)]))) C = some (.lst ([t.one].map V.int)) := same_new nD _ _ upd_same
      have hD5 : (upd (upd H3 C (.lst [.int t.one])) D (.dK (kvT [(t.one, false)]))) D = some (.dK (kvT [(t.one, false)])) := upd_same
      generalize upd (upd H3 C (.lst [.int t.one])) D (.dK (kvT [(t.one, false)])) = H5 at s35 hC5 hD5
      clear sC nD
      refine ⟨fun m σ' H' => ∃ (y8 : Option V) (ks : List Nb) (wl : List Int), σ' = [some (.ref wa), some (.ref B), none, some (.ref Z), some (.int (i : Nat)), some (.ref c), some (.ref C), some (.ref D), y8] ∧ H' D = some (.dK (kvT ks)) ∧ H' C = some (.lst (wl.map V.int)) ∧ Same H3 H' ∧ SF st t.one ks wl [] ∧ m = 2 * (k - ks.length) + wl.length, ⟨_, _, [(t.one, false)], [t.one], rfl, hD5, hC5, s35, ?_, rfl⟩, ?_⟩
      · exact ⟨by simp, fun p hp => by rw [List.mem_singleton.mp hp]; exact .nil, by simp, fun x hx => hx, Nat.le_refl _, fun x hx h1 => absurd hx h1⟩
      clear hD5 hC5 s35
      rintro m σ' H6 ⟨y8', ks, wl, rfl, hD6, hC6, s36, sf, hm⟩
      refine ⟨.ref C, rfl, Nat.zero_le _, fun e1 n1 => ⟨C, e1, _, rfl, rfl, SqL.of (same_new n1 _ _ hC6), SqL.of upd_same, _, rfl, ?_⟩⟩
      have hD7 := same_new (o := .lst []) n1 _ _ hD6
      have hC7 := same_new (o := .lst []) n1 _ _ hC6
      have s37 := s36.trans (same_new (o := .lst []) n1)
      generalize upd H6 e1 (.lst []) = H7 at hD7 hC7 s37
      clear hD6 hC6 s36 n1
      refine ite2 (fun hb => ?_) (fun hb => ?_)
      · cases hwl : wl with
        | nil => rw [hwl] at hb; cases hb
        | cons z zs =>
        obtain ⟨ys, p, e⟩ : ∃ (ys : List Int) (p : Int), z :: zs = ys ++ [p] := ⟨(z :: zs).dropLast, (z :: zs).getLast (by simp), (List.dropLast_concat_getLast (by simp)).symm⟩
        rw [hwl, e] at hC7 sf hm
        have hpk := sf.sub p (by simp)
        obtain ⟨b, hb1, hb2⟩ := sf.keys hpk
        have hpr := Rch.rng okst ⟨okt.1, okt.2.1⟩ ⟨b, hb2⟩
        have sp := sf.pop
        have e3 : ((ys ++ [p]).map V.int).dropLast = ys.map V.int := by simp
        refine ⟨fun σ' H' => ∃ m', m' < m ∧ ∃ (y8 : Option V) (ks : List Nb) (wl : List Int), σ' = [some (.ref wa), some (.ref B), none, some (.ref Z), some (.int (i : Nat)), some (.ref c), some (.ref C), some (.ref D), y8] ∧ H' D = some (.dK (kvT ks)) ∧ H' C = some (.lst (wl.map V.int)) ∧ Same H3 H' ∧ SF st t.one ks wl [] ∧ m' = 2 * (k - ks.length) + wl.length, fun _ _ h => h, ?_⟩
        refine ⟨.ref B, rfl, .ref C, rfl, .inl ⟨rfl, _, SqL.of hC7⟩, C, _, .int p, rfl, rfl, hC7, by simp, ?_⟩
        rw [e3]
        have hD8 : (upd H7 C (.lst (ys.map V.int))) D = some (.dK (kvT ks)) := by rw [upd_ne (Ne.symm hCD)]; exact hD7
        have hC8 : (upd H7 C (.lst (ys.map V.int))) C = some (.lst (ys.map V.int)) := upd_same
        have s38 : Same H3 (upd H7 C (.lst (ys.map V.int))) := Same.mut s37 nC
        generalize upd H7 C (.lst (ys.map V.int)) = H8 at hD8 hC8 s38
        have B8 := hB3.same s38
        obtain ⟨x, ex, ex'⟩ := getI (xs := As) hpr.1 (by omega)
        have g3 := hB3.each _ _ ex'
        have g := s38 _ _ g3
        have epk : nbI st p.toNat = (nbs st p).map (·.1) := by
          unfold nbI
          rw [show ((p.toNat : Nat) : Int) = p from by omega]
        refine ⟨B, _, p, .ref x, rfl, rfl, SqL.of B8.at', atI_of hpr.1 (by rw [List.getElem?_map, ex']; rfl), x, rfl, ⟨_, SqL.of g⟩, ?_⟩
        refine for_list (xs := (nbI st p.toNat).map V.int) (fun j σ' H' => ∃ (y8 : Option V) (ks : List Nb) (wl : List Int), σ' = [some (.ref wa), some (.ref B), none, some (.ref Z), some (.int (i : Nat)), some (.ref c), some (.ref C), some (.ref D), y8] ∧ H' D = some (.dK (kvT ks)) ∧ H' C = some (.lst (wl.map V.int)) ∧ Same H3 H' ∧ SF st t.one ks wl [p] ∧ (p, b) ∈ ks ∧ (∀ q ∈ (nbs st p).take j, q.1 ∈ ks.map (·.1)) ∧ 2 * (k - ks.length) + wl.length < m) ⟨_, ks, ys, rfl, hD8, hC8, s38, sp, hb1, fun q hq => by simp at hq, by rw [hm, List.length_append]; simp⟩ (fun j σ' H' _ h => by
          obtain ⟨_, _, _, _, _, _, s3', _⟩ := h
          exact SqL.of (s3' _ _ g3)) ?_ ?_
        · rintro j u σ' H9 eu ⟨y8, ks, wl, rfl, hD9, hC9, s39, sf9, hb9, hdn, hlt⟩
          rw [epk, List.map_map, List.getElem?_map] at eu
          obtain ⟨⟨y, fo⟩, ey, rfl⟩ := Option.map_eq_some_iff.mp eu
          have ady := mem_nbs.mp (List.mem_of_getElem? ey)
          have fw := sf9.few okst ⟨okt.1, okt.2.1⟩
          have etk : (nbs st p).take (j + 1) = (nbs st p).take j ++ [(y, fo)] := by
            rw [List.take_add_one, ey]
            rfl
          refine ⟨.int y, rfl, .ref D, rfl, D, _, rfl, DGet.k (k := Sum.inl y) hD9, _, rfl, ?_⟩
          rw [kvT_isSome]
          by_cases hy : y ∈ ks.map (·.1)
          · rw [decide_eq_true hy]
            refine ⟨_, ks, wl, rfl, hD9, hC9, s39, sf9, hb9, fun q hq => ?_, hlt⟩
            rw [etk] at hq
            rcases List.mem_append.mp hq with h | h
            · exact hdn q h
            · rw [List.mem_singleton.mp h]
              exact hy
          · rw [decide_eq_false hy]
            have sfp := sf9.push (sf9.rp _ hb9) ady hy
            have fw2 := sfp.few okst ⟨okt.1, okt.2.1⟩
            have lw := sf9.le
            refine ⟨.ref D, rfl, .int y, rfl, D, _, rfl, DPut.k (k := Sum.inl y) hD9 (by rw [kvT_len]; exact small1000 (by omega)), ?_⟩
            rw [kvT_put (b := b ^^ fo) hy]
            have hC10 : (upd H9 D (.dK (kvT (ks ++ [(y, b ^^ fo)])))) C = some (.lst (wl.map V.int)) := by rw [upd_ne hCD]; exact hC9
            refine ⟨.ref C, rfl, .inl ⟨rfl, _, SqL.of hC10⟩, .int y, rfl, C, _, _, rfl, rfl, hC10, by rw [List.length_map]; exact small1000 (by omega), ?_⟩
            refine ⟨_, ks ++ [(y, b ^^ fo)], wl ++ [y], rfl, ?_, by rw [upd_same, List.map_append]; rfl, Same.mut (Same.mut s39 nD3) nC, sfp, List.mem_append_left _ hb9, fun q hq => ?_, ?_⟩
            · rw [upd_ne (Ne.symm hCD)]
              exact upd_same
            · rw [List.map_append]
              rw [etk] at hq
              rcases List.mem_append.mp hq with h | h
              · exact List.mem_append_left _ (hdn q h)
              · rw [List.mem_singleton.mp h]
                exact List.mem_append_right _ (by simp)
            · rw [List.length_append] at fw2 ⊢
              rw [List.length_append]
              simp only [List.length_cons, List.length_nil] at fw2 ⊢
              omega
        · rintro σ' H9 ⟨y8, ks, wl, rfl, hD9, hC9, s39, sf9, hb9, hdn, hlt⟩
          rw [List.length_map, epk, List.length_map, List.take_length] at hdn
          exact ⟨_, hlt, _, ks, wl, rfl, hD9, hC9, s39, sf9.done hdn, rfl⟩
      · have hwl : wl = [] := by
          cases wl with
          | nil => rfl
          | cons z zs => exact absurd rfl hb
        subst hwl
        have all := sf.all t.other
        have hZ7 := s37 _ _ hZ3
        have hB7 := hB3.same s37
        have hc7 := s37 _ _ hc3
        have s7 := s3.trans s37
        have st' := stem_iff et
        have lb := stemsTo_len ts i
        refine ⟨.ref c, rfl, c, _, 1, _, rfl, rfl, SqT.of hc7, rfl, .ref D, rfl, D, _, rfl, DGet.k (k := Sum.inl t.other) hD7, _, rfl, ?_⟩
        rw [kvT_isSome]
        by_cases hy : t.other ∈ ks.map (·.1)
        · rw [decide_eq_true hy]
          have hR : Rch (ts.take i) t.one t.other := (rst _ _).mp (all.mp hy)
          have no : ¬ stemB ts i = true := fun z => st'.mp z hR
          refine ⟨_, _, _, _, _, st, rfl, ?_, hB7, by omega, okst, fun a b => ?_, s7⟩
          · rw [stemsTo_succ, if_neg no, List.append_nil]
            exact hZ7
          · rw [take_snoc et, rch_snoc (.inl ⟨rfl, rfl⟩), rst]
            constructor
            · exact .inl
            · rintro (z | ⟨z1, z2⟩ | ⟨z1, z2⟩)
              · exact z
              · exact z1.trans (hR.trans z2)
              · exact z1.trans (hR.symm.trans z2)
        · rw [decide_eq_false hy]
          have yes : stemB ts i = true := st'.mpr fun z => hy (all.mpr ((rst _ _).mpr z))
          refine ⟨.ref Z, rfl, .inl ⟨rfl, _, SqL.of hZ7⟩, .int i, rfl, Z, _, _, rfl, rfl, hZ7, by rw [List.length_map]; exact small1000 (by omega), ?_⟩
          have hZ8 : (upd H7 Z (.lst ((stemsTo ts i).map V.int ++ [.int i]))) Z = some (.lst ((stemsTo ts (i + 1)).map V.int)) := by
            rw [upd_same, stemsTo_succ, if_pos yes, List.map_append]
            rfl
          have B8 : Bes (upd H7 Z (.lst ((stemsTo ts i).map V.int ++ [.int i]))) B As (nbI st) := ⟨by rw [upd_ne hBZ]; exact hB7.at', hB7.nd, fun j a e => by rw [upd_ne (fun z => hAZ (by rw [← z]; exact List.mem_of_getElem? e))]; exact hB7.each j a e, hB7.out⟩
          have hc8 : (upd H7 Z (.lst ((stemsTo ts i).map V.int ++ [.int i]))) c = some (.tup [.int t.one, .int t.other, .str (kindS t.foe)]) := tk_lst hZ7 _ _ hc7
          have s8 : Same H (upd H7 Z (.lst ((stemsTo ts i).map V.int ++ [.int i]))) := Same.mut s7 nZ0
          generalize upd H7 Z (.lst ((stemsTo ts i).map V.int ++ [.int i])) = H8 at hZ8 B8 hc8 s8
          obtain ⟨a1, ea1, fa1⟩ := getI (xs := As) okt.1 (by have := okt.2.1; omega)
          obtain ⟨a2, ea2, fa2⟩ := getI (xs := As) okt.2.2.1 (by have := okt.2.2.2.1; omega)
          have h1 := B8.each _ _ fa1
          have l1 := nbI_len st t.one.toNat
          refine ⟨.ref B, rfl, .ref c, rfl, c, _, 0, _, rfl, rfl, SqT.of hc8, rfl, B, _, t.one, .ref a1, rfl, rfl, SqL.of B8.at', atI_of okt.1 (by rw [List.getElem?_map, fa1]; rfl), .inl ⟨rfl, _, SqL.of h1⟩, .ref c, rfl, c, _, 1, _, rfl, rfl, SqT.of hc8, rfl, a1, _, _, rfl, rfl, h1, by rw [List.length_map]; exact small1000 (by omega), ?_⟩
          have B9 := B8.put (x := t.other) fa1
          have hc9 := tk_lst (ys := (nbI st t.one.toNat).map V.int ++ [.int t.other]) h1 _ _ hc8
          have hZ9 : (upd H8 a1 (.lst ((nbI st t.one.toNat).map V.int ++ [.int t.other]))) Z = some (.lst ((stemsTo ts (i + 1)).map V.int)) := by
            rw [upd_ne (fun z => hAZ (by rw [z]; exact List.mem_of_getElem? fa1))]
            exact hZ8
          have s9 : Same H (upd H8 a1 (.lst ((nbI st t.one.toNat).map V.int ++ [.int t.other]))) := Same.mut s8 (hf _ (List.mem_of_getElem? fa1))
          generalize upd H8 a1 (.lst ((nbI st t.one.toNat).map V.int ++ [.int t.other])) = H9 at B9 hc9 hZ9 s9
          have h2 := B9.each _ _ fa2
          have l2 := nbI_len st t.other.toNat
          refine ⟨.ref B, rfl, .ref c, rfl, c, _, 1, _, rfl, rfl, SqT.of hc9, rfl, B, _, t.other, .ref a2, rfl, rfl, SqL.of B9.at', atI_of okt.2.2.1 (by rw [List.getElem?_map, fa2]; rfl), .inl ⟨rfl, _, SqL.of h2⟩, .ref c, rfl, c, _, 0, _, rfl, rfl, SqT.of hc9, rfl, a2, _, _, rfl, rfl, h2, ?_, ?_⟩
          · rw [List.length_map, List.length_append]
            refine small1000 ?_
            split <;> simp only [List.length_cons, List.length_nil] <;> omega
          · have B10 := B9.put (x := t.one) fa2
            refine ⟨_, _, _, _, _, st ++ [t], rfl, ?_, by rw [nbI_snoc okt]; exact B10, by rw [List.length_append]; show _ + 1 ≤ _; omega, fun z hz => ?_, fun a b => ?_, Same.mut s9 (hf _ (List.mem_of_getElem? fa2))⟩
            · rw [upd_ne (fun z => hAZ (by rw [z]; exact List.mem_of_getElem? fa2))]
              exact hZ9
            · rcases List.mem_append.mp hz with h | h
              · exact okst z h
              · rw [List.mem_singleton.mp h]
                exact okt
            · rw [take_snoc et, rch_snoc (.inl ⟨rfl, rfl⟩), rch_snoc (.inl ⟨rfl, rfl⟩), rst, rst, rst, rst, rst]
    · rintro σ' H2 ⟨y4, y5, y6, y7, y8, st, rfl, hZ, hB, lst, okst, rst, s2⟩
      rw [hlen] at hZ
      exact ⟨.ref Z, rfl, q Z _ nZ0 s2 hZ⟩
end
/-! ### ties that sides break -/
def sd (ss : List Int) (i : Int) : Int := ss.getD i.toNat 0
def tieAt (ts : List Tie) (i : Int) : Tie := ts.getD i.toNat ⟨0, 0, false⟩
def brk (ss : List Int) (t : Tie) : Bool := decide (sd ss t.one = sd ss t.other) == t.foe
def badTo (ss : List Int) (ts : List Tie) (k : Nat) : List Int := (rng k).filter fun i => brk ss (tieAt ts i)
def bad (ss : List Int) (ts : List Tie) : List Int := badTo ss ts ts.length
theorem badTo_succ (ss : List Int) (ts : List Tie) (k : Nat) : badTo ss ts (k + 1) = badTo ss ts k ++ (if brk ss (tieAt ts k) = true then [(k : Int)] else []) := by
  unfold badTo
  rw [rng_succ, List.filter_append, List.filter_cons]
  rfl
theorem badTo_len (ss : List Int) (ts : List Tie) (k : Nat) : (badTo ss ts k).length ≤ k := by
  unfold badTo
  have := List.length_filter_le (fun i => brk ss (tieAt ts i)) (rng k)
  rw [rng_length] at this
  exact this
theorem atI_sd {ss : List Int} {i : Int} (h0 : 0 ≤ i) (h1 : i < ss.length) : atI (ss.map V.int) i = some (.int (sd ss i)) := by
  have h : i.toNat < ss.length := by omega
  refine atI_of h0 ?_
  unfold sd
  rw [List.getElem?_map, List.getElem?_eq_getElem h, List.getD_eq_getElem?_getD, List.getElem?_eq_getElem h]
  rfl
theorem tieAt_of {ts : List Tie} {i : Nat} {t : Tie} (h : ts[i]? = some t) : tieAt ts i = t := by
  unfold tieAt
  rw [Int.toNat_natCast, List.getD_eq_getElem?_getD, h]
  rfl
theorem eq_brk (x y : Int) (f : Bool) : decide (V.bl (decide (V.int x = V.int y)) = V.bl (decide (V.str (kindS f) = V.str "foe"))) = (decide (x = y) == f) := by
  have e : decide (V.int x = V.int y) = decide (x = y) := by
    by_cases h : x = y
    · rw [decide_eq_true h, decide_eq_true (by rw [h])]
    · rw [decide_eq_false h, decide_eq_false (fun z => h (V.int.inj z))]
  rw [e]
  cases decide (x = y) <;> cases f <;> rfl
theorem ne_brk (x y : Int) (f : Bool) : (!decide (V.bl (!decide (V.int x = V.int y)) = V.bl (decide (V.str (kindS f) = V.str "foe")))) = (decide (x = y) == f) := by
  have e : decide (V.int x = V.int y) = decide (x = y) := by
    by_cases h : x = y
    · rw [decide_eq_true h, decide_eq_true (by rw [h])]
    · rw [decide_eq_false h, decide_eq_false (fun z => h (V.int.inj z))]
  rw [e]
  cases decide (x = y) <;> cases f <;> rfl
def spBreaks : Sp := fun vs H Q _ => ∃ (a b : Addr) (ss : List Int) (t : Tie), vs = [.ref a, .ref b] ∧ H a = some (.tup (ss.map V.int)) ∧ H b = some (.tup [.int t.one, .int t.other, .str (kindS t.foe)]) ∧ TieOk ss.length t ∧ Q (.bl (brk ss t)) H
def spBroken : Sp := fun vs H Q _ => ∃ (v : V) (a : Addr) (n : Int) (ts : List Tie) (ss : List Int), vs = [v, .ref a] ∧ WebAt H v n ts ∧ WebOk n ts ∧ H a = some (.tup (ss.map V.int)) ∧ (ss.length : Int) = n ∧
  ∀ r H', Same H H' → H' r = some (.tup ((bad ss ts).map V.int)) → Q (.ref r) H'
section
variable {P : Program} {w : World} {K : PySem.W.Frag} {mg : Str → Option Value} {base : Heap}
theorem ok_breaks {f : Addr} {fd : FuncData} (F : Fun K "breaks" "breaks" s_breaks f fd) : FnOk P w K mg base CX0 1 f fd ["sides", "tie"] spBreaks := by
  refine F.ok sc_breaks (fun vs H Q E h => ?_) (fun cdv A outer s H vs Q E hr h => ?_)
  · obtain ⟨a, b, ss, t, rfl, _⟩ := h
    rfl
  · obtain ⟨a, b, ss, t, rfl, ha, hb, ok, q⟩ := h
    refine ⟨_, (pss_cons (ps_asg (pv 1) (pg_tup rfl (pgs_cons (pg_name (i := 2) sc_breaks.nd rfl (.inl rfl)) (pgs_cons (pg_name (i := 3) sc_breaks.nd rfl (.inl rfl)) (pgs_cons (pg_name (i := 4) sc_breaks.nd rfl (.inl rfl)) pgs_nil)))))
      (pss_one (ps_ret (pe_cmpR op_eq (pe_cmpR op_eq (pe_ix ix_tup (pv 0) (pv 2) (fun _ _ => rfl)) (pe_ix ix_tup (pv 0) (pv 3) (fun _ _ => rfl)) (nomark _)) (pe_cmpR op_eq (pv 4) pe_str (nomark _)) (nomark _))))), ?_⟩
    refine ⟨.ref b, rfl, b, _, rfl, SqT.of hb, rfl, _, _, rfl, _, _, rfl, _, _, rfl, rfl, ?_⟩
    refine ⟨.ref a, rfl, .int t.one, rfl, a, _, t.one, _, rfl, rfl, SqT.of ha, atI_sd ok.1 ok.2.1, .ref a, rfl, .int t.other, rfl, a, _, t.other, _, rfl, rfl, SqT.of ha, atI_sd ok.2.2.1 ok.2.2.2.1, rfl, .str (kindS t.foe), rfl, rfl, rfl, ?_⟩
    rw [eq_brk]
    exact q
theorem ok_broken_by {f : Addr} {fd : FuncData} (F : Fun K "broken_by" "broken_by" s_broken_by f fd) (M : Free mg) (me : mg "enumerate" = none) (D1 : Df P w K mg base 1 "breaks" ["sides", "tie"] spBreaks) : FnOk P w K mg base CX0 2 f fd ["web", "sides"] spBroken := by
  obtain ⟨f1, fd1, G1, g1, k1, b1⟩ := D1
  refine F.ok sc_broken_by (fun vs H Q E h => ?_) (fun cdv A outer s H vs Q E hr h => ?_)
  · obtain ⟨v, a, n, ts, ss, rfl, _⟩ := h
    rfl
  · obtain ⟨v, a, n, ts, ss, rfl, ⟨wa, wb, us, rfl, hwa, hwb, hp⟩, ok, ha, hl, q⟩ := h
    refine ⟨_, (pss_one (ps_ret (pe_callTy call_tuple_of (by rfl) M.tuple (by decide +kernel) (pa_cons (pe_lc (own := [("number", 2), ("tie", 3)]) (g := gTup K 2 (gCons (gName 2) (gCons (gName 3) gNil))) (te := tVar 2) rfl sc_broken_by.nd (pi_enumT (by rfl) me (pa_cons (pe_ix ix_tup (pv 0) pe_int (fun _ _ => rfl)) pa_nil)) (blkOk_by (N := N_broken_by) (sc := defScope s_broken_by) (own := [("number", 2), ("tie", 3)]) (by decide +kernel)) (fun _ _ _ _ _ => (pg_tup rfl (pgs_cons (pg_name (i := 2) sc_broken_by.nd rfl (.inl rfl)) (pgs_cons (pg_name (i := 3) sc_broken_by.nd rfl (.inl rfl)) pgs_nil)))) (fun _ _ _ _ _ => (pts_one (pt_val (pe_call G1 hr (by rfl) g1 k1 b1 .nil pass0 (pa_cons (pv 1) (pa_cons (pv 3) pa_nil)))))) (fun _ _ _ _ _ => (pv 2))) pa_nil)))), ?_⟩
    have hlen : us.length = ts.length := Paired.length hp
    have few := ok.few
    refine ⟨.ref wa, rfl, wa, _, 1, .ref wb, rfl, rfl, SqT.of hwa, rfl, wb, us, rfl, SqT.of hwb, fun Z nZ => ?_⟩
    refine lc_it (walk_enumT (xs := us)) (fun i H' => H' Z = some (.lst ((badTo ss ts i).map V.int)) ∧ Same H H') ⟨upd_same, same_new nZ⟩ (fun i H' _ h => SqT.of (h.2 _ _ hwb)) ?_ ?_
    · rintro i x H1 H2 hi ⟨hZ, s1⟩ ⟨T, x1, y, rfl, nT, rfl, e1, e2⟩
      obtain rfl : V.int (i : Nat) = x1 := Option.some.inj e1
      obtain ⟨t, et, c, rfl, hc⟩ := Paired.at hp e2
      have okt := ok.ok t (List.mem_of_getElem? et)
      have s2 := s1.trans (same_new (o := .tup [.int (i : Nat), .ref c]) nT)
      have hZ2 := same_new (o := .tup [.int (i : Nat), .ref c]) nT _ _ hZ
      refine ⟨T, _, rfl, SqT.of upd_same, rfl, _, _, rfl, _, _, rfl, rfl, rfl, .ref a, rfl, .ref c, rfl, a, c, ss, t, rfl, s2 _ _ ha, s2 _ _ hc, by rw [hl]; exact okt, _, rfl, ?_⟩
      have et2 := tieAt_of et
      have lb := badTo_len ss ts i
      rw [badTo_succ, et2, List.map_append]
      by_cases hb : brk ss t = true
      · rw [hb]
        exact ⟨.int i, rfl, _, hZ2, by rw [List.length_map]; exact small1000 (by omega), upd_same, fun b o e => by rw [upd_ne (ne_of_none e nZ)]; exact s2 b o e⟩
      · rw [Bool.not_eq_true] at hb
        rw [hb]
        simp only [Bool.false_eq_true, if_false, List.map_nil, List.append_nil]
        exact ⟨hZ2, s2⟩
    · rintro H1 ⟨hZ, s1⟩
      rw [hlen] at hZ
      refine ⟨Z, _, rfl, .inl ⟨SqL.of hZ, fun r nr => ?_⟩⟩
      exact q r _ (s1.trans (same_new nr)) upd_same
end
/-! ### sides put over -/
def Bin (ss : List Int) : Prop := ∀ x ∈ ss, x = 0 ∨ x = 1
theorem sd_get {ss : List Int} {i : Int} (h0 : 0 ≤ i) (h1 : i < ss.length) : ∃ h : i.toNat < ss.length, sd ss i = ss[i.toNat] := by
  have h : i.toNat < ss.length := by omega
  refine ⟨h, ?_⟩
  unfold sd
  rw [List.getD_eq_getElem?_getD, List.getElem?_eq_getElem h]
  rfl
theorem sd_bin {ss : List Int} (b : Bin ss) {i : Int} (h0 : 0 ≤ i) (h1 : i < ss.length) : sd ss i = 0 ∨ sd ss i = 1 := by
  obtain ⟨h, e⟩ := sd_get h0 h1
  rw [e]
  exact b _ (List.getElem_mem h)
def over (ss : List Int) : List Int := ss.map fun s => 1 - s
theorem sd_over {ss : List Int} {i : Int} (h0 : 0 ≤ i) (h1 : i < ss.length) : sd (over ss) i = 1 - sd ss i := by
  obtain ⟨h, e⟩ := sd_get h0 h1
  obtain ⟨h', e'⟩ := sd_get (ss := over ss) h0 (by unfold over; rw [List.length_map]; exact h1)
  rw [e, e']
  simp [over]
theorem brk_over {ss : List Int} {t : Tie} (ok : TieOk ss.length t) : brk (over ss) t = brk ss t := by
  unfold brk
  rw [sd_over ok.1 ok.2.1, sd_over ok.2.2.1 ok.2.2.2.1]
  congr 1
  rw [decide_eq_decide]
  omega
theorem tieAt_mem {ts : List Tie} {i : Int} (h : i ∈ rng ts.length) : tieAt ts i ∈ ts := by
  rw [mem_rng] at h
  have h' : i.toNat < ts.length := by omega
  unfold tieAt
  rw [List.getD_eq_getElem?_getD, List.getElem?_eq_getElem h']
  exact List.getElem_mem h'
theorem bad_over {ss : List Int} {ts : List Tie} (ok : ∀ t ∈ ts, TieOk ss.length t) : bad (over ss) ts = bad ss ts := by
  unfold bad badTo
  exact List.filter_congr fun i hi => brk_over (ok _ (tieAt_mem hi))
def moved (ss : List Int) (p : Int) : List Int := ss.set p.toNat (1 - sd ss p)
theorem moved_len (ss : List Int) (p : Int) : (moved ss p).length = ss.length := by unfold moved; rw [List.length_set]
theorem sd_moved {ss : List Int} {p i : Int} (p0 : 0 ≤ p) (p1 : p < ss.length) (h0 : 0 ≤ i) (h1 : i < ss.length) : sd (moved ss p) i = if i = p then 1 - sd ss p else sd ss i := by
  show (ss.set p.toNat (1 - sd ss p)).getD i.toNat 0 = _
  rw [List.getD_eq_getElem?_getD, List.getElem?_set]
  by_cases hp : i = p
  · subst hp
    rw [if_pos rfl, if_pos (by omega), if_pos rfl]
    rfl
  · rw [if_neg (by omega), if_neg hp]
    unfold sd
    rw [List.getD_eq_getElem?_getD]
theorem brk_moved {ss : List Int} (b : Bin ss) {t : Tie} {p : Int} (ok : TieOk ss.length t) (p0 : 0 ≤ p) (p1 : p < ss.length) : brk (moved ss p) t = (brk ss t != (t.one == p || t.other == p)) := by
  unfold brk
  rw [sd_moved p0 p1 ok.1 ok.2.1, sd_moved p0 p1 ok.2.2.1 ok.2.2.2.1]
  have b1 := sd_bin b ok.1 ok.2.1
  have b2 := sd_bin b ok.2.2.1 ok.2.2.2.1
  have ne := ok.2.2.2.2
  by_cases h1 : t.one = p
  · have h2 : t.other ≠ p := fun z => ne (h1.trans z.symm)
    rw [if_pos h1, if_neg h2, ← h1]
    have e1 : (t.one == t.one) = true := by simp
    rw [e1, Bool.true_or]
    rcases b1 with e | e <;> rcases b2 with e' | e' <;> rw [e, e'] <;> cases t.foe <;> rfl
  · rw [if_neg h1]
    have e1 : (t.one == p) = false := by simp [h1]
    rw [e1, Bool.false_or]
    by_cases h2 : t.other = p
    · rw [if_pos h2, ← h2]
      have e2 : (t.other == t.other) = true := by simp
      rw [e2]
      rcases b1 with e | e <;> rcases b2 with e' | e' <;> rw [e, e'] <;> cases t.foe <;> rfl
    · rw [if_neg h2]
      have e2 : (t.other == p) = false := by simp [h2]
      rw [e2, Bool.bne_false]
theorem moved_cut {ss : List Int} {p : Int} (p0 : 0 ≤ p) (p1 : p < ss.length) : cutV (ss.map V.int) none (some p) ++ [V.int (1 - sd ss p)] ++ cutV (ss.map V.int) (some (p + 1)) none = (moved ss p).map V.int := by
  obtain ⟨k, rfl⟩ : ∃ k : Nat, p = k := ⟨p.toNat, by omega⟩
  have hk : k < ss.length := by omega
  have e1 : cutV (ss.map V.int) none (some (k : Int)) = (ss.take k).map V.int := by
    unfold cutV
    rw [HT.sIx_none, HT.sIx_nat, List.length_map, Nat.min_eq_left (by omega), List.drop_zero, List.map_take]
    rfl
  have e2 : cutV (ss.map V.int) (some ((k : Int) + 1)) none = (ss.drop (k + 1)).map V.int := by
    unfold cutV
    rw [HT.sIx_none, show ((k : Int) + 1) = ((k + 1 : Nat) : Int) from by omega, HT.sIx_nat, List.length_map, Nat.min_eq_left (by omega), List.map_drop]
    exact List.take_of_length_le (by rw [List.length_drop, List.length_map]; omega)
  rw [e1, e2]
  unfold moved
  rw [Int.toNat_natCast, List.set_eq_take_append_cons_drop, if_pos hk]
  simp
theorem in_bad {ss : List Int} {ts : List Tie} {i : Nat} (hi : i < ts.length) : inV (.int (i : Int)) ((bad ss ts).map V.int) = brk ss (tieAt ts i) := by
  rw [Bool.eq_iff_iff]
  unfold inV
  rw [List.any_map, List.any_eq_true]
  unfold bad badTo
  constructor
  · rintro ⟨x, hx, e⟩
    have e' : (x == (i : Int)) = true := e
    rw [beq_iff_eq] at e'
    subst e'
    exact (List.mem_filter.mp hx).2
  · intro h
    exact ⟨i, List.mem_filter.mpr ⟨mem_rng.mpr (by omega), h⟩, by show ((i : Int) == (i : Int)) = true; simp⟩
theorem in_two (p x y : Int) : inV (.int p) [.int x, .int y] = (x == p || y == p) := by
  show ((x == p) || ((y == p) || false)) = _
  rw [Bool.or_false]
theorem ne_bl (a b : Bool) : (!decide (V.bl a = V.bl b)) = (a != b) := by cases a <;> cases b <;> rfl
/-! ### the fixed choice: the mathematics -/
def Cons (ss : List Int) (ts : List Tie) : Prop := ∀ t ∈ ts, brk ss t = false
def Odd (ts : List Tie) (n : Nat) : Prop := ∃ x : Int, (0 ≤ x ∧ x < n) ∧ RP ts x x true
def one? (ss : List Int) (i : Int) : Bool := decide (sd ss i = 1)
structure Told (ts : List Tie) (n : Nat) (ss : List Int) : Prop where
  len : ss.length = n
  bin : Bin ss
  each : ∀ i : Int, 0 ≤ i → i < n → ∃ m, leader ts m ∧ RP ts m i (one? ss i)
theorem brk_one {ss : List Int} (b : Bin ss) {t : Tie} (ok : TieOk ss.length t) : brk ss t = ((one? ss t.one ^^ one? ss t.other) ^^ t.foe) := by
  unfold brk one?
  have b1 := sd_bin b ok.1 ok.2.1
  have b2 := sd_bin b ok.2.2.1 ok.2.2.2.1
  rcases b1 with e | e <;> rcases b2 with e' | e' <;> rw [e, e'] <;> cases t.foe <;> decide
theorem cons_adj {ss : List Int} {ts : List Tie} (b : Bin ss) (ok : ∀ t ∈ ts, TieOk ss.length t) (h : Cons ss ts) {x y : Int} {k : Bool} (ad : Adj ts x y k) : (one? ss x ^^ one? ss y) = k := by
  obtain ⟨t, ht, rfl, h1⟩ := ad
  have e := h t ht
  rw [brk_one b (ok t ht)] at e
  rcases h1 with ⟨rfl, rfl⟩ | ⟨rfl, rfl⟩
  · revert e
    cases one? ss t.one <;> cases one? ss t.other <;> cases t.foe <;> simp
  · revert e
    cases one? ss t.one <;> cases one? ss t.other <;> cases t.foe <;> simp
theorem cons_walk {ss : List Int} {ts : List Tie} (b : Bin ss) (ok : ∀ t ∈ ts, TieOk ss.length t) (h : Cons ss ts) {x y : Int} {p : Bool} (r : RP ts x y p) : (one? ss x ^^ one? ss y) = p := by
  induction r with
  | nil => rw [Bool.xor_self]
  | step _ ad ih =>
    rw [← ih, ← cons_adj b ok h ad]
    rename_i u v p k _
    cases one? ss x <;> cases one? ss u <;> cases one? ss v <;> rfl
theorem cons_no_odd {ss : List Int} {ts : List Tie} {n : Nat} (b : Bin ss) (ok : ∀ t ∈ ts, TieOk ss.length t) (h : Cons ss ts) : ¬ Odd ts n := by
  rintro ⟨x, _, r⟩
  have := cons_walk b ok h r
  rw [Bool.xor_self] at this
  cases this
theorem leader_one {ts : List Tie} {m m' i : Int} (h : leader ts m) (h' : leader ts m') (r : Rch ts m i) (r' : Rch ts m' i) : m = m' := by
  have h1 := h m' (r.trans r'.symm)
  have h2 := h' m (r'.trans r.symm)
  omega
theorem told_unique {ts : List Tie} {n : Nat} {ss zs : List Int} (ok : ∀ t ∈ ts, TieOk n t) (h : Told ts n ss) (g : Told ts n zs) (c : Cons ss ts) : ss = zs := by
  refine List.ext_getElem? fun j => ?_
  by_cases hj : j < n
  · obtain ⟨m, l1, r1⟩ := h.each j (by omega) (by omega)
    obtain ⟨m', l2, r2⟩ := g.each j (by omega) (by omega)
    obtain rfl := leader_one l1 l2 ⟨_, r1⟩ ⟨_, r2⟩
    have w := cons_walk h.bin (by rw [h.len]; exact ok) c (r1.trans r2.symm)
    rw [Bool.xor_self] at w
    have e : one? ss j = one? zs j := by
      revert w
      cases one? ss (j : Int) <;> cases one? zs (j : Int) <;> simp
    have b1 := sd_bin h.bin (i := j) (by omega) (by rw [h.len]; omega)
    have b2 := sd_bin g.bin (i := j) (by omega) (by rw [g.len]; omega)
    obtain ⟨h1, e1⟩ := sd_get (ss := ss) (i := j) (by omega) (by rw [h.len]; omega)
    obtain ⟨h2, e2⟩ := sd_get (ss := zs) (i := j) (by omega) (by rw [g.len]; omega)
    have es : sd ss j = sd zs j := by
      unfold one? at e
      rcases b1 with x | x <;> rcases b2 with y | y <;> rw [x, y] at e ⊢ <;> revert e <;> decide
    rw [Int.toNat_natCast] at h1 h2
    rw [List.getElem?_eq_getElem h1, List.getElem?_eq_getElem h2]
    have : ss[j] = zs[j] := by
      have q1 : sd ss j = ss[j] := e1
      have q2 : sd zs j = zs[j] := e2
      rw [← q1, ← q2, es]
    rw [this]
  · rw [List.getElem?_eq_none (by rw [h.len]; omega), List.getElem?_eq_none (by rw [g.len]; omega)]
theorem told_odd {ts : List Tie} {n : Nat} {ss : List Int} (ok : ∀ t ∈ ts, TieOk n t) (h : Told ts n ss) {t : Tie} (ht : t ∈ ts) (hb : brk ss t = true) : Odd ts n := by
  have okt := ok t ht
  obtain ⟨m, l1, r1⟩ := h.each t.one okt.1 okt.2.1
  obtain ⟨m', l2, r2⟩ := h.each t.other okt.2.2.1 okt.2.2.2.1
  have ad : Adj ts t.one t.other t.foe := ⟨t, ht, rfl, .inl ⟨rfl, rfl⟩⟩
  obtain rfl := leader_one l1 l2 (Rch.trans ⟨_, r1⟩ (Rch.adj ad)) ⟨_, r2⟩
  have w := (r1.step ad).trans r2.symm
  refine ⟨m, Rch.rng ok ⟨okt.1, okt.2.1⟩ ⟨_, r1.symm⟩, ?_⟩
  have e : ((one? ss t.one ^^ t.foe) ^^ one? ss t.other) = true := by
    rw [brk_one h.bin (by rw [h.len]; exact okt)] at hb
    revert hb
    cases one? ss t.one <;> cases one? ss t.other <;> cases t.foe <;> simp
  rw [← e]
  exact w
theorem bad_nil {ss : List Int} {ts : List Tie} : bad ss ts = [] ↔ Cons ss ts := by
  unfold bad badTo Cons
  rw [List.filter_eq_nil_iff]
  constructor
  · intro h t ht
    obtain ⟨j, hj⟩ := List.getElem?_of_mem ht
    have hl := (List.getElem?_eq_some_iff.mp hj).1
    have := h j (mem_rng.mpr (by omega))
    rw [tieAt_of hj] at this
    simpa using this
  · intro h i hi
    rw [h _ (tieAt_mem hi)]
    decide
/-! ### groups by their least places, sides along the ties -/
theorem RP.mono {ts ts' : List Tie} (h : ∀ t ∈ ts, t ∈ ts') {a b : Int} {p : Bool} (r : RP ts a b p) : RP ts' a b p := by
  induction r with
  | nil => exact .nil
  | step _ ad ih =>
    obtain ⟨t, ht, e, q⟩ := ad
    exact ih.step ⟨t, h t ht, e, q⟩
def bit (x : Int) : Bool := decide (x = 1)
structure GS (ts : List Tie) (n : Nat) (g s : Int → Int) (good : Bool) : Prop where
  rp : ∀ i : Int, 0 ≤ i → i < n → RP ts (g i) i (bit (s i))
  le : ∀ i : Int, 0 ≤ i → i < n → 0 ≤ g i ∧ g i ≤ i
  bn : ∀ i : Int, 0 ≤ i → i < n → s i = 0 ∨ s i = 1
  eq : ∀ t ∈ ts, g t.one = g t.other
  yes : good = true → ∀ t ∈ ts, (bit (s t.one) ^^ bit (s t.other)) = t.foe
  no : good = false → Odd ts n
theorem GS.nil (n : Nat) : GS [] n (fun i => i) (fun _ => 0) true :=
  ⟨fun i _ _ => .nil, fun i h _ => ⟨h, Int.le_refl _⟩, fun _ _ _ => .inl rfl, fun t h => by simp at h, fun _ t h => by simp at h, fun h => by cases h⟩
theorem GS.same {ts : List Tie} {n : Nat} {g s : Int → Int} {good : Bool} (h : GS ts n g s good) {a b : Int} (r : Rch ts a b) : g a = g b :=
  r.ind (fun x => g a = g x) rfl fun x y k e ad => by
    obtain ⟨t, ht, _, q⟩ := ad
    have := h.eq t ht
    rcases q with ⟨rfl, rfl⟩ | ⟨rfl, rfl⟩
    · rw [e, this]
    · rw [e, this]
theorem GS.lead {ts : List Tie} {n : Nat} {g s : Int → Int} {good : Bool} (ok : ∀ t ∈ ts, TieOk n t) (h : GS ts n g s good) {i : Int} (h0 : 0 ≤ i) (h1 : i < n) : leader ts (g i) := fun q hq => by
  have e1 := h.same hq
  have e2 := h.same (⟨_, h.rp i h0 h1⟩ : Rch ts (g i) i)
  have r := hq.rng ok ⟨(h.le i h0 h1).1, by have := (h.le i h0 h1).2; omega⟩
  have := (h.le q r.1 r.2).2
  omega
def gNew (g : Int → Int) (low high : Int) : Int → Int := fun x => if low < high ∧ g x = high then low else g x
def sNew (g s : Int → Int) (low high turn : Int) : Int → Int := fun x => if low < high ∧ g x = high then (s x + turn) % 2 else s x
theorem bit_add {a b : Int} (ha : a = 0 ∨ a = 1) (hb : b = 0 ∨ b = 1) : bit ((a + b) % 2) = (bit a ^^ bit b) ∧ ((a + b) % 2 = 0 ∨ (a + b) % 2 = 1) := by
  rcases ha with rfl | rfl <;> rcases hb with rfl | rfl <;> decide
theorem GS.step {ts : List Tie} {n : Nat} {g s : Int → Int} {good : Bool} (h : GS ts n g s good) (okts : ∀ t ∈ ts, TieOk n t) {t : Tie} (ok : TieOk n t) {low high turn : Int} (hlow : low = min (g t.one) (g t.other)) (hhigh : high = max (g t.one) (g t.other)) (ht : turn = (s t.one + s t.other + (if t.foe = true then 1 else 0)) % 2) :
    GS (ts ++ [t]) n (gNew g low high) (sNew g s low high turn) (if low = high then good && decide (turn = 0) else good) := by
  have mono : ∀ x ∈ ts, x ∈ ts ++ [t] := fun x hx => List.mem_append_left _ hx
  have ad : Adj (ts ++ [t]) t.one t.other t.foe := ⟨t, by simp, rfl, .inl ⟨rfl, rfl⟩⟩
  have r1 := (h.rp t.one ok.1 ok.2.1).mono mono
  have r2 := (h.rp t.other ok.2.2.1 ok.2.2.2.1).mono mono
  have b1 := h.bn t.one ok.1 ok.2.1
  have b2 := h.bn t.other ok.2.2.1 ok.2.2.2.1
  have bt : bit turn = ((bit (s t.one) ^^ bit (s t.other)) ^^ t.foe) ∧ (turn = 0 ∨ turn = 1) := by
    rw [ht]
    rcases b1 with e | e <;> rcases b2 with e' | e' <;> rw [e, e'] <;> cases t.foe <;> decide
  have cross : low < high → RP (ts ++ [t]) low high (bit turn) := fun hl => by
    by_cases hc : g t.one ≤ g t.other
    · have e1 : low = g t.one := by omega
      have e2 : high = g t.other := by omega
      have w := (r1.step ad).trans r2.symm
      rw [e1, e2, bt.1]
      rw [show ((bit (s t.one) ^^ bit (s t.other)) ^^ t.foe) = ((bit (s t.one) ^^ t.foe) ^^ bit (s t.other)) from by cases bit (s t.one) <;> cases bit (s t.other) <;> cases t.foe <;> rfl]
      exact w
    · have e1 : low = g t.other := by omega
      have e2 : high = g t.one := by omega
      have w := (r2.step ad.symm).trans r1.symm
      rw [e1, e2, bt.1]
      rw [show ((bit (s t.one) ^^ bit (s t.other)) ^^ t.foe) = ((bit (s t.other) ^^ t.foe) ^^ bit (s t.one)) from by cases bit (s t.one) <;> cases bit (s t.other) <;> cases t.foe <;> rfl]
      exact w
  refine ⟨fun i h0 h1 => ?_, fun i h0 h1 => ?_, fun i h0 h1 => ?_, fun x hx => ?_, fun hg x hx => ?_, fun hg => ?_⟩
  · unfold gNew sNew
    by_cases hc : low < high ∧ g i = high
    · rw [if_pos hc, if_pos hc, (bit_add (h.bn i h0 h1) bt.2).1, Bool.xor_comm]
      have w := (h.rp i h0 h1).mono mono
      rw [hc.2] at w
      exact (cross hc.1).trans w
    · rw [if_neg hc, if_neg hc]
      exact (h.rp i h0 h1).mono mono
  · unfold gNew
    have l := h.le i h0 h1
    have l1 := h.le t.one ok.1 ok.2.1
    have l2 := h.le t.other ok.2.2.1 ok.2.2.2.1
    split
    · omega
    · exact l
  · unfold sNew
    split
    · exact (bit_add (h.bn i h0 h1) bt.2).2
    · exact h.bn i h0 h1
  · unfold gNew
    rcases List.mem_append.mp hx with hx | hx
    · rw [h.eq x hx]
    · rw [List.mem_singleton.mp hx]
      split <;> split <;> omega
  · rcases List.mem_append.mp hx with hx | hx
    · have hgood : good = true := by
        by_cases e : low = high
        · rw [if_pos e] at hg
          revert hg
          cases good <;> simp
        · rw [if_neg e] at hg
          exact hg
      have q := h.yes hgood x hx
      have e := h.eq x hx
      unfold sNew
      by_cases hc : low < high ∧ g x.one = high
      · have hc' : low < high ∧ g x.other = high := ⟨hc.1, by rw [← e]; exact hc.2⟩
        have okx := okts x hx
        rw [if_pos hc, if_pos hc', (bit_add (h.bn x.one okx.1 okx.2.1) bt.2).1, (bit_add (h.bn x.other okx.2.2.1 okx.2.2.2.1) bt.2).1, ← q]
        cases bit (s x.one) <;> cases bit (s x.other) <;> cases bit turn <;> rfl
      · have hc' : ¬ (low < high ∧ g x.other = high) := fun z => hc ⟨z.1, by rw [e]; exact z.2⟩
        rw [if_neg hc, if_neg hc']
        exact q
    · rw [List.mem_singleton.mp hx]
      unfold sNew
      by_cases e : low = high
      · rw [if_pos e] at hg
        have h0 : turn = 0 := by
          revert hg
          cases good <;> simp
        rw [if_neg (by omega), if_neg (by omega)]
        have z := bt.1
        rw [h0] at z
        revert z
        cases bit (s t.one) <;> cases bit (s t.other) <;> cases t.foe <;> decide
      · have hlt : low < high := by omega
        by_cases hc : g t.one ≤ g t.other
        · rw [if_neg (by omega), if_pos ⟨hlt, by omega⟩, (bit_add b2 bt.2).1, bt.1]
          cases bit (s t.one) <;> cases bit (s t.other) <;> cases t.foe <;> rfl
        · rw [if_pos ⟨hlt, by omega⟩, if_neg (by omega), (bit_add b1 bt.2).1, bt.1]
          cases bit (s t.one) <;> cases bit (s t.other) <;> cases t.foe <;> rfl
  · have old : good = false → Odd (ts ++ [t]) n := fun e => by
      obtain ⟨x, hx, r⟩ := h.no e
      exact ⟨x, hx, r.mono mono⟩
    by_cases e : low = high
    · rw [if_pos e] at hg
      cases hgood : good
      · exact old hgood
      · rw [hgood] at hg
        have h1 : turn = 1 := by
          rcases bt.2 with z | z
          · rw [z] at hg
            cases hg
          · exact z
        have eg : g t.one = g t.other := by omega
        have w := (r1.step ad).trans (eg ▸ r2).symm
        refine ⟨g t.one, ?_, ?_⟩
        · have := h.le t.one ok.1 ok.2.1
          have := ok.2.1
          omega
        · have z := bt.1
          rw [h1] at z
          rw [show ((bit (s t.one) ^^ t.foe) ^^ bit (s t.other)) = true from by
            revert z
            cases bit (s t.one) <;> cases bit (s t.other) <;> cases t.foe <;> decide] at w
          exact w
    · rw [if_neg e] at hg
      exact old hg
/-! ### d.update(e) -/
def rUpdate : V → List V → Hp → VK → Prop := fun x vs H Q => ∃ (a b : Addr) (kvs more : List (Key × V)), x = .ref a ∧ vs = [.ref b] ∧ H a = some (.dK kvs) ∧ H b = some (.dK more) ∧ a ≠ b ∧ kvs.length + more.length ≤ sizeLine ∧ Q .non (upd H a (.dK (mergeK kvs more)))
theorem mt_update {X : Cx} : MtR X "dict.update" rUpdate := by
  intro pins s σ H x vs v us Q I rx rv h
  obtain ⟨a, b, kvs, more, ex, ev, e1, e2, ne, hl, q⟩ := h
  subst ex
  subst ev
  obtain rfl : v = Value.ref a := rx
  obtain ⟨u, eu, r1⟩ := vals1 rv
  subst eu
  obtain rfl : u = Value.ref b := r1
  obtain ⟨z1, hd1, vs1, rel1, dd1⟩ := dk_of I.hok e1
  obtain ⟨z2, hd2, vs2, rel2, dd2⟩ := dk_of I.hok e2
  refine call_meetsIn PySem.F.slot_dict_update dd1.typeIs PySem.F.entry_dict_update (PySem.F.args_dict_update_2 _ _) (meets_dict_update (mixKind X.prog X.w) a b ne hd2) ⟨vs1, vs2, dd1, dd2, by rw [← rel1.length, ← rel2.length]; exact hl, fun h' dd' _ hs => ⟨.non, _, ?_, rfl, q⟩⟩
  have he : ∃ q, h'.get? a = some q := let ⟨q, _, _, hq, _⟩ := dd'; ⟨q, hq⟩
  exact d_write (t' := s.toks) I (by rw [e1]; exact True.intro) hs he (dk_new (Nat.le_trans (length_mergeK more kvs) hl) hd1 (rel2.merge rel1) dd')
/-! ### for each place its ties -/
def NbV (H : Hp) (v : V) (p : Nb) : Prop := ∃ a, v = .ref a ∧ H a = some (.tup [.int p.1, .str (kindS p.2)])
theorem NbV.tk {H H' : Hp} (k : Tk H H') {v : V} {p : Nb} (h : NbV H v p) : NbV H' v p := by
  obtain ⟨a, rfl, e⟩ := h
  exact ⟨a, rfl, k _ _ e⟩
structure Around (H : Hp) (L : Addr) (As : List Addr) (N : Nat → List Nb) : Prop where
  at' : H L = some (.lst (As.map V.ref))
  nd : As.Nodup
  each : ∀ j a, As[j]? = some a → ∃ vs, H a = some (.lst vs) ∧ Paired (NbV H) vs (N j)
  out : L ∉ As
theorem Around.same {H H' : Hp} {L : Addr} {As : List Addr} {N : Nat → List Nb} (h : Around H L As N) (s : Same H H') : Around H' L As N :=
  ⟨s _ _ h.at', h.nd, fun j a e => by
    obtain ⟨vs, h1, h2⟩ := h.each j a e
    exact ⟨vs, s _ _ h1, Paired.mono (fun _ _ x => x.tk (Same.tk s)) h2⟩, h.out⟩
theorem Around.put {H : Hp} {L q : Addr} {As : List Addr} {N : Nat → List Nb} (h : Around H L As N) {j : Nat} {a : Addr} {vs : List V} {p : Nb} (ea : As[j]? = some a) (ev : H a = some (.lst vs)) (eq : NbV H (.ref q) p) :
    Around (upd H a (.lst (vs ++ [.ref q]))) L As (fun i => N i ++ if i = j then [p] else []) := by
  have k : Tk H (upd H a (.lst (vs ++ [.ref q]))) := tk_lst ev
  refine ⟨?_, h.nd, fun i b e => ?_, h.out⟩
  · have ne : L ≠ a := fun z => h.out (by rw [z]; exact List.mem_of_getElem? ea)
    rw [upd_ne ne]
    exact h.at'
  · obtain ⟨ws, h1, h2⟩ := h.each i b e
    by_cases hij : i = j
    · subst hij
      rw [ea] at e
      cases e
      rw [ev] at h1
      cases h1
      refine ⟨_, upd_same, ?_⟩
      rw [if_pos rfl]
      exact Paired.snoc (Paired.mono (fun _ _ x => x.tk k) h2) (eq.tk k)
    · have ne : b ≠ a := fun z => hij (by
        subst z
        exact (List.getElem?_inj (List.getElem?_eq_some_iff.mp e).1 h.nd).mp (e.trans ea.symm))
      refine ⟨ws, by rw [upd_ne ne]; exact h1, ?_⟩
      rw [if_neg hij, List.append_nil]
      exact Paired.mono (fun _ _ x => x.tk k) h2
/-- the list that neighbours tells -/
def AroundAt (H : Hp) (v : V) (n : Int) (ts : List Tie) : Prop := ∃ L As, v = .ref L ∧ (As.length : Int) = n ∧ Around H L As (fun j => nbs ts j)
theorem AroundAt.same {H H' : Hp} {v : V} {n : Int} {ts : List Tie} (h : AroundAt H v n ts) (s : Same H H') : AroundAt H' v n ts := by
  obtain ⟨L, As, rfl, h1, h2⟩ := h
  exact ⟨L, As, rfl, h1, h2.same s⟩
def spNeighbours : Sp := fun vs H Q _ => ∃ (v : V) (n : Int) (ts : List Tie), vs = [v] ∧ WebAt H v n ts ∧ WebOk n ts ∧
  ∀ v' H', AroundAt H' v' n ts → Same H H' → Q v' H'
section
variable {P : Program} {w : World} {K : PySem.W.Frag} {mg : Str → Option Value} {base : Heap}
theorem ok_neighbours {f : Addr} {fd : FuncData} (F : Fun K "neighbours" "neighbours" s_neighbours f fd) (M : Free mg) : FnOk P w K mg base CX0 1 f fd ["web"] spNeighbours := by
  refine F.ok sc_neighbours (fun vs H Q E h => ?_) (fun cdv A outer s H vs Q E hr h => ?_)
  · obtain ⟨v, n, ts, rfl, _⟩ := h
    rfl
  · obtain ⟨v, n, ts, rfl, ⟨a, b, us, rfl, ha, hb, hp⟩, ok, q⟩ := h
    refine ⟨_, (pss_cons (ps_asg (pv 0) (pg_tup rfl (pgs_cons (pg_name (i := 1) sc_neighbours.nd rfl (.inl rfl)) (pgs_cons (pg_name (i := 2) sc_neighbours.nd rfl (.inl rfl)) pgs_nil))))
      (pss_cons (ps_setLc (i := 3) (own := [("place", 4)]) (g := gName 4) (tt := tYes) rfl sc_neighbours.nd rfl rfl (sw_true rfl rfl rfl (by decide +kernel)) (pi_range1 (by rfl) M.range (pa_cons (pv 1) pa_nil)) (blkOk_by (N := N_neighbours) (sc := defScope s_neighbours) (own := [("place", 4)]) (by decide +kernel)) (fun _ _ _ _ _ => (pg_name (i := 4) sc_neighbours.nd rfl (.inl rfl))) (fun _ _ _ _ _ => pts_nil) (fun _ _ _ _ _ => (pe_lst pa_nil)))
      (pss_cons (ps_for PassesOwn.never rfl (pi_tup (pv 2)) (pg_tup rfl (pgs_cons (pg_name (i := 5) sc_neighbours.nd rfl (.inl rfl)) (pgs_cons (pg_name (i := 6) sc_neighbours.nd rfl (.inl rfl)) (pgs_cons (pg_name (i := 7) sc_neighbours.nd rfl (.inl rfl)) pgs_nil))))
        (pss_cons (ps_expr (pe_bm PySem.F.plainAttrs_list PySem.F.slot_list_append PySem.F.type_list_append mt_append (pe_ix ix_list (pv 3) (pv 5) (fun _ _ => rfl)) (pa_cons (pe_tup (pa_cons (pv 6) (pa_cons (pv 7) pa_nil))) pa_nil)))
        (pss_one (ps_expr (pe_bm PySem.F.plainAttrs_list PySem.F.slot_list_append PySem.F.type_list_append mt_append (pe_ix ix_list (pv 3) (pv 6) (fun _ _ => rfl)) (pa_cons (pe_tup (pa_cons (pv 5) (pa_cons (pv 7) pa_nil))) pa_nil))))))
      (pss_one (ps_ret (pv 3)))))), ?_⟩
    obtain ⟨k, rfl⟩ : ∃ k : Nat, n = k := ⟨n.toNat, by have := ok.lo; omega⟩
    have hk : k ≤ 40 := by have := ok.hi; omega
    -- many, ties = web
    refine ⟨.ref a, rfl, a, _, rfl, SqT.of ha, rfl, _, _, rfl, _, _, rfl, rfl, ?_⟩
    -- around
    refine ⟨.int k, rfl, k, rfl, by omega, by omega, fun L nL => ?_⟩
    rw [Int.toNat_natCast]
    refine lc_range (lo := 0) (n := k) (fun i H' => ∃ As : List Addr, As.length = i ∧ Around H' L As (fun _ => []) ∧ (∀ x ∈ As, H x = none) ∧ Same H H') ?_ ?_ ?_
    · exact ⟨[], rfl, ⟨upd_same, List.nodup_nil, fun j a e => by simp at e, by simp⟩, fun x hx => by simp at hx, same_new nL⟩
    · rintro i H1 hi ⟨As, hl, hA, hf, s1⟩
      refine ⟨rfl, Nat.zero_le _, fun p np => ?_⟩
      have hA2 := hA.same (same_new (o := .lst []) np)
      refine ⟨_, hA2.at', by rw [List.length_map]; exact small1000 (by omega), As ++ [p], by rw [List.length_append, hl]; rfl, ?_, fun x hx => ?_, Same.mut (s1.trans (same_new np)) nL⟩
      · have npA : p ∉ As := fun z => by
          obtain ⟨j, hj⟩ := List.getElem?_of_mem z
          obtain ⟨vs, h1, _⟩ := hA.each j p hj
          rw [np] at h1
          cases h1
        have npL : p ≠ L := fun z => by
          have h1 := hA.at'
          rw [← z, np] at h1
          cases h1
        refine ⟨by rw [upd_same, List.map_append]; rfl, ?_, fun j x e => ?_, ?_⟩
        · rw [List.nodup_append]
          refine ⟨hA.nd, by simp, fun x hx y hy z => ?_⟩
          rw [List.mem_singleton] at hy
          subst hy
          subst z
          exact npA hx
        · have hx : x ≠ L := fun z => by
            subst z
            rcases List.mem_append.mp (List.mem_of_getElem? e) with h | h
            · exact hA.out h
            · exact npL (List.mem_singleton.mp h).symm
          rcases List.mem_append.mp (List.mem_of_getElem? e) with h | h
          · obtain ⟨j2, e2⟩ := List.getElem?_of_mem h
            obtain ⟨vs, h1, h2⟩ := hA2.each j2 x e2
            cases h2
            exact ⟨[], by rw [upd_ne hx]; exact h1, .nil⟩
          · rw [List.mem_singleton] at h
            subst h
            exact ⟨[], by rw [upd_ne hx]; exact upd_same, .nil⟩
        · intro z
          rcases List.mem_append.mp z with h | h
          · exact hA.out h
          · exact npL (List.mem_singleton.mp h).symm
      · rcases List.mem_append.mp hx with h | h
        · exact hf x h
        · rw [List.mem_singleton.mp h]
          exact s1.free np
    rintro H0 ⟨As, hl, hA, hf, s0⟩
    have nLH : H L = none := nL
    -- the loop
    refine ⟨.ref b, rfl, b, rfl, ⟨_, SqT.of (s0 _ _ hb)⟩, ?_⟩
    have hlen : us.length = ts.length := Paired.length hp
    refine for_tup (xs := us) (fun i σ' H' => ∃ y5 y6 y7 : Option V, σ' = [some (.ref a), some (.int k), some (.ref b), some (.ref L), none, y5, y6, y7] ∧ Around H' L As (fun j => nbs (ts.take i) j) ∧ Same H H') ?_ ?_ ?_ ?_
    · exact ⟨none, none, none, rfl, hA, s0⟩
    · rintro i σ' H' _ ⟨y5, y6, y7, rfl, hA1, s1⟩
      exact SqT.of (s1 _ _ hb)
    · rintro i x σ' H1 ex ⟨y5, y6, y7, rfl, hA1, s1⟩
      obtain ⟨t, et, c, rfl, hc⟩ := Paired.at hp ex
      have okt := ok.ok t (List.mem_of_getElem? et)
      have hti := (List.getElem?_eq_some_iff.mp et).1
      have etk : ts.take (i + 1) = ts.take i ++ [t] := by
        rw [List.take_add_one, et]
        rfl
      have hts := ok.few
      refine ⟨c, _, rfl, SqT.of (s1 _ _ hc), rfl, _, _, rfl, _, _, rfl, _, _, rfl, rfl, ?_⟩
      obtain ⟨o1, o2, o3, o4, o5⟩ := okt
      -- the first
      obtain ⟨x1, e1, e1'⟩ := getI (xs := As) o1 (by omega)
      obtain ⟨vs1, g1, p1⟩ := hA1.each _ _ e1'
      have l1 := Paired.length p1
      have l1' := nbs_len (ts.take i) (t.one.toNat : Int)
      rw [List.length_take] at l1'
      refine ⟨.ref L, rfl, .int t.one, rfl, L, _, t.one, .ref x1, rfl, rfl, SqL.of hA1.at', ?_, .inl ⟨rfl, _, SqL.of g1⟩, .int t.other, rfl, .str (kindS t.foe), rfl, by show 2 ≤ sizeLine; decide, fun p np => ?_⟩
      · exact atI_of o1 (by rw [List.getElem?_map, e1']; rfl)
      have A2 := hA1.same (same_new (o := .tup [.int t.other, .str (kindS t.foe)]) np)
      refine ⟨x1, vs1, _, rfl, rfl, same_new np _ _ g1, small1000 (by omega), ?_⟩
      have A3 := A2.put e1' (same_new np _ _ g1) (q := p) (p := (t.other, t.foe)) ⟨p, rfl, upd_same⟩
      have s3 : Same H (upd (upd H1 p (.tup [.int t.other, .str (kindS t.foe)])) x1 (.lst (vs1 ++ [.ref p]))) := Same.mut (s1.trans (same_new np)) (hf _ (List.mem_of_getElem? e1'))
      generalize upd (upd H1 p (.tup [.int t.other, .str (kindS t.foe)])) x1 (.lst (vs1 ++ [.ref p])) = H3 at A3 s3
      -- the second
      obtain ⟨x2, e2, e2'⟩ := getI (xs := As) o3 (by omega)
      obtain ⟨vs2, g2, p2⟩ := A3.each _ _ e2'
      have l2 := Paired.length p2
      rw [List.length_append] at l2
      have l2' := nbs_len (ts.take i) (t.other.toNat : Int)
      rw [List.length_take] at l2'
      have l2'' : (if t.other.toNat = t.one.toNat then [(t.other, t.foe)] else []).length ≤ 1 := by split <;> simp
      refine ⟨.ref L, rfl, .int t.other, rfl, L, _, t.other, .ref x2, rfl, rfl, SqL.of A3.at', ?_, .inl ⟨rfl, _, SqL.of g2⟩, .int t.one, rfl, .str (kindS t.foe), rfl, by show 2 ≤ sizeLine; decide, fun p' np' => ?_⟩
      · exact atI_of o3 (by rw [List.getElem?_map, e2']; rfl)
      have A4 := A3.same (same_new (o := .tup [.int t.one, .str (kindS t.foe)]) np')
      refine ⟨x2, vs2, _, rfl, rfl, same_new np' _ _ g2, small1000 (by omega), ?_⟩
      have A5 := A4.put e2' (same_new np' _ _ g2) (q := p') (p := (t.one, t.foe)) ⟨p', rfl, upd_same⟩
      refine ⟨_, _, _, rfl, ?_, Same.mut (s3.trans (same_new np')) (hf _ (List.mem_of_getElem? e2'))⟩
      refine ⟨A5.at', A5.nd, fun j z ez => ?_, A5.out⟩
      obtain ⟨ws, w1, w2⟩ := A5.each j z ez
      refine ⟨ws, w1, ?_⟩
      rw [etk, nbs_snoc]
      have en : nb1 t j = (if j = t.one.toNat then [(t.other, t.foe)] else []) ++ (if j = t.other.toNat then [(t.one, t.foe)] else []) := by
        unfold nb1
        congr 1
        · by_cases h : j = t.one.toNat
          · rw [if_pos h, if_pos (by omega)]
          · rw [if_neg h, if_neg (by omega)]
        · by_cases h : j = t.other.toNat
          · rw [if_pos h, if_pos (by omega)]
          · rw [if_neg h, if_neg (by omega)]
      rw [en, ← List.append_assoc]
      exact w2
    · rintro σ' H1 ⟨y5, y6, y7, rfl, hA1, s1⟩
      rw [hlen, List.take_length] at hA1
      exact ⟨.ref L, rfl, q _ _ ⟨L, As, rfl, by rw [hl], hA1⟩ s1⟩
end
/-! ### the places that ties lead to -/
def sideI (b : Bool) : Int := if b then 1 else 0
def kvOf (ks : List Nb) : List (Key × V) := ks.map fun p => (Sum.inl p.1, V.int (sideI p.2))
theorem kvOf_none {z : Int} : ∀ {ks : List Nb}, z ∉ ks.map (·.1) → valV (kvOf ks) (Sum.inl z) = none
  | [], _ => rfl
  | p :: ks, h => by
    rw [List.map_cons, List.mem_cons, not_or] at h
    have e := kvOf_none (ks := ks) h.2
    have h1 := h.1
    unfold kvOf at e ⊢
    rw [List.map_cons, valV_neg (fun z => h1 (Sum.inl.inj z).symm)]
    exact e
theorem kvOf_some {z : Int} {b : Bool} : ∀ {ks : List Nb}, (ks.map (·.1)).Nodup → (z, b) ∈ ks → valV (kvOf ks) (Sum.inl z) = some (.int (sideI b))
  | p :: ks, nd, h => by
    rw [List.map_cons, List.nodup_cons] at nd
    rcases List.mem_cons.mp h with e | e
    · subst e
      unfold kvOf
      rw [List.map_cons, valV_pos rfl]
    · have q := kvOf_some (ks := ks) nd.2 e
      have ne : p.1 ≠ z := fun y => nd.1 (by rw [y]; exact List.mem_map.mpr ⟨_, e, rfl⟩)
      unfold kvOf at q ⊢
      rw [List.map_cons, valV_neg (fun y => ne (Sum.inl.inj y))]
      exact q
theorem kvOf_put {ks : List Nb} {z : Int} {b : Bool} (h : z ∉ ks.map (·.1)) : putK (kvOf ks) (Sum.inl z) (.int (sideI b)) = kvOf (ks ++ [(z, b)]) := by
  unfold putK
  rw [if_neg]
  · unfold kvOf
    rw [List.map_append]
    rfl
  · intro g
    rw [List.any_eq_true] at g
    obtain ⟨kv, h1, h2⟩ := g
    unfold kvOf at h1
    rw [List.mem_map] at h1
    obtain ⟨p, hp, rfl⟩ := h1
    exact h (List.mem_map.mpr ⟨p, hp, Sum.inl.inj (of_decide_eq_true h2)⟩)
theorem kvOf_len (ks : List Nb) : (kvOf ks).length = ks.length := by unfold kvOf; rw [List.length_map]
theorem side_xor (b f : Bool) : (if decide (V.str (kindS f) = V.str "friend") = true then sideI b else 1 - sideI b) = sideI (b ^^ f) := by
  cases f
  · cases b <;> rfl
  · cases b <;> rfl
structure SidesOf (ts : List Tie) (s : Int) (ks : List Nb) : Prop where
  nd : (ks.map (·.1)).Nodup
  rp : ∀ p ∈ ks, RP ts s p.1 p.2
  all : ∀ z, z ∈ ks.map (·.1) ↔ Rch ts s z
def spSidesFrom : Sp := fun vs H Q _ => ∃ (v : V) (n : Int) (s : Int) (ts : List Tie), vs = [.int s, v] ∧ AroundAt H v n ts ∧ WebOk n ts ∧ 0 ≤ s ∧ s < n ∧
  ∀ d ks H', H d = none → H' d = some (.dK (kvOf ks)) → Same H H' → SidesOf ts s ks → Q (.ref d) H'
section
variable {P : Program} {w : World} {K : PySem.W.Frag} {mg : Str → Option Value} {base : Heap}
theorem ok_sides_from {f : Addr} {fd : FuncData} (F : Fun K "sides_from" "sides_from" s_sides_from f fd) (M : Free mg) : FnOk P w K mg base CX0 1 f fd ["start", "around"] spSidesFrom := by
  refine F.ok sc_sides_from (fun vs H Q E h => ?_) (fun cdv A outer sh H vs Q E hr h => ?_)
  · obtain ⟨v, n, s, ts, rfl, _⟩ := h
    rfl
  · obtain ⟨v, n, s, ts, rfl, ⟨L, As, rfl, hl, hA⟩, ok, hs0, hs1, q⟩ := h
    have hu := room1 hr
    refine ⟨_, (pss_cons (ps_set (i := 2) sc_sides_from.nd rfl (.inl rfl) (pe_disp (pps_cons (pv 0) pe_int pps_nil) (by rfl) (by rfl) (fun z => by cases z) (by decide)))
      (pss_cons (ps_set (i := 3) sc_sides_from.nd rfl (.inl rfl) (pe_lst (pa_cons (pv 0) pa_nil)))
      (pss_cons (ps_while PassesOwn.never (pt_truth (pv 3) (by intro _; rfl))
        (pss_cons (ps_set (i := 4) sc_sides_from.nd rfl (.inl rfl) (pe_bm0 PySem.F.plainAttrs_list PySem.F.slot_list_pop PySem.F.type_list_pop mt_pop (pv 3)))
        (pss_one (ps_for PassesOwn.never rfl (pi_list (pe_ix ix_list (pv 1) (pv 4) (fun _ _ => rfl))) (pg_tup rfl (pgs_cons (pg_name (i := 5) sc_sides_from.nd rfl (.inl rfl)) (pgs_cons (pg_name (i := 6) sc_sides_from.nd rfl (.inl rfl)) pgs_nil)))
          (pss_one (ps_if (pt_cmp (pc_dnotin hu (pv 5) (pv 2)))
            (Evl.pss_cut (ps_dput hu (pv 2) (pv 5) (pe_ifExp (pt_cmpR op_eq (pv 6) pe_str (nomark _)) (pe_dget hu (pv 2) (pv 4) (fun _ _ => rfl)) (pe_op op_sub pe_int (pe_dget hu (pv 2) (pv 4) (fun _ _ => rfl)))) rfl)
            (pss_one (ps_expr (pe_bm PySem.F.plainAttrs_list PySem.F.slot_list_append PySem.F.type_list_append mt_append (pv 3) (pa_cons (pv 5) pa_nil)))))
            pss_nil))))))
      (pss_one (ps_ret (pv 2)))))), ?_⟩
    obtain ⟨k, rfl⟩ : ∃ k : Nat, n = k := ⟨n.toNat, by have := ok.lo; omega⟩
    have hk : k ≤ 40 := by have := ok.hi; omega
    have hts := ok.few
    -- sides
    refine fun d nd => ⟨.int s, rfl, upd_same, [(Sum.inl s, .int 0)], rfl, (by show 1 ≤ 15; decide), ?_⟩
    have eH : upd (upd H d (.dK [])) d (.dK (mergeK [] [(Sum.inl s, .int 0)])) = upd H d (.dK (kvOf [(s, false)])) := by
      funext b
      by_cases hb : b = d
      · subst hb
        rw [upd_same, upd_same]
        rfl
      · rw [upd_ne hb, upd_ne hb, upd_ne hb]
    rw [eH]
    -- waiting
    refine ⟨.int s, rfl, by show 1 ≤ sizeLine; decide, fun W nW => ?_⟩
    have hdW : W ≠ d := (ne_of_none upd_same nW).symm
    have nWH : H W = none := by rw [upd_ne hdW] at nW; exact nW
    refine ⟨fun m σ' H' => ∃ (y4 y5 y6 : Option V) (ks : List Nb) (wl : List Int), σ' = [some (.int s), some (.ref L), some (.ref d), some (.ref W), y4, y5, y6] ∧ H' d = some (.dK (kvOf ks)) ∧ H' W = some (.lst (wl.map V.int)) ∧ Same H H' ∧ SF ts s ks wl [] ∧ m = 2 * (k - ks.length) + wl.length, ⟨_, none, none, none, [(s, false)], [s], rfl, ?_, upd_same, Same.mut (same_new nd) nWH, ?_, rfl⟩, ?_⟩
    · rw [upd_ne (Ne.symm hdW)]
      exact upd_same
    · exact ⟨by simp, fun p hp => by rw [List.mem_singleton.mp hp]; exact .nil, by simp, fun x hx => hx, Nat.le_refl _, fun x hx h1 => absurd hx h1⟩
    · rintro m σ' H1 ⟨y4, y5, y6, ks, wl, rfl, hd, hW, s1, sf, hm⟩
      refine ⟨.ref W, rfl, _, .inl ⟨_, SqL.of hW, rfl⟩, ?_⟩
      refine ite2 (fun hb => ?_) (fun hb => ?_)
      · -- a place
        cases hwl : wl with
        | nil => rw [hwl] at hb; cases hb
        | cons z zs =>
        obtain ⟨ys, p, e⟩ : ∃ (ys : List Int) (p : Int), z :: zs = ys ++ [p] := ⟨(z :: zs).dropLast, (z :: zs).getLast (by simp), (List.dropLast_concat_getLast (by simp)).symm⟩
        rw [hwl, e] at hW sf hm
        have hpk := sf.sub p (by simp)
        obtain ⟨b, hb1, hb2⟩ := sf.keys hpk
        have hpr := Rch.rng ok.ok ⟨hs0, hs1⟩ ⟨b, hb2⟩
        have sp := sf.pop
        have e3 : ((ys ++ [p]).map V.int).dropLast = ys.map V.int := by simp
        refine ⟨fun σ' H' => ∃ m', m' < m ∧ ∃ (y4 y5 y6 : Option V) (ks : List Nb) (wl : List Int), σ' = [some (.int s), some (.ref L), some (.ref d), some (.ref W), y4, y5, y6] ∧ H' d = some (.dK (kvOf ks)) ∧ H' W = some (.lst (wl.map V.int)) ∧ Same H H' ∧ SF ts s ks wl [] ∧ m' = 2 * (k - ks.length) + wl.length, fun _ _ h => h, ?_⟩
        refine ⟨.ref W, rfl, .inl ⟨rfl, _, SqL.of hW⟩, W, _, .int p, rfl, rfl, hW, by simp, ?_⟩
        rw [e3]
        have hd2 : (upd H1 W (.lst (ys.map V.int))) d = some (.dK (kvOf ks)) := by rw [upd_ne (Ne.symm hdW)]; exact hd
        have hW2 : (upd H1 W (.lst (ys.map V.int))) W = some (.lst (ys.map V.int)) := upd_same
        have s2 : Same H (upd H1 W (.lst (ys.map V.int))) := Same.mut s1 nWH
        generalize upd H1 W (.lst (ys.map V.int)) = H2 at hd2 hW2 s2
        have A2 := hA.same s2
        obtain ⟨x, ex, ex'⟩ := getI (xs := As) hpr.1 (by omega)
        obtain ⟨us, g, pr⟩ := A2.each _ _ ex'
        have epk : ((p.toNat : Nat) : Int) = p := by omega
        rw [epk] at pr
        refine ⟨.ref L, rfl, .int p, rfl, L, _, p, .ref x, rfl, rfl, SqL.of A2.at', atI_of hpr.1 (by rw [List.getElem?_map, ex']; rfl), x, rfl, ⟨_, SqL.of g⟩, ?_⟩
        have gH : H x = some (.lst us) := by
          obtain ⟨us', g', _⟩ := hA.each _ _ ex'
          rw [s2 _ _ g'] at g
          cases g
          exact g'
        refine for_list (xs := us) (fun i σ' H' => ∃ (y5 y6 : Option V) (ks : List Nb) (wl : List Int), σ' = [some (.int s), some (.ref L), some (.ref d), some (.ref W), some (.int p), y5, y6] ∧ H' d = some (.dK (kvOf ks)) ∧ H' W = some (.lst (wl.map V.int)) ∧ Same H H' ∧ SF ts s ks wl [p] ∧ (p, b) ∈ ks ∧ (∀ q ∈ (nbs ts p).take i, q.1 ∈ ks.map (·.1)) ∧ 2 * (k - ks.length) + wl.length < m) ?_ ?_ ?_ ?_
        · exact ⟨y5, y6, ks, ys, rfl, hd2, hW2, s2, sp, hb1, fun q hq => by simp at hq, by rw [hm, List.length_append]; simp⟩
        · rintro i σ' H' _ ⟨y5, y6, ks, wl, rfl, _, _, s3, _⟩
          exact SqL.of (s3 _ _ gH)
        · rintro i u σ' H3 eu ⟨y5, y6, ks, wl, rfl, hd3, hW3, s3, sf3, hb3, hdn, hlt⟩
          have A3 := hA.same s3
          obtain ⟨us', g', pr'⟩ := A3.each _ _ ex'
          rw [s3 _ _ gH] at g'
          cases g'
          rw [epk] at pr'
          obtain ⟨⟨y, fo⟩, ey, c, rfl, hc⟩ := Paired.at pr' eu
          have ady := mem_nbs.mp (List.mem_of_getElem? ey)
          have few := sf3.few ok.ok ⟨hs0, hs1⟩
          have etk : (nbs ts p).take (i + 1) = (nbs ts p).take i ++ [(y, fo)] := by
            rw [List.take_add_one, ey]
            rfl
          refine ⟨c, _, rfl, SqT.of hc, rfl, _, _, rfl, _, _, rfl, rfl, ?_⟩
          refine ⟨.int y, rfl, .ref d, rfl, d, _, rfl, DGet.k (k := Sum.inl y) hd3, _, rfl, ?_⟩
          by_cases hy : y ∈ ks.map (·.1)
          · obtain ⟨yb, yb1, _⟩ := sf3.keys hy
            rw [kvOf_some sf3.nd yb1]
            refine ⟨_, _, ks, wl, rfl, hd3, hW3, s3, sf3, hb3, fun q hq => ?_, hlt⟩
            rw [etk] at hq
            rcases List.mem_append.mp hq with h | h
            · exact hdn q h
            · rw [List.mem_singleton.mp h]
              exact hy
          · rw [kvOf_none hy]
            have sfp := sf3.push (sf3.rp _ hb3) ady hy
            have few2 := sfp.few ok.ok ⟨hs0, hs1⟩
            have lks : (kvOf ks).length < sizeLine := by rw [kvOf_len]; exact small1000 (by omega)
            have vp := kvOf_some sf3.nd hb3
            have ep := kvOf_put (b := b ^^ fo) hy
            refine ⟨fun σ' H' => σ' = [some (.int s), some (.ref L), some (.ref d), some (.ref W), some (.int p), some (.int y), some (.str (kindS fo))] ∧ H' = upd H3 d (.dK (kvOf (ks ++ [(y, b ^^ fo)]))), ?_, ?_⟩
            · refine ⟨.str (kindS fo), rfl, rfl, _, rfl, ?_⟩
              rw [← ep]
              cases fo
              · refine ⟨.ref d, rfl, .int p, rfl, d, _, rfl, (by rw [← vp]; exact DGet.k (k := Sum.inl p) hd3), .ref d, rfl, .int y, rfl, d, _, rfl, DPut.k (k := Sum.inl y) hd3 lks, rfl, ?_⟩
                rw [Bool.xor_false]
              · refine ⟨.ref d, rfl, .int p, rfl, d, _, rfl, (by rw [← vp]; exact DGet.k (k := Sum.inl p) hd3), 1, sideI b, rfl, rfl, .ref d, rfl, .int y, rfl, d, _, rfl, DPut.k (k := Sum.inl y) hd3 lks, rfl, ?_⟩
                cases b <;> rfl
            · rintro σ' H4 ⟨rfl, rfl⟩
              have hW4 : (upd H3 d (.dK (kvOf (ks ++ [(y, b ^^ fo)])))) W = some (.lst (wl.map V.int)) := by rw [upd_ne hdW]; exact hW3
              have lw := sf3.le
              refine ⟨.ref W, rfl, .inl ⟨rfl, _, SqL.of hW4⟩, .int y, rfl, W, _, _, rfl, rfl, hW4, by rw [List.length_map]; exact small1000 (by omega), ?_⟩
              refine ⟨_, _, ks ++ [(y, b ^^ fo)], wl ++ [y], rfl, ?_, by rw [upd_same, List.map_append]; rfl, Same.mut (Same.mut s3 nd) nWH, sfp, List.mem_append_left _ hb3, fun q hq => ?_, ?_⟩
              · rw [upd_ne (Ne.symm hdW)]
                exact upd_same
              · rw [List.map_append]
                rw [etk] at hq
                rcases List.mem_append.mp hq with h | h
                · exact List.mem_append_left _ (hdn q h)
                · rw [List.mem_singleton.mp h]
                  exact List.mem_append_right _ (by simp)
              · rw [List.length_append] at few2 ⊢
                rw [List.length_append]
                simp only [List.length_cons, List.length_nil] at few2 ⊢
                omega
        · rintro σ' H3 ⟨y5, y6, ks, wl, rfl, hd3, hW3, s3, sf3, hb3, hdn, hlt⟩
          rw [Paired.length pr, List.take_length] at hdn
          exact ⟨_, hlt, _, _, _, ks, wl, rfl, hd3, hW3, s3, sf3.done hdn, rfl⟩
      · -- none is left
        have hwl : wl = [] := by
          cases wl with
          | nil => rfl
          | cons z zs => exact absurd rfl hb
        subst hwl
        exact ⟨.ref d, rfl, q d ks H1 nd hd s1 ⟨sf.nd, sf.rp, sf.all⟩⟩
end
theorem mem_putK {k z : Key} {v : V} {kvs : List (Key × V)} : z ∈ (putK kvs k v).map (·.1) ↔ z ∈ kvs.map (·.1) ∨ z = k := by
  unfold putK
  split
  · rename_i h
    rw [List.any_eq_true] at h
    obtain ⟨kv, h1, h2⟩ := h
    have h3 := of_decide_eq_true h2
    rw [List.map_map]
    have e : (Prod.fst ∘ fun kv : Key × V => if kv.1 = k then (kv.1, v) else kv) = Prod.fst := by
      funext p
      show (if p.1 = k then (p.1, v) else p).1 = p.1
      split <;> rfl
    rw [show ((fun x : Key × V => x.1) ∘ fun kv : Key × V => if kv.1 = k then (kv.1, v) else kv) = Prod.fst from e]
    constructor
    · exact .inl
    · rintro (h | h)
      · exact h
      · rw [h, ← h3]
        exact List.mem_map.mpr ⟨kv, h1, rfl⟩
  · rw [List.map_append, List.mem_append]
    simp
theorem mem_mergeK {z : Key} : ∀ {more kvs : List (Key × V)}, z ∈ (mergeK kvs more).map (·.1) ↔ z ∈ kvs.map (·.1) ∨ z ∈ more.map (·.1)
  | [], kvs => by
    show z ∈ kvs.map (·.1) ↔ _
    simp
  | p :: r, kvs => by
    have q := mem_mergeK (z := z) (more := r) (kvs := putK kvs p.1 p.2)
    rw [mem_putK] at q
    show z ∈ (mergeK (putK kvs p.1 p.2) r).map (·.1) ↔ _
    rw [q, List.map_cons, List.mem_cons, or_assoc]
theorem valV_isSome {k : Key} : ∀ {kvs : List (Key × V)}, (valV kvs k).isSome = true ↔ k ∈ kvs.map (·.1)
  | [] => by simp [valV_nil]
  | p :: r => by
    by_cases h : p.1 = k
    · rw [valV_pos h, List.map_cons, List.mem_cons]
      simp [h]
    · rw [valV_neg h, List.map_cons, List.mem_cons, valV_isSome]
      constructor
      · exact .inr
      · rintro (e | e)
        · exact absurd e.symm h
        · exact e
theorem kvOf_keys (ks : List Nb) : (kvOf ks).map (·.1) = (ks.map (·.1)).map Sum.inl := by
  unfold kvOf
  rw [List.map_map, List.map_map]
  rfl
theorem lead_iff {ts : List Tie} {n : Nat} (ok : ∀ t ∈ ts, TieOk n t) {i : Int} (h0 : 0 ≤ i ∧ i < n) : leader ts i ↔ ¬ ∃ x, 0 ≤ x ∧ x < i ∧ Rch ts x i := by
  constructor
  · rintro h ⟨x, h1, h2, h3⟩
    have := h x h3.symm
    omega
  · intro h q hq
    rcases Int.lt_or_le q i with l | l
    · exact absurd ⟨q, (hq.rng ok h0).1, l, hq.symm⟩ h
    · exact l
/-! ### the fixed choice, as it is told -/
def spFixed : Sp := fun vs H Q _ => ∃ (v : V) (n : Nat) (ts : List Tie), vs = [v] ∧ WebAt H v n ts ∧ WebOk n ts ∧
  (∀ ss r H', Told ts n ss → Cons ss ts → Same H H' → H' r = some (.tup (ss.map V.int)) → Q (.ref r) H') ∧ ∀ H', Odd ts n → Same H H' → Q .non H'
theorem valV_merge : ∀ {more kvs : List (Key × V)} {k : Key} {v : V}, valV (mergeK kvs more) k = some v → valV kvs k = some v ∨ (k, v) ∈ more
  | [], _, _, _, h => .inl h
  | p :: r, kvs, k, v, h => by
    have q := valV_merge (more := r) (kvs := putK kvs p.1 p.2) (k := k) (v := v) h
    rcases q with q | q
    · rw [valV_put] at q
      by_cases e : k = p.1
      · rw [if_pos e] at q
        obtain rfl := Option.some.inj q
        exact .inr (by rw [e]; simp)
      · rw [if_neg e] at q
        exact .inl q
    · exact .inr (List.mem_cons_of_mem _ q)
theorem told_of {ts : List Tie} {n : Nat} {ss : List Int} (hl : ss.length = n) (h : ∀ (i : Nat) (x : Int), ss[i]? = some x → ∃ m b, leader ts m ∧ RP ts m i b ∧ x = sideI b) : Told ts n ss := by
  refine ⟨hl, fun x hx => ?_, fun i h0 h1 => ?_⟩
  · obtain ⟨i, hi⟩ := List.getElem?_of_mem hx
    obtain ⟨m, b, _, _, rfl⟩ := h i x hi
    cases b
    · exact .inl rfl
    · exact .inr rfl
  · obtain ⟨h', e⟩ := sd_get (ss := ss) h0 (by rw [hl]; exact h1)
    obtain ⟨m, b, l, r, ex⟩ := h i.toNat _ (List.getElem?_eq_getElem h')
    refine ⟨m, l, ?_⟩
    have e2 : one? ss i = b := by
      unfold one?
      rw [e, ex]
      cases b <;> rfl
    rw [e2]
    rw [show ((i.toNat : Nat) : Int) = i from by omega] at r
    exact r
section
variable {P : Program} {w : World} {K : PySem.W.Frag} {mg : Str → Option Value} {base : Heap}
theorem ok_sides_of {f : Addr} {fd : FuncData} (F : Fun K "sides_of" "sides_of" s_sides_of f fd) (M : Free mg) (D1 : Df P w K mg base 1 "neighbours" ["web"] spNeighbours) (D2 : Df P w K mg base 1 "sides_from" ["start", "around"] spSidesFrom) (D3 : Df P w K mg base 2 "broken_by" ["web", "sides"] spBroken) : FnOk P w K mg base CX0 3 f fd ["web"] spFixed := by
  obtain ⟨f1, fd1, G1, g1, k1, b1⟩ := D1
  obtain ⟨f2, fd2, G2, g2, k2, b2⟩ := D2
  obtain ⟨f3, fd3, G3, g3, k3, b3⟩ := D3
  refine F.ok sc_sides_of (fun vs H Q E h => ?_) (fun cdv A outer sh H vs Q E hr h => ?_)
  · obtain ⟨v, n, ts, rfl, _⟩ := h
    rfl
  · obtain ⟨v, n, ts, rfl, hw, ok, q, qn⟩ := h
    have hu := room1 hr
    have hr1 : Room 1 _ := hr.mono (by decide : 1 ≤ 2)
    have hk : n ≤ 40 := by have := ok.hi; omega
    refine ⟨_, (pss_cons (ps_set (i := 1) sc_sides_of.nd rfl (.inl rfl) (pe_call G1 hr1 (by rfl) g1 k1 b1 .nil pass0 (pa_cons (pv 0) pa_nil)))
      (pss_cons (ps_set (i := 2) sc_sides_of.nd rfl (.inr rfl) pe_dnewK)
      (Evl.pss_cut (ps_for PassesOwn.never rfl (pi_range1 (by rfl) M.range (pa_cons (pe_ix ix_tup (pv 0) pe_int (fun _ _ => rfl)) pa_nil)) (pg_name (i := 3) sc_sides_of.nd rfl (.inl rfl))
        (pss_one (ps_if (pt_cmp (pc_dnotin hu (pv 3) (pv 2)))
          (pss_one (ps_expr (pe_bm PySem.F.plainAttrs_dict PySem.F.slot_dict_update PySem.F.type_dict_update mt_update (pv 2) (pa_cons (pe_call G2 hr1 (by rfl) g2 k2 b2 .nil pass0 (pa_cons (pv 3) (pa_cons (pv 1) pa_nil))) pa_nil))))
          pss_nil)))
      (pss_cons (ps_set (i := 4) sc_sides_of.nd rfl (.inl rfl) (pe_callTy call_tuple_of (by rfl) M.tuple (by decide +kernel) (pa_cons (pe_lc (own := [("place", 5)]) (g := gName 5) (tt := tYes) rfl sc_sides_of.nd (pi_range1 (by rfl) M.range (pa_cons (pe_ix ix_tup (pv 0) pe_int (fun _ _ => rfl)) pa_nil)) (blkOk_by (N := N_sides_of) (sc := defScope s_sides_of) (own := [("place", 5)]) (by decide +kernel)) (fun _ _ _ _ _ => (pg_name (i := 5) sc_sides_of.nd rfl (.inl rfl))) (fun _ _ _ _ _ => pts_nil) (fun _ _ _ _ _ => (pe_dget hu (pv 2) (pv 5) (fun _ _ => rfl)))) pa_nil)))
      (pss_cons (ps_if (pt_cmpR (op_neD hr.units) (pe_call G3 hr (by rfl) g3 k3 b3 .nil pass0 (pa_cons (pv 0) (pa_cons (pv 4) pa_nil))) (pe_tup pa_nil) (nomark _))
        (pss_one (ps_ret pe_non))
        pss_nil)
      (pss_one (ps_ret (pv 4)))))))), ?_⟩
    -- around, told
    refine ⟨v, rfl, v, n, ts, rfl, hw, ok, fun u H1 hA s1 pD nD => ?_⟩
    have nDH : H pD = none := s1.free nD
    have sA : Same H1 (upd H1 pD (.dK [])) := same_new nD
    have hw0 := hw
    obtain ⟨a, b, vs, rfl, ha, hb, hp⟩ := hw
    refine ⟨fun σ' H' => ∃ (y3 : Option V) (kvs : List (Key × V)), σ' = [some (.ref a), some u, some (.ref pD), y3, none, none] ∧ H' pD = some (.dK kvs) ∧ (∀ i : Nat, i < n → ∃ m b, leader ts m ∧ RP ts m i b ∧ valV kvs (Sum.inl (i : Int)) = some (.int (sideI b))) ∧ Same H1 H', ?_, ?_⟩
    · refine ⟨.ref a, rfl, a, _, 0, .int n, rfl, rfl, SqT.of (sA _ _ (s1 _ _ ha)), rfl, n, rfl, by omega, by omega, ?_⟩
      rw [Int.toNat_natCast]
      refine for_range (lo := 0) (n := n) (fun i σ' H' => ∃ (y3 : Option V) (kvs : List (Key × V)), σ' = [some (.ref a), some u, some (.ref pD), y3, none, none] ∧ H' pD = some (.dK kvs) ∧ kvs.length ≤ 40 * i ∧
        (∀ z, z ∈ kvs.map (·.1) ↔ ∃ y, z = Sum.inl y ∧ ∃ x, 0 ≤ x ∧ x < (i : Int) ∧ Rch ts x y) ∧ (∀ (y : Int) (v : V), valV kvs (Sum.inl y) = some v → ∃ m b, leader ts m ∧ RP ts m y b ∧ v = .int (sideI b)) ∧ Same H1 H') ?_ ?_ ?_
      · refine ⟨none, [], rfl, upd_same, by simp, fun z => ⟨fun h => by simp at h, ?_⟩, (fun y v h => by cases h), sA⟩
        rintro ⟨y, _, x, h1, h2, _⟩
        omega
      · rintro i σ' H2 hi ⟨y3, kvs, rfl, hD, hlen, hkeys, hvals, s2⟩
        rw [show (0 : Int) + (i : Nat) = i from by omega]
        have hir : 0 ≤ (i : Int) ∧ (i : Int) < n := by omega
        refine ⟨.int i, rfl, .ref pD, rfl, pD, _, rfl, DGet.k (k := Sum.inl (i : Int)) hD, _, rfl, ?_⟩
        have nx : ∀ y : Int, (∃ x, 0 ≤ x ∧ x < ((i + 1 : Nat) : Int) ∧ Rch ts x y) ↔ (∃ x, 0 ≤ x ∧ x < (i : Int) ∧ Rch ts x y) ∨ Rch ts i y := fun y => by
          constructor
          · rintro ⟨x, h1, h2, h3⟩
            by_cases e : x = i
            · subst e
              exact .inr h3
            · exact .inl ⟨x, h1, by omega, h3⟩
          · rintro (⟨x, h1, h2, h3⟩ | h)
            · exact ⟨x, h1, by omega, h3⟩
            · exact ⟨i, by omega, by omega, h⟩
        by_cases hin : (valV kvs (Sum.inl (i : Int))).isSome = true
        · rw [hin]
          obtain ⟨y, e, x, h1, h2, h3⟩ := (hkeys _).mp (valV_isSome.mp hin)
          cases e
          refine ⟨_, kvs, rfl, hD, by omega, fun z => ?_, hvals, s2⟩
          rw [hkeys]
          constructor
          · rintro ⟨y, e, h⟩
            exact ⟨y, e, (nx y).mpr (.inl h)⟩
          · rintro ⟨y, e, h⟩
            refine ⟨y, e, ?_⟩
            rcases (nx y).mp h with h | h
            · exact h
            · exact ⟨x, h1, h2, h3.trans h⟩
        · rw [Bool.not_eq_true] at hin
          rw [hin]
          have ld : leader ts (i : Int) := (lead_iff ok.ok hir).mpr fun ⟨x, h1, h2, h3⟩ => by
            have := valV_isSome.mpr ((hkeys (Sum.inl (i : Int))).mpr ⟨_, rfl, x, h1, h2, h3⟩)
            rw [hin] at this
            cases this
          refine ⟨.ref pD, rfl, .inr (.inr (.inl ⟨rfl, .inl ⟨_, hD⟩⟩)), .int i, rfl, u, rfl, u, n, i, ts, rfl, hA.same s2, ok, hir.1, hir.2, fun d ks H3 nd hd s3 so => ?_⟩
          have lks : ks.length ≤ n := by
            have q := pigeon n (ks.map (·.1)) so.nd fun x hx => Rch.rng ok.ok hir ((so.all x).mp hx)
            rw [List.length_map] at q
            exact q
          have hpd : pD ≠ d := ne_of_none hD nd
          refine ⟨pD, d, kvs, kvOf ks, rfl, rfl, s3 _ _ hD, hd, hpd, (by rw [kvOf_len, sizeLine_eq]; omega), ?_⟩
          refine ⟨_, mergeK kvs (kvOf ks), rfl, upd_same, ?_, fun z => ?_, fun y v hv => ?_, Same.mut (s2.trans s3) nD⟩
          · have := length_mergeK (kvOf ks) kvs
            rw [kvOf_len] at this
            omega
          · rw [mem_mergeK, hkeys, kvOf_keys]
            constructor
            · rintro (⟨y, e, h⟩ | h)
              · exact ⟨y, e, (nx y).mpr (.inl h)⟩
              · obtain ⟨y, hy, rfl⟩ := List.mem_map.mp h
                exact ⟨y, rfl, (nx y).mpr (.inr ((so.all y).mp hy))⟩
            · rintro ⟨y, rfl, h⟩
              rcases (nx y).mp h with h | h
              · exact .inl ⟨y, rfl, h⟩
              · exact .inr (List.mem_map.mpr ⟨y, (so.all y).mpr h, rfl⟩)
          · rcases valV_merge hv with h | h
            · exact hvals y v h
            · unfold kvOf at h
              obtain ⟨p, hp, e⟩ := List.mem_map.mp h
              cases e
              exact ⟨i, p.2, ld, so.rp p hp, rfl⟩
      · rintro σ' H2 ⟨y3, kvs, rfl, hD, hlen, hkeys, hvals, s2⟩
        refine ⟨_, kvs, rfl, hD, fun i hi => ?_, s2⟩
        obtain ⟨v, hv⟩ := Option.isSome_iff_exists.mp (valV_isSome.mpr ((hkeys (Sum.inl (i : Int))).mpr ⟨_, rfl, i, by omega, by omega, Rch.refl⟩))
        obtain ⟨m, b, l, r, rfl⟩ := hvals i v hv
        exact ⟨m, b, l, r, hv⟩
    rintro σ' H2 ⟨y3, kvs, rfl, hD, hvals, s2⟩
    have s12 := s1.trans s2
    -- sides
    refine ⟨.ref a, rfl, a, _, 0, .int n, rfl, rfl, SqT.of (s12 _ _ ha), rfl, n, rfl, by omega, by omega, fun Z nZ => ?_⟩
    rw [Int.toNat_natCast]
    refine lc_range (lo := 0) (n := n) (fun j H' => ∃ ss : List Int, H' Z = some (.lst (ss.map V.int)) ∧ ss.length = j ∧ (∀ (i : Nat) (x : Int), ss[i]? = some x → ∃ m b, leader ts m ∧ RP ts m i b ∧ x = sideI b) ∧ Same H2 H') ⟨[], upd_same, rfl, fun i x h => by simp at h, same_new nZ⟩ ?_ ?_
    · rintro j H3 hj ⟨ss, hZ, lj, hss, s3⟩
      rw [show (0 : Int) + (j : Nat) = j from by omega]
      obtain ⟨m, b, l, r, hv⟩ := hvals j hj
      refine ⟨rfl, .ref pD, rfl, .int j, rfl, pD, .int (sideI b), rfl, (by rw [← hv]; exact DGet.k (k := Sum.inl (j : Int)) (s3 _ _ hD)), _, hZ, by rw [List.length_map]; exact small1000 (by omega), ss ++ [sideI b], by rw [upd_same, List.map_append]; rfl, by rw [List.length_append, lj]; rfl, fun i x h => ?_, Same.mut s3 nZ⟩
      by_cases hi : i < ss.length
      · rw [List.getElem?_append_left hi] at h
        exact hss i x h
      · rw [List.getElem?_append_right (by omega)] at h
        have e : i = j := by
          have := (List.getElem?_eq_some_iff.mp h).1
          simp at this
          omega
        subst e
        rw [show i - ss.length = 0 from by omega] at h
        have hx : sideI b = x := Option.some.inj h
        exact ⟨m, b, l, r, hx.symm⟩
    · rintro H3 ⟨ss, hZ, lj, hss, s3⟩
      have told := told_of lj hss
      refine ⟨Z, _, rfl, .inl ⟨SqL.of hZ, fun t nt => ?_⟩⟩
      have s4 := (s12.trans s3).trans (same_new (o := .tup (ss.map V.int)) nt)
      have ht4 : (upd H3 t (.tup (ss.map V.int))) t = some (.tup (ss.map V.int)) := upd_same
      generalize upd H3 t (.tup (ss.map V.int)) = H4 at s4 ht4
      refine ⟨.ref a, rfl, .ref t, rfl, .ref a, t, n, ts, ss, rfl, hw0.tk (Same.tk s4), ok, ht4, by rw [lj], fun r H5 s5 h5 => ⟨Nat.zero_le _, fun z nz => ?_⟩⟩
      have s6 := same_new (o := .tup []) nz
      refine ⟨intsD (bad ss ts), intsD [], IntsV.dp ⟨r, rfl, s6 _ _ h5⟩, IntsV.dp ⟨z, rfl, upd_same⟩, shaped_intsD _, shaped_intsD _, _, rfl, ?_⟩
      rw [eqv_nil]
      have s46 := (s4.trans s5).trans s6
      have ht6 := s6 _ _ (s5 _ _ ht4)
      generalize upd H5 z (.tup []) = H6 at s46 ht6
      by_cases hbad : bad ss ts = []
      · rw [hbad]
        exact ⟨.ref t, rfl, q ss t H6 told (bad_nil.mp hbad) s46 ht6⟩
      · have hne : (bad ss ts).isEmpty = false := by
          cases e : bad ss ts with
          | nil => exact absurd e hbad
          | cons x y => rfl
        rw [hne]
        refine qn H6 ?_ s46
        obtain ⟨x, hx⟩ := List.exists_mem_of_ne_nil _ hbad
        unfold bad badTo at hx
        obtain ⟨h1, h2⟩ := List.mem_filter.mp hx
        exact told_odd ok.ok told (tieAt_mem h1) h2
end
/-! ### places turned -/
def onesTo (ss : List Int) (k : Nat) : List Int := (rng k).filter fun i => decide (sd ss i = 1)
theorem onesTo_succ (ss : List Int) (k : Nat) : onesTo ss (k + 1) = onesTo ss k ++ (if decide (sd ss k = 1) = true then [(k : Int)] else []) := by
  unfold onesTo
  rw [rng_succ, List.filter_append, List.filter_cons]
  rfl
theorem onesTo_len (ss : List Int) (k : Nat) : (onesTo ss k).length ≤ k := by
  unfold onesTo
  have := List.length_filter_le (fun i => decide (sd ss i = 1)) (rng k)
  rw [rng_length] at this
  exact this
def spOnes : Sp := fun vs H Q _ => ∃ (a : Addr) (ss : List Int), vs = [.ref a] ∧ H a = some (.tup (ss.map V.int)) ∧ ss.length ≤ 40 ∧ ∀ r H', Same H H' → H' r = some (.tup ((onesTo ss ss.length).map V.int)) → Q (.ref r) H'
section
variable {P : Program} {w : World} {K : PySem.W.Frag} {mg : Str → Option Value} {base : Heap}
theorem ok_places_turned {f : Addr} {fd : FuncData} (F : Fun K "places_turned" "places_turned" s_places_turned f fd) (M : Free mg) (m_enumerate : mg "enumerate" = none) : FnOk P w K mg base CX0 1 f fd ["sides"] spOnes := by
  refine F.ok sc_places_turned (fun vs H Q E h => ?_) (fun cdv A outer s H vs Q E hr h => ?_)
  · obtain ⟨a, ss, rfl, _⟩ := h
    rfl
  · obtain ⟨a, ss, rfl, ha, few, q⟩ := h
    refine ⟨_, (pss_one (ps_ret (pe_callTy call_tuple_of (by rfl) M.tuple (by decide +kernel) (pa_cons (pe_lc (own := [("place", 1), ("side", 2)]) (g := (gTup K 2 (gCons (gName 1) (gCons (gName 2) gNil)))) (te := tVar 1) rfl sc_places_turned.nd (pi_enumT (by rfl) m_enumerate (pa_cons (pv 0) pa_nil)) (blkOk_by (N := N_places_turned) (sc := defScope s_places_turned) (own := [("place", 1), ("side", 2)]) (by decide +kernel)) (fun _ _ _ _ _ => (pg_tup rfl (pgs_cons (pg_name (i := 1) sc_places_turned.nd rfl (.inl rfl)) (pgs_cons (pg_name (i := 2) sc_places_turned.nd rfl (.inl rfl)) pgs_nil)))) (fun _ _ _ _ _ => (pts_one (pt_cmpR op_eq (pv 2) pe_int (nomark _)))) (fun _ _ _ _ _ => (pv 1))) pa_nil)))), ?_⟩
    refine ⟨.ref a, rfl, a, _, rfl, SqT.of ha, fun Z nZ => ?_⟩
    refine lc_it (walk_enumT (xs := ss.map V.int)) (fun i H' => H' Z = some (.lst ((onesTo ss i).map V.int)) ∧ Same H H') ⟨upd_same, same_new nZ⟩ (fun i H' _ h => SqT.of (h.2 _ _ ha)) ?_ ?_
    · rintro i x H1 H2 hi ⟨hZ, s1⟩ ⟨T, x1, y, rfl, nT, rfl, e1, e2⟩
      rw [List.length_map] at hi
      obtain rfl : V.int (i : Nat) = x1 := Option.some.inj e1
      have s2 := s1.trans (same_new (o := .tup [.int (i : Nat), y]) nT)
      have hZ2 := same_new (o := .tup [.int (i : Nat), y]) nT _ _ hZ
      have ey : y = .int (sd ss (i : Int)) := by
        have h := atI_sd (ss := ss) (i := (i : Int)) (by omega) (by omega)
        rw [atI_nat e2] at h
        exact Option.some.inj h
      subst ey
      have lb := onesTo_len ss i
      refine ⟨T, _, rfl, SqT.of upd_same, rfl, _, _, rfl, _, _, rfl, rfl, rfl, _, rfl, rfl, _, rfl, ?_⟩
      rw [onesTo_succ, List.map_append, dec_int]
      by_cases hb : decide (sd ss (i : Int) = 1) = true
      · rw [hb]
        exact ⟨.int i, rfl, _, hZ2, by rw [List.length_map]; exact small1000 (by omega), upd_same, fun b o e => by rw [upd_ne (ne_of_none e nZ)]; exact s2 b o e⟩
      · rw [Bool.not_eq_true] at hb
        rw [hb]
        simp only [Bool.false_eq_true, if_false, List.map_nil, List.append_nil]
        exact ⟨hZ2, s2⟩
    · rintro H1 ⟨hZ, s1⟩
      rw [List.length_map] at hZ
      refine ⟨Z, _, rfl, .inl ⟨SqL.of hZ, fun r nr => ?_⟩⟩
      exact q r _ (s1.trans (same_new nr)) upd_same
end
/-! ### ties around places, by their numbers (mathematics) -/
def Jn (t : Tie) (a b : Int) : Prop := (t.one = a ∧ t.other = b) ∨ (t.one = b ∧ t.other = a)
theorem Jn.symm {t : Tie} {a b : Int} (h : Jn t a b) : Jn t b a := h.elim .inr .inl
abbrev Nu := Int × Int
def n1 (ts : List Tie) (m : Int) (p : Int) : List Nu := (if p = (tieN ts m.toNat).one then [((tieN ts m.toNat).other, m)] else []) ++ (if p = (tieN ts m.toNat).other then [((tieN ts m.toNat).one, m)] else [])
def nN (ts : List Tie) (ns : List Int) (p : Int) : List Nu := ns.flatMap fun m => n1 ts m p
theorem nN_snoc (ts : List Tie) (ns : List Int) (m p : Int) : nN ts (ns ++ [m]) p = nN ts ns p ++ n1 ts m p := by
  unfold nN
  rw [List.flatMap_append]
  simp
theorem n1_len (ts : List Tie) (m p : Int) : (n1 ts m p).length ≤ 2 := by
  unfold n1
  rw [List.length_append]
  split <;> split <;> simp
theorem nN_len (ts : List Tie) (ns : List Int) (p : Int) : (nN ts ns p).length ≤ 2 * ns.length := by
  induction ns with
  | nil => simp [nN]
  | cons m ns ih =>
    have h := n1_len ts m p
    unfold nN at ih ⊢
    rw [List.flatMap_cons, List.length_append, List.length_cons]
    omega
theorem mem_nN {ts : List Tie} {ns : List Int} {p : Int} {q : Nu} : q ∈ nN ts ns p ↔ q.2 ∈ ns ∧ Jn (tieN ts q.2.toNat) p q.1 := by
  unfold nN n1 Jn
  rw [List.mem_flatMap]
  constructor
  · rintro ⟨m, hm, h⟩
    rcases List.mem_append.mp h with h | h
    · split at h
      · rename_i e
        rw [List.mem_singleton] at h
        subst h
        exact ⟨hm, .inl ⟨e.symm, rfl⟩⟩
      · simp at h
    · split at h
      · rename_i e
        rw [List.mem_singleton] at h
        subst h
        exact ⟨hm, .inr ⟨rfl, e.symm⟩⟩
      · simp at h
  · rintro ⟨hm, h⟩
    refine ⟨q.2, hm, List.mem_append.mpr ?_⟩
    obtain ⟨q1, q2⟩ := q
    simp only at h
    rcases h with ⟨h1, h2⟩ | ⟨h1, h2⟩
    · left
      rw [if_pos h1.symm, List.mem_singleton, ← h2]
    · right
      rw [if_pos h2.symm, List.mem_singleton, ← h1]
def NuV (H : Hp) (v : V) (q : Nu) : Prop := ∃ a, v = .ref a ∧ H a = some (.tup [.int q.1, .int q.2])
theorem NuV.tk {H H' : Hp} (k : Tk H H') {v : V} {p : Nu} (h : NuV H v p) : NuV H' v p := by
  obtain ⟨a, rfl, e⟩ := h
  exact ⟨a, rfl, k _ _ e⟩
theorem nus_tk {H H' : Hp} (k : Tk H H') {vs : List V} {qs : List Nu} (h : Paired (NuV H) vs qs) : Paired (NuV H') vs qs := Paired.mono (fun _ _ x => x.tk k) h
def aKv (As : List (Int × Addr)) : List (Key × V) := As.map fun p => (Sum.inl p.1, V.ref p.2)
theorem aKv_none {z : Int} : ∀ {As : List (Int × Addr)}, z ∉ As.map (·.1) → valV (aKv As) (Sum.inl z) = none
  | [], _ => rfl
  | p :: As, h => by
    rw [List.map_cons, List.mem_cons, not_or] at h
    have e := aKv_none (As := As) h.2
    have h1 := h.1
    unfold aKv at e ⊢
    rw [List.map_cons, valV_neg (fun z => h1 (Sum.inl.inj z).symm)]
    exact e
theorem aKv_some {z : Int} {a : Addr} : ∀ {As : List (Int × Addr)}, (As.map (·.1)).Nodup → (z, a) ∈ As → valV (aKv As) (Sum.inl z) = some (.ref a)
  | p :: As, nd, h => by
    rw [List.map_cons, List.nodup_cons] at nd
    rcases List.mem_cons.mp h with e | e
    · subst e
      unfold aKv
      rw [List.map_cons, valV_pos rfl]
    · have q := aKv_some (As := As) nd.2 e
      have ne : p.1 ≠ z := fun y => nd.1 (by rw [y]; exact List.mem_map.mpr ⟨_, e, rfl⟩)
      unfold aKv at q ⊢
      rw [List.map_cons, valV_neg (fun y => ne (Sum.inl.inj y))]
      exact q
theorem aKv_put {As : List (Int × Addr)} {z : Int} {a : Addr} (h : z ∉ As.map (·.1)) : putK (aKv As) (Sum.inl z) (.ref a) = aKv (As ++ [(z, a)]) := by
  unfold putK
  rw [if_neg]
  · unfold aKv
    rw [List.map_append]
    rfl
  · intro g
    rw [List.any_eq_true] at g
    obtain ⟨kv, h1, h2⟩ := g
    unfold aKv at h1
    rw [List.mem_map] at h1
    obtain ⟨p, hp, rfl⟩ := h1
    exact h (List.mem_map.mpr ⟨p, hp, Sum.inl.inj (of_decide_eq_true h2)⟩)
theorem aKv_len (As : List (Int × Addr)) : (aKv As).length = As.length := by unfold aKv; rw [List.length_map]
theorem aKv_cases (As : List (Int × Addr)) (z : Int) (nd : (As.map (·.1)).Nodup) : (z ∉ As.map (·.1) ∧ valV (aKv As) (Sum.inl z) = none) ∨ ∃ a, (z, a) ∈ As ∧ valV (aKv As) (Sum.inl z) = some (.ref a) := by
  by_cases h : z ∈ As.map (·.1)
  · obtain ⟨p, hp, rfl⟩ := List.mem_map.mp h
    exact .inr ⟨p.2, hp, aKv_some nd hp⟩
  · exact .inl ⟨h, aKv_none h⟩
/-- a dict of lists of (place, number) -/
structure Aro (H : Hp) (D : Addr) (As : List (Int × Addr)) (N : Int → List Nu) : Prop where
  at' : H D = some (.dK (aKv As))
  nd : (As.map (·.1)).Nodup
  nd2 : (As.map (·.2)).Nodup
  each : ∀ p ∈ As, ∃ vs, H p.2 = some (.lst vs) ∧ Paired (NuV H) vs (N p.1)
  no : ∀ q, q ∉ As.map (·.1) → N q = []
theorem Aro.same {H H' : Hp} {D : Addr} {As : List (Int × Addr)} {N : Int → List Nu} (h : Aro H D As N) (s : Same H H') : Aro H' D As N :=
  ⟨s _ _ h.at', h.nd, h.nd2, fun p hp => by
    obtain ⟨vs, h1, h2⟩ := h.each p hp
    exact ⟨vs, s _ _ h1, nus_tk (Same.tk s) h2⟩, h.no⟩
theorem Aro.out {H : Hp} {D : Addr} {As : List (Int × Addr)} {N : Int → List Nu} (h : Aro H D As N) {p : Int × Addr} (hp : p ∈ As) : p.2 ≠ D := by
  obtain ⟨vs, h1, _⟩ := h.each p hp
  exact ne_of h1 h.at' (by intro z; cases z)
/-- a place more, with nothing yet -/
theorem Aro.more {H : Hp} {D a : Addr} {As : List (Int × Addr)} {N : Int → List Nu} {z : Int} (h : Aro H D As N) (hz : z ∉ As.map (·.1)) (ha : H a = some (.lst [])) (hn : a ∉ As.map (·.2)) : Aro (upd H D (.dK (aKv (As ++ [(z, a)])))) D (As ++ [(z, a)]) N := by
  have haD : a ≠ D := ne_of ha h.at' (by intro z; cases z)
  have k : Tk H (upd H D (.dK (aKv (As ++ [(z, a)])))) := fun b xs e => by
    rw [upd_ne (ne_of e h.at' (by intro z; cases z))]
    exact e
  refine ⟨upd_same, ?_, ?_, fun p hp => ?_, fun q hq => ?_⟩
  · rw [List.map_append, List.nodup_append]
    refine ⟨h.nd, by simp, fun x hx y hy e => ?_⟩
    simp only [List.map_cons, List.map_nil, List.mem_singleton] at hy
    subst hy
    subst e
    exact hz hx
  · rw [List.map_append, List.nodup_append]
    refine ⟨h.nd2, by simp, fun x hx y hy e => ?_⟩
    simp only [List.map_cons, List.map_nil, List.mem_singleton] at hy
    subst hy
    subst e
    exact hn hx
  · rcases List.mem_append.mp hp with hp | hp
    · obtain ⟨vs, h1, h2⟩ := h.each p hp
      exact ⟨vs, by rw [upd_ne (h.out hp)]; exact h1, nus_tk k h2⟩
    · rw [List.mem_singleton] at hp
      subst hp
      refine ⟨[], by rw [upd_ne haD]; exact ha, ?_⟩
      rw [show N (z, a).1 = [] from h.no z hz]
      exact .nil
  · rw [List.map_append, List.mem_append, not_or] at hq
    exact h.no q hq.1
theorem Aro.put {H : Hp} {D a c : Addr} {As : List (Int × Addr)} {N : Int → List Nu} {z : Int} {vs : List V} {q : Nu} (h : Aro H D As N) (hz : (z, a) ∈ As) (hv : H a = some (.lst vs)) (hc : NuV H (.ref c) q) : Aro (upd H a (.lst (vs ++ [.ref c]))) D As (fun p => N p ++ if p = z then [q] else []) := by
  have k : Tk H (upd H a (.lst (vs ++ [.ref c]))) := tk_lst hv
  refine ⟨by rw [upd_ne (Ne.symm (h.out hz))]; exact h.at', h.nd, h.nd2, fun p hp => ?_, fun y hy => ?_⟩
  · obtain ⟨us, h1, h2⟩ := h.each p hp
    by_cases e : p.1 = z
    · have e2 : p.2 = a := by
        obtain ⟨i, hi, rfl⟩ := List.getElem_of_mem hp
        obtain ⟨j, hj, ej⟩ := List.getElem_of_mem hz
        have w : i = j := by
          have e3 : (As.map (·.1))[i]? = (As.map (·.1))[j]? := by
            rw [List.getElem?_map, List.getElem?_map, List.getElem?_eq_getElem hi, List.getElem?_eq_getElem hj, ej]
            exact congrArg some e
          exact (List.getElem?_inj (by rw [List.length_map]; exact hi) h.nd).mp e3
        subst w
        rw [ej]
      rw [e2] at h1 ⊢
      rw [hv] at h1
      cases h1
      refine ⟨_, upd_same, ?_⟩
      rw [if_pos e]
      exact Paired.snoc (nus_tk k h2) (hc.tk k)
    · have e2 : p.2 ≠ a := fun y => e (by
        obtain ⟨i, hi, rfl⟩ := List.getElem_of_mem hp
        obtain ⟨j, hj, ej⟩ := List.getElem_of_mem hz
        have w : i = j := by
          have e3 : (As.map (·.2))[i]? = (As.map (·.2))[j]? := by
            rw [List.getElem?_map, List.getElem?_map, List.getElem?_eq_getElem hi, List.getElem?_eq_getElem hj, ej]
            exact congrArg some y
          exact (List.getElem?_inj (by rw [List.length_map]; exact hi) h.nd2).mp e3
        subst w
        rw [ej])
      refine ⟨us, by rw [upd_ne e2]; exact h1, ?_⟩
      rw [if_neg e, List.append_nil]
      exact nus_tk k h2
  · have ne : y ≠ z := fun e => hy (by rw [e]; exact List.mem_map.mpr ⟨_, hz, rfl⟩)
    rw [h.no y hy, if_neg ne]
    rfl
def AroAt (H : Hp) (v : V) (N : Int → List Nu) : Prop := ∃ D As, v = .ref D ∧ Aro H D As N
def spAround : Sp := fun vs H Q _ => ∃ (v : V) (b : Addr) (n : Int) (ts : List Tie) (ns : List Int), vs = [v, .ref b] ∧ WebAt H v n ts ∧ ts.length ≤ 300 ∧ H b = some (.tup (ns.map V.int)) ∧ ns.length ≤ 300 ∧ (∀ m ∈ ns, 0 ≤ m ∧ m < (ts.length : Int)) ∧
  ∀ u H', Same H H' → AroAt H' u (nN ts ns) → Q u H'
section
variable {P : Program} {w : World} {K : PySem.W.Frag} {mg : Str → Option Value} {base : Heap}
end
/-! ### ways: what is walked, level by level (mathematics) -/
abbrev We := Int × Nat × Option (Int × Int)
def weL (e : We) : List V := match e.2.2 with
  | none => [.int (e.2.1 : Nat), .non, .non]
  | some f => [.int (e.2.1 : Nat), .int f.1, .int f.2]
/-- the walk, exactly, level by level -/
def stp (p : Int) (L : Nat) (st : List We × List Int) (q : Nu) : List We × List Int := if q.1 ∈ st.1.map (·.1) then st else (st.1 ++ [(q.1, L + 1, some (p, q.2))], st.2 ++ [q.1])
def lvl (N : Int → List Nu) (L : Nat) (st : List We × List Int) : List We × List Int := st.2.foldl (fun st p => (N p).foldl (stp p L) st) (st.1, [])
def Bst (N : Int → List Nu) (s : Int) : Nat → List We × List Int
  | 0 => ([(s, 0, none)], [s])
  | L + 1 => lvl N L (Bst N s L)
def Wlk (N : Int → List Nu) (s : Int) (ws : List We) : Prop := ∃ L, Bst N s L = (ws, [])
theorem Bst.stay {N : Int → List Nu} {s : Int} {ws : List We} {L : Nat} (h : Bst N s L = (ws, [])) : ∀ k, Bst N s (L + k) = (ws, [])
  | 0 => h
  | k + 1 => by
    show lvl N (L + k) (Bst N s (L + k)) = _
    rw [Bst.stay h k]
    rfl
theorem Wlk.one {N : Int → List Nu} {s : Int} {ws ws' : List We} (a : Wlk N s ws) (b : Wlk N s ws') : ws = ws' := by
  obtain ⟨L, h⟩ := a
  obtain ⟨L', h'⟩ := b
  rcases Nat.le_total L L' with e | e
  · obtain ⟨k, rfl⟩ := Nat.exists_eq_add_of_le e
    rw [Bst.stay h k] at h'
    exact (Prod.mk.inj h').1
  · obtain ⟨k, rfl⟩ := Nat.exists_eq_add_of_le e
    rw [Bst.stay h' k] at h
    exact (Prod.mk.inj h).1.symm
structure WF (N : Int → List Nu) (s : Int) (ws : List We) : Prop where
  nd : (ws.map (·.1)).Nodup
  root : (s, 0, none) ∈ ws
  non : ∀ y k, (y, k, none) ∈ ws → y = s ∧ k = 0
  par : ∀ y k p m, (y, k, some (p, m)) ∈ ws → ∃ j f, (p, j, f) ∈ ws ∧ k = j + 1 ∧ (y, m) ∈ N p
  cl : ∀ e ∈ ws, ∀ q ∈ N e.1, ∃ k f, (q.1, k, f) ∈ ws ∧ k ≤ e.2.1 + 1
  ex : Wlk N s ws
structure BF (N : Int → List Nu) (s : Int) (ws : List We) (L : Nat) (todo fol : List Int) : Prop where
  nd : (ws.map (·.1)).Nodup
  root : (s, 0, none) ∈ ws
  non : ∀ y k, (y, k, none) ∈ ws → y = s ∧ k = 0
  par : ∀ y k p m, (y, k, some (p, m)) ∈ ws → ∃ j f, (p, j, f) ∈ ws ∧ k = j + 1 ∧ (y, m) ∈ N p
  lv : ∀ e ∈ ws, e.2.1 ≤ L + 1
  td : ∀ x ∈ todo, ∃ f, (x, L, f) ∈ ws
  dn : ∀ e ∈ ws, e.2.1 ≤ L → e.1 ∈ todo ∨ ∀ q ∈ N e.1, ∃ k f, (q.1, k, f) ∈ ws ∧ k ≤ e.2.1 + 1
  f1 : ∀ x ∈ fol, ∃ f, (x, L + 1, f) ∈ ws
  f2 : ∀ e ∈ ws, e.2.1 = L + 1 → e.1 ∈ fol
  fl : fol.length ≤ ws.length
theorem we_one {ws : List We} (nd : (ws.map (·.1)).Nodup) {x : Int} {k j : Nat} {f g : Option (Int × Int)} (h : (x, k, f) ∈ ws) (h' : (x, j, g) ∈ ws) : k = j ∧ f = g := by
  induction ws with
  | nil => cases h
  | cons e ws ih =>
    rw [List.map_cons, List.nodup_cons] at nd
    rcases List.mem_cons.mp h with a | a <;> rcases List.mem_cons.mp h' with b | b
    · rw [← a] at b
      cases b
      exact ⟨rfl, rfl⟩
    · exact absurd (List.mem_map.mpr ⟨_, b, rfl⟩) (by rw [← a] at nd; exact nd.1)
    · exact absurd (List.mem_map.mpr ⟨_, a, rfl⟩) (by rw [← b] at nd; exact nd.1)
    · exact ih nd.2 a b
theorem we_key {ws : List We} {x : Int} (h : x ∈ ws.map (·.1)) : ∃ k f, (x, k, f) ∈ ws := by
  obtain ⟨⟨y, k, f⟩, he, e⟩ := List.mem_map.mp h
  have e : y = x := e
  subst e
  exact ⟨k, f, he⟩
theorem WF.rg {N : Int → List Nu} {s : Int} {ws : List We} {n : Int} (h : WF N s ws) (hs : 0 ≤ s ∧ s < n) (hN : ∀ x q, q ∈ N x → 0 ≤ q.1 ∧ q.1 < n) {x : Int} (hx : x ∈ ws.map (·.1)) : 0 ≤ x ∧ x < n := by
  obtain ⟨k, f, he⟩ := we_key hx
  cases f with
  | none =>
    rw [(h.non _ _ he).1]
    exact hs
  | some pm =>
    obtain ⟨p, m⟩ := pm
    obtain ⟨j, g, _, _, hm⟩ := h.par _ _ _ _ he
    exact hN p _ hm
theorem BF.rg {N : Int → List Nu} {s : Int} {ws : List We} {L : Nat} {todo fol : List Int} {n : Int} (h : BF N s ws L todo fol) (hs : 0 ≤ s ∧ s < n) (hN : ∀ x q, q ∈ N x → 0 ≤ q.1 ∧ q.1 < n) (x : Int) (hx : x ∈ ws.map (·.1)) : 0 ≤ x ∧ x < n := by
  obtain ⟨k, f, he⟩ := we_key hx
  cases f with
  | none =>
    rw [(h.non _ _ he).1]
    exact hs
  | some pm =>
    obtain ⟨p, m⟩ := pm
    obtain ⟨j, g, _, _, hm⟩ := h.par _ _ _ _ he
    exact hN p _ hm
theorem BF.few {N : Int → List Nu} {s : Int} {ws : List We} {L : Nat} {todo fol : List Int} {n : Nat} (h : BF N s ws L todo fol) (hs : 0 ≤ s ∧ s < n) (hN : ∀ x q, q ∈ N x → 0 ≤ q.1 ∧ q.1 < n) : ws.length ≤ n := by
  have := pigeon n _ h.nd (h.rg hs hN)
  rw [List.length_map] at this
  exact this
theorem BF.start (N : Int → List Nu) (s : Int) : BF N s [(s, 0, none)] 0 [s] [] :=
  ⟨by simp, by simp, fun y k h => by simp at h; exact ⟨h.1, h.2⟩, fun y k p m h => by simp at h, fun e h => by rw [List.mem_singleton.mp h]; simp, fun x h => ⟨none, by rw [List.mem_singleton.mp h]; simp⟩, fun e h _ => .inl (by rw [List.mem_singleton.mp h]; simp), fun x h => by simp at h, fun e h z => by rw [List.mem_singleton.mp h] at z; simp at z, by simp⟩
theorem BF.stop {N : Int → List Nu} {s : Int} {ws : List We} {L : Nat} (h : BF N s ws L [] []) (hx : Wlk N s ws) : WF N s ws :=
  ⟨h.nd, h.root, h.non, h.par, fun e he => by
    have h1 := h.lv e he
    have h2 : e.2.1 ≤ L := by
      by_cases z : e.2.1 = L + 1
      · exact absurd (h.f2 e he z) (by simp)
      · omega
    exact (h.dn e he h2).resolve_left (by simp), hx⟩
theorem BF.next {N : Int → List Nu} {s : Int} {ws : List We} {L : Nat} {fol : List Int} (h : BF N s ws L [] fol) : BF N s ws (L + 1) fol [] :=
  ⟨h.nd, h.root, h.non, h.par, fun e he => by have := h.lv e he; omega, h.f1, fun e he hl => by
    by_cases z : e.2.1 = L + 1
    · exact .inl (h.f2 e he z)
    · exact .inr ((h.dn e he (by omega)).resolve_left (by simp)), fun x hx => by simp at hx, fun e he z => by have := h.lv e he; omega, by simp⟩
theorem BF.push {N : Int → List Nu} {s p y m : Int} {ws : List We} {L : Nat} {todo fol : List Int} {f : Option (Int × Int)} (h : BF N s ws L todo fol) (hp : (p, L, f) ∈ ws) (hm : (y, m) ∈ N p) (hy : y ∉ ws.map (·.1)) : BF N s (ws ++ [(y, L + 1, some (p, m))]) L todo (fol ++ [y]) := by
  have sub : ∀ {e : We}, e ∈ ws → e ∈ ws ++ [(y, L + 1, some (p, m))] := fun he => List.mem_append_left _ he
  have cs : ∀ {e : We}, e ∈ ws ++ [(y, L + 1, some (p, m))] → e ∈ ws ∨ e = (y, L + 1, some (p, m)) := fun he => by
    rcases List.mem_append.mp he with z | z
    · exact .inl z
    · exact .inr (List.mem_singleton.mp z)
  refine ⟨?_, sub h.root, fun z k hz => ?_, fun z k p' m' hz => ?_, fun e he => ?_, fun x hx => ?_, fun e he hl => ?_, fun x hx => ?_, fun e he z => ?_, ?_⟩
  · rw [List.map_append, List.nodup_append]
    refine ⟨h.nd, by simp, fun x hx z hz e => ?_⟩
    have : z = y := by simpa using hz
    subst this
    subst e
    exact hy hx
  · rcases cs hz with z1 | z1
    · exact h.non _ _ z1
    · cases z1
  · rcases cs hz with z1 | z1
    · obtain ⟨j, g, h1, h2, h3⟩ := h.par _ _ _ _ z1
      exact ⟨j, g, sub h1, h2, h3⟩
    · cases z1
      exact ⟨L, f, sub hp, rfl, hm⟩
  · rcases cs he with z1 | z1
    · exact h.lv e z1
    · rw [z1]
      exact Nat.le_refl _
  · obtain ⟨g, hg⟩ := h.td x hx
    exact ⟨g, sub hg⟩
  · rcases cs he with z1 | z1
    · rcases h.dn e z1 hl with a | a
      · exact .inl a
      · refine .inr fun q hq => ?_
        obtain ⟨k, g, h1, h2⟩ := a q hq
        exact ⟨k, g, sub h1, h2⟩
    · rw [z1] at hl
      simp at hl
      omega
  · rcases List.mem_append.mp hx with z | z
    · obtain ⟨g, hg⟩ := h.f1 x z
      exact ⟨g, sub hg⟩
    · rw [List.mem_singleton.mp z]
      exact ⟨some (p, m), List.mem_append_right _ (by simp)⟩
  · rcases cs he with z1 | z1
    · exact List.mem_append_left _ (h.f2 e z1 z)
    · rw [z1]
      exact List.mem_append_right _ (by simp)
  · rw [List.length_append, List.length_append]
    have := h.fl
    simp
    omega
theorem BF.done {N : Int → List Nu} {s p : Int} {ws : List We} {L : Nat} {todo fol : List Int} {f : Option (Int × Int)} (h : BF N s ws L (p :: todo) fol) (hp : (p, L, f) ∈ ws) (hd : ∀ q ∈ N p, ∃ k f, (q.1, k, f) ∈ ws ∧ k ≤ L + 1) : BF N s ws L todo fol :=
  ⟨h.nd, h.root, h.non, h.par, h.lv, fun x hx => h.td x (List.mem_cons_of_mem _ hx), fun e he hl => by
    rcases h.dn e he hl with a | a
    · rcases List.mem_cons.mp a with b | b
      · obtain ⟨x, k, g⟩ := e
        have b : x = p := b
        subst b
        have := (we_one h.nd he hp).1
        subst this
        exact .inr hd
      · exact .inl b
    · exact .inr a, h.f1, h.f2, h.fl⟩
/-! ### as it lies in the heap -/
def WeV (H : Hp) (kv : Key × V) (e : We) : Prop := kv.1 = Sum.inl e.1 ∧ ∃ a, kv.2 = .ref a ∧ H a = some (.tup (weL e))
theorem WeV.tk {H H' : Hp} (k : Tk H H') {kv : Key × V} {e : We} (h : WeV H kv e) : WeV H' kv e := by
  obtain ⟨h1, a, h2, h3⟩ := h
  exact ⟨h1, a, h2, k _ _ h3⟩
theorem wes_tk {H H' : Hp} (k : Tk H H') {kvs : List (Key × V)} {ws : List We} (h : Paired (WeV H) kvs ws) : Paired (WeV H') kvs ws := Paired.mono (fun _ _ x => x.tk k) h
theorem wes_none {H : Hp} {x : Int} : ∀ {kvs : List (Key × V)} {ws : List We}, Paired (WeV H) kvs ws → x ∉ ws.map (·.1) → valV kvs (Sum.inl x) = none
  | _, _, .nil, _ => rfl
  | kv :: kvs, e :: ws, .cons h t, hx => by
    rw [List.map_cons, List.mem_cons, not_or] at hx
    obtain ⟨k, v⟩ := kv
    have h1 : k = Sum.inl e.1 := h.1
    rw [valV_neg (fun z => hx.1 (by rw [h1] at z; exact (Sum.inl.inj z).symm))]
    exact wes_none t hx.2
theorem wes_some {H : Hp} {x : Int} {k : Nat} {f : Option (Int × Int)} : ∀ {kvs : List (Key × V)} {ws : List We}, Paired (WeV H) kvs ws → (ws.map (·.1)).Nodup → (x, k, f) ∈ ws → ∃ a, valV kvs (Sum.inl x) = some (.ref a) ∧ H a = some (.tup (weL (x, k, f)))
  | _, _, .nil, _, hx => by cases hx
  | kv :: kvs, e :: ws, .cons h t, nd, hx => by
    rw [List.map_cons, List.nodup_cons] at nd
    obtain ⟨k', v⟩ := kv
    have h1 : k' = Sum.inl e.1 := h.1
    obtain ⟨a, h2, h3⟩ := h.2
    have h2 : v = .ref a := h2
    rcases List.mem_cons.mp hx with z | z
    · subst z
      exact ⟨a, by rw [valV_pos h1, h2], h3⟩
    · have ne : e.1 ≠ x := fun y => nd.1 (by rw [y]; exact List.mem_map.mpr ⟨_, z, rfl⟩)
      rw [valV_neg (fun y => ne (by rw [h1] at y; exact Sum.inl.inj y))]
      exact wes_some t nd.2 z
theorem putK_new {k : Key} {v : V} : ∀ {kvs : List (Key × V)}, valV kvs k = none → putK kvs k v = kvs ++ [(k, v)] := fun {kvs} h => by
  unfold putK
  rw [if_neg]
  intro g
  rw [List.any_eq_true] at g
  obtain ⟨kv, h1, h2⟩ := g
  have h2 := of_decide_eq_true h2
  induction kvs with
  | nil => cases h1
  | cons x kvs ih =>
    obtain ⟨k', v'⟩ := x
    by_cases e : k' = k
    · rw [valV_pos e] at h
      cases h
    · rw [valV_neg e] at h
      rcases List.mem_cons.mp h1 with z | z
      · rw [z] at h2
        exact e h2
      · exact ih h z
def WalkAt (H : Hp) (D : Addr) (ws : List We) : Prop := ∃ kvs, H D = some (.dK kvs) ∧ Paired (WeV H) kvs ws
theorem WalkAt.same {H H' : Hp} {D : Addr} {ws : List We} (h : WalkAt H D ws) (s : Same H H') : WalkAt H' D ws := by
  obtain ⟨kvs, h1, h2⟩ := h
  exact ⟨kvs, s _ _ h1, wes_tk (Same.tk s) h2⟩
/-- a list or a tuple, walked -/
def iSeq (K : PySem.W.Frag) (tl : TE) : TI := fun σ H R => tl σ H fun x H1 => ∃ a, x = .ref a ∧ (((∃ xs, SqL K H1 a xs) ∧ R (Itl K a) H1) ∨ ((∃ xs, SqT K H1 a xs) ∧ R (Itt K a) H1))
theorem pi_seq {X : Cx} {tg l : Expr} {tl : TE} (hl : PE X l tl) : PI X tg l (iSeq X.K tl) := by
  refine ⟨fun pins s σ H R I h => ?_⟩
  refine thn (hl.run pins s σ H _ I h) fun v s1 ⟨x, H1, I1, r1, q1⟩ => ?_
  obtain ⟨a, e, q1⟩ := q1
  subst e
  cases r1
  rcases q1 with ⟨⟨xs, hq⟩, q⟩ | ⟨⟨xs, hq⟩, q⟩
  · obtain ⟨its, rv, p, hz⟩ := I1.list hq
    refine wpAny_pyIter_list p.isList ?_
    refine ⟨s1.heap.objs.size, [s1.heap.objs.size], _, _, H1, rfl, I1.kept (t' := s1.toks) fun b o e => Heap.get?_push_of_some _ e, turn_list a _, ⟨_, Heap.get?_push_size _ rfl, rfl, rfl⟩, fun b hb => ?_, q⟩
    have e : b = s1.heap.objs.size := by simpa using hb
    subst e
    exact I1.fpOk (Nat.le_refl _) (I1.hok.fresh (Nat.le_refl _))
  · obtain ⟨its, rv, p, hz⟩ := I1.tuple hq
    refine wpAny_pyIter_tuple (show s1.heap.IsTuple a its.toArray from p) ?_
    refine ⟨s1.heap.objs.size, [s1.heap.objs.size], _, _, H1, rfl, I1.kept (t' := s1.toks) fun b o e => Heap.get?_push_of_some _ e, turn_tuple a _, ⟨_, Heap.get?_push_size _ rfl, rfl, rfl⟩, fun b hb => ?_, q⟩
    have e : b = s1.heap.objs.size := by simpa using hb
    subst e
    exact I1.fpOk (Nat.le_refl _) (I1.hok.fresh (Nat.le_refl _))
def spWalkFrom : Sp := fun vs H Q _ => ∃ (u : V) (n : Nat) (s : Int) (N : Int → List Nu), vs = [.int s, u] ∧ AroAt H u N ∧ 0 ≤ s ∧ s < n ∧ n ≤ 100 ∧ (∀ x q, q ∈ N x → 0 ≤ q.1 ∧ q.1 < n) ∧ ∀ D ws H', Same H H' → WalkAt H' D ws → WF N s ws → ws.length ≤ n → Q (.ref D) H'
section
variable {P : Program} {w : World} {K : PySem.W.Frag} {mg : Str → Option Value} {base : Heap}
end
/-! ### the way back -/
inductive Way (N : Int → List Nu) (e : Int) : Int → List Int → List Int → Prop
  | one : Way N e e [e] []
  | cons {c p m : Int} {qs ns : List Int} : Way N e c qs ns → (c, m) ∈ N p → p ∉ qs → Way N e p (p :: qs) (m :: ns)
theorem Way.len {N : Int → List Nu} {e c : Int} {qs ns : List Int} (h : Way N e c qs ns) : qs.length = ns.length + 1 := by
  induction h with
  | one => rfl
  | cons _ _ _ ih => rw [List.length_cons, List.length_cons, ih]
theorem Way.nodup {N : Int → List Nu} {e c : Int} {qs ns : List Int} (h : Way N e c qs ns) : qs.Nodup := by
  induction h with
  | one => simp
  | cons _ _ hp ih => exact List.nodup_cons.mpr ⟨hp, ih⟩
/-- the way back, by the walk alone -/
inductive Bk (ws : List We) : Int → List Int → List Int → Prop
  | stop {c : Int} {k : Nat} : (c, k, none) ∈ ws → Bk ws c [c] []
  | step {c p m : Int} {k : Nat} {qs ns : List Int} : (c, k, some (p, m)) ∈ ws → Bk ws p qs ns → Bk ws c (c :: qs) (m :: ns)
theorem Bk.one {ws : List We} (nd : (ws.map (·.1)).Nodup) {c : Int} {qs ns : List Int} (a : Bk ws c qs ns) : ∀ {qs' ns' : List Int}, Bk ws c qs' ns' → qs = qs' ∧ ns = ns' := by
  induction a with
  | stop h =>
    intro qs' ns' b
    cases b with
    | stop _ => exact ⟨rfl, rfl⟩
    | step h' _ => cases (we_one nd h h').2
  | step h t ih =>
    intro qs' ns' b
    cases b with
    | stop h' => cases (we_one nd h h').2
    | step h' t' =>
      cases (we_one nd h h').2
      obtain ⟨e1, e2⟩ := ih t'
      rw [e1, e2]
      exact ⟨rfl, rfl⟩
/-- the way that is told, and no other -/
def Exa (N : Int → List Nu) (s e : Int) (qs ns : List Int) : Prop := ∃ ws, WF N s ws ∧ Bk ws e qs.reverse ns.reverse
theorem Exa.one {N : Int → List Nu} {s e : Int} {qs ns qs' ns' : List Int} (a : Exa N s e qs ns) (b : Exa N s e qs' ns') : qs = qs' ∧ ns = ns' := by
  obtain ⟨ws, h1, h2⟩ := a
  obtain ⟨ws', h1', h2'⟩ := b
  obtain rfl := h1.ex.one h1'.ex
  obtain ⟨e1, e2⟩ := h2.one h1.nd h2'
  exact ⟨List.reverse_inj.mp e1, List.reverse_inj.mp e2⟩
def spWayTo : Sp := fun vs H Q _ => ∃ (e s : Int) (D : Addr) (ws : List We) (N : Int → List Nu) (k : Nat) (f : Option (Int × Int)), vs = [.int e, .ref D] ∧ WalkAt H D ws ∧ WF N s ws ∧ (e, k, f) ∈ ws ∧ k ≤ 200 ∧ ∀ r a b qs ns H', Same H H' → H' r = some (.tup [.ref a, .ref b]) → H' a = some (.tup (qs.map V.int)) → H' b = some (.tup (ns.map V.int)) → Way N e s qs ns → Exa N s e qs ns → ns.length = k → Q (.ref r) H'
section
variable {P : Program} {w : World} {K : PySem.W.Frag} {mg : Str → Option Value} {base : Heap}
end
/-! ### ways, place by place (mathematics) -/
theorem Way.head {N : Int → List Nu} {e s : Int} {qs ns : List Int} (h : Way N e s qs ns) : qs[0]? = some s := by cases h <;> rfl
theorem Way.each {N : Int → List Nu} {e s : Int} {qs ns : List Int} (h : Way N e s qs ns) : ∀ k : Nat, k < ns.length → ∃ x y m, qs[k]? = some x ∧ qs[k + 1]? = some y ∧ ns[k]? = some m ∧ (y, m) ∈ N x := by
  induction h with
  | one => exact fun k hk => absurd hk (by simp)
  | cons w hm _ ih =>
    intro k hk
    cases k with
    | zero => exact ⟨_, _, _, rfl, by simpa using w.head, rfl, hm⟩
    | succ k =>
      obtain ⟨x, y, m, h1, h2, h3, h4⟩ := ih k (by simpa using hk)
      exact ⟨x, y, m, by simpa using h1, by simpa using h2, by simpa using h3, h4⟩
theorem jn_two {t : Tie} {a b c d : Int} (h : Jn t a b) (g : Jn t c d) : (a = c ∧ b = d) ∨ (a = d ∧ b = c) := by
  rcases h with ⟨h1, h2⟩ | ⟨h1, h2⟩ <;> rcases g with ⟨g1, g2⟩ | ⟨g1, g2⟩ <;> omega
/-! ### ways along stems: never two (mathematics) -/
theorem Way.mono {N N' : Int → List Nu} {e c : Int} {qs ns : List Int} (h : Way N e c qs ns) (f : ∀ p q, q ∈ N p → q.2 ∈ ns → q ∈ N' p) : Way N' e c qs ns := by
  induction h with
  | one => exact .one
  | cons h m no ih =>
    exact .cons (ih fun p q hq hn => f p q hq (List.mem_cons_of_mem _ hn)) (f _ _ m (List.mem_cons_self ..)) no
theorem Way.hd {N : Int → List Nu} {e c : Int} {qs ns : List Int} (h : Way N e c qs ns) : ∃ r, qs = c :: r := by
  cases h with
  | one => exact ⟨[], rfl⟩
  | cons _ _ _ => exact ⟨_, rfl⟩
theorem Way.start {N : Int → List Nu} {e c : Int} {qs ns : List Int} (h : Way N e c qs ns) : c ∈ qs := by
  obtain ⟨r, rfl⟩ := h.hd
  exact List.mem_cons_self ..
theorem Way.fin {N : Int → List Nu} {e c : Int} {qs ns : List Int} (h : Way N e c qs ns) : e ∈ qs := by
  induction h with
  | one => simp
  | cons _ _ _ ih => exact List.mem_cons_of_mem _ ih
theorem way_rch {ts : List Tie} {k : Nat} (hk : k ≤ ts.length) {e c : Int} {qs ns : List Int} (h : Way (nN ts (stemsTo ts k)) e c qs ns) : Rch (ts.take k) c e := by
  induction h with
  | one => exact .refl
  | cons h m no ih =>
    rename_i c' p m' qs' ns'
    obtain ⟨h1, h2⟩ := mem_nN.mp m
    obtain ⟨⟨m0, m1⟩, _⟩ := stemsTo_mem.mp h1
    have el : m'.toNat < ts.length := by omega
    have et := List.getElem?_eq_getElem el
    have eN := tieN_of et
    refine Rch.trans (Rch.adj (k := (tieN ts m'.toNat).foe) ⟨tieN ts m'.toNat, ?_, rfl, h2⟩) ih
    rw [eN]
    exact List.mem_take_iff_getElem.mpr ⟨m'.toNat, by omega, rfl⟩
theorem jn_ends {t : Tie} {a b : Int} (h : Jn t a b) : (a = t.one ∧ b = t.other) ∨ (a = t.other ∧ b = t.one) := h.elim (fun x => .inl ⟨x.1.symm, x.2.symm⟩) fun x => .inr ⟨x.2.symm, x.1.symm⟩
theorem nN_app {ts : List Tie} {S : List Int} {k p : Int} {q : Nu} : q ∈ nN ts (S ++ [k]) p ↔ q ∈ nN ts S p ∨ (q.2 = k ∧ Jn (tieN ts q.2.toNat) p q.1) := by
  rw [mem_nN, mem_nN, List.mem_append, List.mem_singleton]
  constructor
  · rintro ⟨h | h, j⟩
    · exact .inl ⟨h, j⟩
    · exact .inr ⟨h, j⟩
  · rintro (⟨h, j⟩ | ⟨h, j⟩)
    · exact ⟨.inl h, j⟩
    · exact ⟨.inr h, j⟩
/-- a way over one tie more: without it, or once over it -/
theorem way_split {ts : List Tie} {S : List Int} {k : Int} {e c : Int} {qs ns : List Int} (h : Way (nN ts (S ++ [k])) e c qs ns) : Way (nN ts S) e c qs ns ∨
    ∃ (x y : Int) (q1 n1 q2 n2 : List Int), Way (nN ts S) x c q1 n1 ∧ Jn (tieN ts k.toNat) x y ∧ Way (nN ts S) e y q2 n2 ∧ qs = q1 ++ q2 ∧ ns = n1 ++ k :: n2 := by
  induction h with
  | one => exact .inl .one
  | cons h m no ih =>
    rename_i c' p m' qs' ns'
    rcases nN_app.mp m with m | ⟨em, j⟩
    · rcases ih with w | ⟨x, y, q1, n1, q2, n2, w1, jx, w2, rfl, rfl⟩
      · exact .inl (.cons w m no)
      · exact .inr ⟨x, y, p :: q1, m' :: n1, q2, n2, .cons w1 m (fun z => no (List.mem_append_left _ z)), jx, w2, rfl, rfl⟩
    · simp only at em j
      subst em
      rcases ih with w | ⟨x, y, q1, n1, q2, n2, w1, jx, w2, rfl, rfl⟩
      · exact .inr ⟨p, c', [p], [], qs', ns', .one, j, w, rfl, rfl⟩
      · exfalso
        rcases jn_two j jx with ⟨h1, h2⟩ | ⟨h1, h2⟩
        · exact no (by rw [h1]; exact List.mem_append_left _ w1.fin)
        · exact no (by rw [h1]; exact List.mem_append_right _ w2.start)
/-- there are no two ways along stems -/
theorem way_one {ts : List Tie} : ∀ {k : Nat}, k ≤ ts.length → ∀ {e c : Int} {qs ns qs' ns' : List Int}, Way (nN ts (stemsTo ts k)) e c qs ns → Way (nN ts (stemsTo ts k)) e c qs' ns' → qs = qs' ∧ ns = ns'
  | 0, _, e, c, qs, ns, qs', ns', a, b => by
    have e0 : stemsTo ts 0 = [] := rfl
    rw [e0] at a b
    have no : ∀ {q : Nu} {p : Int}, q ∉ nN ts [] p := fun {q p} h => by
      have := (mem_nN.mp h).1
      cases this
    cases a with
    | one =>
      cases b with
      | one => exact ⟨rfl, rfl⟩
      | cons _ m _ => exact (no m).elim
    | cons _ m _ => exact (no m).elim
  | k + 1, hk, e, c, qs, ns, qs', ns', a, b => by
    have ih := @way_one ts k (by omega)
    rw [stemsTo_succ] at a b
    by_cases hs : stemB ts k = true
    · rw [if_pos hs] at a b
      have et := List.getElem?_eq_getElem (show k < ts.length by omega)
      have no := (stem_iff et).mp hs
      have eN := tieN_of et
      have jno : ∀ {x y : Int}, Jn (tieN ts ((k : Int)).toNat) x y → ¬ Rch (ts.take k) x y := fun {x y} j r => by
        rw [Int.toNat_natCast, eN] at j
        rcases jn_ends j with ⟨h1, h2⟩ | ⟨h1, h2⟩
        · exact no (by rw [← h1, ← h2]; exact r)
        · exact no (by rw [← h1, ← h2]; exact r.symm)
      have rc : ∀ {e c : Int} {qs ns : List Int}, Way (nN ts (stemsTo ts k)) e c qs ns → Rch (ts.take k) c e := fun w => way_rch (by omega) w
      rcases way_split a with a | ⟨x, y, q1, n1, q2, n2, a1, ja, a2, rfl, rfl⟩
      · rcases way_split b with b | ⟨x', y', q1', n1', q2', n2', b1, jb, b2, rfl, rfl⟩
        · exact ih a b
        · exact (jno jb ((rc b1).symm.trans ((rc a).trans (rc b2).symm))).elim
      · rcases way_split b with b | ⟨x', y', q1', n1', q2', n2', b1, jb, b2, rfl, rfl⟩
        · exact (jno ja ((rc a1).symm.trans ((rc b).trans (rc a2).symm))).elim
        · rcases jn_two ja jb with ⟨rfl, rfl⟩ | ⟨rfl, rfl⟩
          · obtain ⟨h1, h2⟩ := ih a1 b1
            obtain ⟨h3, h4⟩ := ih a2 b2
            rw [h1, h2, h3, h4]
            exact ⟨rfl, rfl⟩
          · exact (jno ja ((rc a1).symm.trans (rc b1))).elim
    · rw [if_neg hs, List.append_nil] at a b
      exact ih a b
/-! ### forests: ways joined, cut, turned (mathematics) -/
/-- a forest: ties with two ends each, and never two ways -/
structure Fst (N : Int → List Nu) : Prop where
  sym : ∀ {x : Int} {q : Nu}, q ∈ N x → (x, q.2) ∈ N q.1
  ends : ∀ {x x' y y' m : Int}, (y, m) ∈ N x → (y', m) ∈ N x' → (x = x' ∧ y = y') ∨ (x = y' ∧ y = x')
  irr : ∀ {x : Int} {q : Nu}, q ∈ N x → q.1 ≠ x
  one : ∀ {e c : Int} {qs ns qs' ns' : List Int}, Way N e c qs ns → Way N e c qs' ns' → qs = qs' ∧ ns = ns'
theorem fst_stems {ts : List Tie} {n : Int} (ok : ∀ t ∈ ts, TieOk n t) : Fst (nN ts (stemsTo ts ts.length)) := by
  refine ⟨fun {x q} h => ?_, fun {x x' y y' m} h g => ?_, fun {x q} h => ?_, fun a b => way_one (Nat.le_refl _) a b⟩
  · obtain ⟨h1, h2⟩ := mem_nN.mp h
    exact mem_nN.mpr ⟨h1, h2.symm⟩
  · exact jn_two (mem_nN.mp h).2 (mem_nN.mp g).2
  · obtain ⟨h1, h2⟩ := mem_nN.mp h
    obtain ⟨⟨m0, m1⟩, _⟩ := stemsTo_mem.mp h1
    have et := List.getElem?_eq_getElem (show q.2.toNat < ts.length by omega)
    have o := ok _ (List.mem_of_getElem? et)
    rw [tieN_of et] at h2
    obtain ⟨o1, o2, o3, o4, o5⟩ := o
    intro z
    rcases h2 with ⟨a, b⟩ | ⟨a, b⟩
    · exact o5 (by rw [a, b, z])
    · exact o5 (by rw [a, b, z])
theorem Way.join {N : Int → List Nu} {e y x c m : Int} {q1 n1 q2 n2 : List Int} (a : Way N x c q1 n1) (b : Way N e y q2 n2) (h : (y, m) ∈ N x) (no : ∀ z ∈ q1, z ∉ q2) : Way N e c (q1 ++ q2) (n1 ++ m :: n2) := by
  induction a with
  | one => exact .cons b h (no _ (by simp))
  | cons a k hn ih =>
    refine .cons (ih fun z hz => no z (List.mem_cons_of_mem _ hz)) k fun z => ?_
    rcases List.mem_append.mp z with z | z
    · exact hn z
    · exact no _ (List.mem_cons_self ..) z
theorem Way.snoc {N : Int → List Nu} {e c e' m : Int} {qs ns : List Int} (h : Way N e c qs ns) (k : (e', m) ∈ N e) (no : e' ∉ qs) : Way N e' c (qs ++ [e']) (ns ++ [m]) :=
  h.join .one k fun z hz y => no (by rw [List.mem_singleton.mp y] at hz; exact hz)
theorem Way.rev {N : Int → List Nu} (F : Fst N) {e c : Int} {qs ns : List Int} (h : Way N e c qs ns) : Way N c e qs.reverse ns.reverse := by
  induction h with
  | one => exact .one
  | cons h k no ih =>
    rw [List.reverse_cons, List.reverse_cons]
    exact ih.snoc (F.sym k) (fun z => no (List.mem_reverse.mp z))
/-- a way cut at a place -/
theorem Way.at {N : Int → List Nu} {e c z : Int} {qs ns : List Int} (h : Way N e c qs ns) (hz : z ∈ qs) : ∃ q1 n1 q2 n2, qs = q1 ++ q2 ∧ ns = n1 ++ n2 ∧ Way N e z q2 n2 ∧ Way N z c (q1 ++ [z]) n1 := by
  induction h with
  | one =>
    rw [List.mem_singleton.mp hz]
    exact ⟨[], [], _, _, rfl, rfl, .one, .one⟩
  | cons h k no ih =>
    rename_i c' p m' qs' ns'
    by_cases e1 : z = p
    · subst e1
      exact ⟨[], [], _, _, rfl, rfl, .cons h k no, .one⟩
    · have hz' : z ∈ qs' := (List.mem_cons.mp hz).resolve_left e1
      obtain ⟨q1, n1, q2, n2, rfl, rfl, w1, w2⟩ := ih hz'
      refine ⟨p :: q1, m' :: n1, q2, n2, rfl, rfl, w1, .cons w2 k fun y => ?_⟩
      rcases List.mem_append.mp y with y | y
      · exact no (List.mem_append_left _ y)
      · rw [List.mem_singleton.mp y] at e1
        exact e1 rfl
/-- between two places of a way: a way along it -/
theorem Way.sub {N : Int → List Nu} (F : Fst N) {e c u v : Int} {qs ns : List Int} (h : Way N e c qs ns) (hu : u ∈ qs) (hv : v ∈ qs) : ∃ ps ms, Way N v u ps ms ∧ (∀ z ∈ ps, z ∈ qs) ∧ ∀ m ∈ ms, m ∈ ns := by
  obtain ⟨q1, n1, q2, n2, rfl, rfl, w1, w2⟩ := h.at hu
  have uq : u ∈ q1 ++ q2 := List.mem_append_right _ w1.start
  have in1 : ∀ z ∈ q1 ++ [u], z ∈ q1 ++ q2 := fun z hz => by
    rcases List.mem_append.mp hz with y | y
    · exact List.mem_append_left _ y
    · rw [List.mem_singleton.mp y]; exact uq
  rcases List.mem_append.mp hv with hv | hv
  · obtain ⟨p1, k1, p2, k2, e1, e2, x1, x2⟩ := w2.at (List.mem_append_left [u] hv)
    refine ⟨_, _, x1.rev F, fun z hz => in1 z ?_, fun m hm => List.mem_append_left _ ?_⟩
    · rw [e1]; exact List.mem_append_right _ (List.mem_reverse.mp hz)
    · rw [e2]; exact List.mem_append_right _ (List.mem_reverse.mp hm)
  · obtain ⟨p1, k1, p2, k2, e1, e2, x1, x2⟩ := w1.at hv
    refine ⟨_, _, x2, fun z hz => List.mem_append_right _ ?_, fun m hm => List.mem_append_right _ ?_⟩
    · rw [e1]
      rcases List.mem_append.mp hz with y | y
      · exact List.mem_append_left _ y
      · rw [List.mem_singleton.mp y]; exact List.mem_append_right _ x1.start
    · rw [e2]; exact List.mem_append_left _ hm
/-- the ties of a way stand between its places -/
theorem Way.tie {N : Int → List Nu} {e c : Int} {qs ns : List Int} (h : Way N e c qs ns) {m : Int} (hm : m ∈ ns) : ∃ x y, (y, m) ∈ N x ∧ x ∈ qs ∧ y ∈ qs := by
  induction h with
  | one => cases hm
  | cons h k no ih =>
    rcases List.mem_cons.mp hm with rfl | hm
    · exact ⟨_, _, k, List.mem_cons_self .., List.mem_cons_of_mem _ h.start⟩
    · obtain ⟨x, y, h1, h2, h3⟩ := ih hm
      exact ⟨x, y, h1, List.mem_cons_of_mem _ h2, List.mem_cons_of_mem _ h3⟩
/-- a tie that touches a place which is not on the way is none of its ties -/
theorem Way.off {N : Int → List Nu} (F : Fst N) {e c p q m : Int} {qs ns : List Int} (h : Way N e c qs ns) (k : (q, m) ∈ N p) (no : p ∉ qs) : m ∉ ns := fun hm => by
  obtain ⟨x, y, h1, h2, h3⟩ := h.tie hm
  rcases F.ends k h1 with ⟨a, b⟩ | ⟨a, b⟩
  · exact no (by rw [a]; exact h2)
  · exact no (by rw [a]; exact h3)
/-- between its ends a way has two ties at each place -/
theorem Way.mid {N : Int → List Nu} (F : Fst N) {e c z : Int} {qs ns : List Int} (h : Way N e c qs ns) (hz : z ∈ qs) (ne : z ≠ e) (nc : z ≠ c) : ∃ m1 m2 y1 y2, m1 ≠ m2 ∧ m1 ∈ ns ∧ m2 ∈ ns ∧ (y1, m1) ∈ N z ∧ (y2, m2) ∈ N z := by
  obtain ⟨q1, n1, q2, n2, rfl, rfl, w1, w2⟩ := h.at hz
  have nd := h.nodup
  cases w1 with
  | one => exact absurd rfl ne
  | cons w1 k1 no1 =>
    rename_i y2 m2 q2' n2'
    have w3 := w2.rev F
    rw [List.reverse_append] at w3
    generalize hr : n1.reverse = r at w3
    generalize hq : [z].reverse ++ q1.reverse = s at w3
    cases w3 with
    | one => exact absurd rfl nc
    | cons w3 k3 no3 =>
      rename_i y1 m1 q1' n1'
      refine ⟨m1, m2, y1, y2, fun em => ?_, ?_, ?_, k3, k1⟩
      · subst em
        have ey : y1 = y2 := by
          rcases F.ends k3 k1 with ⟨_, b⟩ | ⟨a, b⟩
          · exact b
          · exact b.trans a
        subst ey
        have h1 : y1 ∈ q1 := by
          have hq : z :: q1.reverse = z :: q1' := hq
          have hq := (List.cons.inj hq).2
          have := w3.start
          rw [← hq] at this
          exact List.mem_reverse.mp this
        have h2 : y1 ∈ z :: q2' := List.mem_cons_of_mem _ w1.start
        rw [List.nodup_append] at nd
        exact nd.2.2 y1 h1 y1 h2 rfl
      · refine List.mem_append_left _ (List.mem_reverse.mp ?_)
        rw [hr]
        exact List.mem_cons_self ..
      · exact List.mem_append_right _ (List.mem_cons_self ..)
/-! ### forests: loose ties peeled (mathematics) -/
structure Lfs (N : Int → List Nu) (ns : List Int) (L : Int → List Int) : Prop where
  nd : ∀ p, (L p).Nodup
  mem : ∀ p m, m ∈ L p → ∃ q, (q, m) ∈ N p
  two : ∀ p q m, m ∈ L p → (q, m) ∈ N p → m ∈ L q
  keep : ∀ p q m, m ∈ ns → (q, m) ∈ N p → m ∈ L p
def peel (L : Int → List Int) (p q m : Int) : Int → List Int := fun x => if x = p then [] else if x = q then (L q).erase m else L x
theorem Lfs.peel {N : Int → List Nu} (F : Fst N) {e c p q m : Int} {qs ns : List Int} {L : Int → List Int} (W : Way N e c qs ns) (h : Lfs N ns L) (hp : L p = [m]) (ne : p ≠ e) (nc : p ≠ c) (k : (q, m) ∈ N p) : Lfs N ns (peel L p q m) := by
  have pq : p ∉ qs := fun hz => by
    obtain ⟨m1, m2, y1, y2, h1, h2, h3, h4, h5⟩ := W.mid F hz ne nc
    have a := h.keep _ _ _ h2 h4
    have b := h.keep _ _ _ h3 h5
    rw [hp] at a b
    exact h1 ((List.mem_singleton.mp a).trans (List.mem_singleton.mp b).symm)
  have mn : m ∉ ns := W.off F k pq
  refine ⟨fun x => ?_, fun x m' hm => ?_, fun x y m' hm hy => ?_, fun x y m' hm hy => ?_⟩
  · unfold FF.peel
    split
    · exact List.nodup_nil
    · split
      · exact (h.nd q).erase m
      · exact h.nd x
  · unfold FF.peel at hm
    split at hm
    · cases hm
    · split at hm
      · rename_i e1
        subst e1
        exact h.mem _ _ (List.mem_of_mem_erase hm)
      · exact h.mem _ _ hm
  · have both : m' ≠ m ∧ m' ∈ L x := by
      unfold FF.peel at hm
      split at hm
      · cases hm
      · rename_i xp
        split at hm
        · rename_i xq
          subst xq
          have := ((h.nd x).mem_erase_iff).mp hm
          exact this
        · rename_i xq
          refine ⟨fun em => ?_, hm⟩
          subst em
          rcases F.ends hy k with ⟨a, b⟩ | ⟨a, b⟩
          · exact xp a
          · exact xq a
    have my := h.two _ _ _ both.2 hy
    unfold FF.peel
    split
    · rename_i e1
      rw [e1, hp] at my
      exact absurd (List.mem_singleton.mp my) both.1
    · split
      · rename_i e1
        rw [e1] at my
        exact (List.mem_erase_of_ne both.1).mpr my
      · exact my
  · have nm : m' ≠ m := fun z => mn (by rw [← z]; exact hm)
    have mx := h.keep _ _ _ hm hy
    unfold FF.peel
    split
    · rename_i e1
      rw [e1, hp] at mx
      exact absurd (List.mem_singleton.mp mx) nm
    · split
      · rename_i e1
        rw [e1] at mx
        exact (List.mem_erase_of_ne nm).mpr mx
      · exact mx
/-- with no loose tie left but at the ends, what is left at the way's places is the way -/
theorem Lfs.only {N : Int → List Nu} (F : Fst N) {e c : Int} {qs ns : List Int} {L : Int → List Int} (W : Way N e c qs ns) (h : Lfs N ns L) (done : ∀ p, p ≠ e → p ≠ c → (L p).length ≠ 1) {n : Nat} (rg : ∀ p q, q ∈ N p → 0 ≤ p ∧ p < n) {p m : Int} (hp : p ∈ qs) (hm : m ∈ L p) : m ∈ ns := by
  refine Classical.byContradiction fun no => ?_
  have grow : ∀ k : Nat, ∃ d ps ms m', Way N p d ps (m' :: ms) ∧ ms.length = k ∧ d ∉ qs ∧ m' ∈ L d := fun k => by
    induction k with
    | zero =>
      obtain ⟨d, kd⟩ := h.mem _ _ hm
      have nd := F.irr kd
      have w : Way N p d [d, p] [m] := .cons .one (F.sym kd) (by simpa using nd)
      refine ⟨d, [d, p], [], m, w, rfl, fun hd => ?_, h.two _ _ _ hm kd⟩
      obtain ⟨ps, ms, w', _, h2⟩ := W.sub F hd hp
      obtain ⟨_, e2⟩ := F.one w w'
      exact no (h2 m (by rw [← e2]; simp))
    | succ k ih =>
      obtain ⟨d, ps, ms, m', w, lm, dq, hd⟩ := ih
      have l1 := done d (fun z => dq (by rw [z]; exact W.fin)) (fun z => dq (by rw [z]; exact W.start))
      obtain ⟨m2, h2, ne⟩ : ∃ m2, m2 ∈ L d ∧ m2 ≠ m' := by
        refine Classical.byContradiction fun z => ?_
        have all : ∀ x ∈ L d, x = m' := fun x hx => Classical.byContradiction fun y => z ⟨x, hx, y⟩
        have nd := h.nd d
        cases hL : L d with
        | nil => rw [hL] at hd; cases hd
        | cons a r =>
          cases r with
          | nil => rw [hL] at l1; exact l1 rfl
          | cons b r =>
            rw [hL] at nd all
            have e1 := all a (by simp)
            have e2 := all b (by simp)
            rw [e1, e2] at nd
            simp at nd
      obtain ⟨d2, kd⟩ := h.mem _ _ h2
      have nd := F.irr kd
      have d2p : d2 ∉ ps := fun z => by
        obtain ⟨q1, n1, q2, n2, e1, e2, w1, w2⟩ := w.at z
        have w3 : Way N d2 d [d, d2] [m2] := .cons .one kd (by simpa using Ne.symm nd)
        obtain ⟨_, e3⟩ := F.one w2 w3
        rw [e3] at e2
        have := (List.cons.inj e2).1
        exact ne this.symm
      refine ⟨d2, d2 :: ps, m' :: ms, m2, .cons w (F.sym kd) d2p, by rw [List.length_cons, lm], fun hd2 => ?_, h.two _ _ _ h2 kd⟩
      obtain ⟨ps', ms', w', h3, _⟩ := W.sub F hd2 hp
      obtain ⟨e1, _⟩ := F.one (Way.cons w (F.sym kd) d2p) w'
      exact dq (h3 d (by rw [← e1]; exact List.mem_cons_of_mem _ w.start))
  obtain ⟨d, ps, ms, m', w, lm, _, _⟩ := grow n
  have in' : ∀ x ∈ ps, 0 ≤ x ∧ x < (n : Int) := by
    obtain ⟨q, kq⟩ := h.mem _ _ hm
    have rp := rg _ _ kq
    intro x hx
    obtain ⟨q1, n1, q2, n2, e1, e2, w1, w2⟩ := w.at hx
    cases w1 with
    | one => exact rp
    | cons _ k _ => exact rg _ _ k
  have few := pigeon n ps w.nodup in'
  have ll := w.len
  rw [List.length_cons, lm] at ll
  omega
/-! ### forests: the way told by what is left (mathematics) -/
theorem Way.tied {N : Int → List Nu} (F : Fst N) {e c : Int} {qs ns : List Int} (W : Way N e c qs ns) {i j : Nat} {m x y : Int} (hi : ns[i]? = some m) (hx : qs[j]? = some x) (k : (y, m) ∈ N x) : i = j ∨ i + 1 = j := by
  have il := (List.getElem?_eq_some_iff.mp hi).1
  obtain ⟨x', y', m', h1, h2, h3, h4⟩ := W.each i il
  rw [hi] at h3
  cases h3
  have nd := W.nodup
  rcases F.ends k h4 with ⟨a, _⟩ | ⟨a, _⟩
  · subst a
    exact .inl ((List.getElem?_inj (List.getElem?_eq_some_iff.mp h1).1 nd).mp (h1.trans hx.symm))
  · subst a
    exact .inr ((List.getElem?_inj (List.getElem?_eq_some_iff.mp h2).1 nd).mp (h2.trans hx.symm))
theorem Way.ties_nd {N : Int → List Nu} (F : Fst N) {e c : Int} {qs ns : List Int} (W : Way N e c qs ns) {i j : Nat} {m : Int} (hi : ns[i]? = some m) (hj : ns[j]? = some m) : i = j := by
  have il := (List.getElem?_eq_some_iff.mp hi).1
  have jl := (List.getElem?_eq_some_iff.mp hj).1
  obtain ⟨x, y, m', h1, h2, h3, h4⟩ := W.each i il
  rw [hi] at h3
  cases h3
  obtain ⟨x', y', m', g1, g2, g3, g4⟩ := W.each j jl
  rw [hj] at g3
  cases g3
  have a := W.tied F hi g1 g4
  have b := W.tied F hj h1 h4
  omega
/-- the next tie of the way is what is left at its place but for those that were walked -/
theorem Lfs.next {N : Int → List Nu} (F : Fst N) {e c : Int} {qs ns : List Int} {L : Int → List Int} (W : Way N e c qs ns) (h : Lfs N ns L) (only : ∀ p ∈ qs, ∀ m ∈ L p, m ∈ ns) {j : Nat} {x m : Int} (hx : qs[j]? = some x) (hm : ns[j]? = some m) :
    ∃ r, (L x).filter (fun z => !decide (z ∈ ns.take j)) = m :: r := by
  obtain ⟨x', y, m', h1, h2, h3, h4⟩ := W.each j (List.getElem?_eq_some_iff.mp hm).1
  rw [hx] at h1
  cases h1
  rw [hm] at h3
  cases h3
  have mL := h.keep _ _ _ (List.mem_of_getElem? hm) h4
  have out : m ∉ ns.take j := fun z => by
    obtain ⟨i, hi⟩ := List.getElem?_of_mem z
    have il := (List.getElem?_eq_some_iff.mp hi).1
    rw [List.length_take] at il
    rw [List.getElem?_take_of_lt (by omega)] at hi
    have := W.ties_nd F hi hm
    omega
  have inF : m ∈ (L x).filter (fun z => !decide (z ∈ ns.take j)) := List.mem_filter.mpr ⟨mL, by rw [decide_eq_false out]; rfl⟩
  cases hf : (L x).filter (fun z => !decide (z ∈ ns.take j)) with
  | nil => rw [hf] at inF; cases inF
  | cons a r =>
    refine ⟨r, ?_⟩
    have ha : a ∈ (L x).filter (fun z => !decide (z ∈ ns.take j)) := by rw [hf]; exact List.mem_cons_self ..
    obtain ⟨aL, an⟩ := List.mem_filter.mp ha
    have an : a ∉ ns.take j := fun z => by
      rw [decide_eq_true z] at an
      cases an
    obtain ⟨i, hi⟩ := List.getElem?_of_mem (only x (List.mem_of_getElem? hx) a aL)
    obtain ⟨q, kq⟩ := h.mem _ _ aL
    rcases W.tied F hi hx kq with e1 | e1
    · subst e1
      rw [hm] at hi
      cases hi
      rfl
    · exfalso
      refine an (List.mem_of_getElem? (i := i) ?_)
      rw [List.getElem?_take_of_lt (by omega)]
      exact hi
/-- where ties lead, stems lead -/
theorem way_ex {ts : List Tie} {n : Int} (ok : ∀ t ∈ ts, TieOk n t) : ∀ {k : Nat}, k ≤ ts.length → ∀ {a b : Int}, Rch (ts.take k) a b → ∃ qs ns, Way (nN ts (stemsTo ts k)) b a qs ns
  | 0, _, a, b, r => by
    have e0 : ts.take 0 = [] := rfl
    rw [e0] at r
    rw [rch_nil r]
    exact ⟨_, _, .one⟩
  | k + 1, hk, a, b, r => by
    have et := List.getElem?_eq_getElem (show k < ts.length by omega)
    have eN := tieN_of et
    have ih := fun {a b} => @way_ex ts n ok k (by omega) a b
    rw [take_snoc et] at r
    have up : ∀ {a b : Int} {qs ns : List Int}, Way (nN ts (stemsTo ts k)) b a qs ns → Way (nN ts (stemsTo ts (k + 1))) b a qs ns := fun w => w.mono fun p q hq _ => by
      rw [stemsTo_succ]
      split
      · exact nN_app.mpr (.inl hq)
      · rw [List.append_nil]; exact hq
    have rc : ∀ {e c : Int} {qs ns : List Int}, Way (nN ts (stemsTo ts k)) e c qs ns → ∀ z ∈ qs, Rch (ts.take k) c z := fun {e c qs ns} w z hz => by
      obtain ⟨q1, n1, q2, n2, e1, e2, w1, w2⟩ := w.at hz
      exact way_rch (by omega) w2
    by_cases hs : stemB ts k = true
    · have no := (stem_iff et).mp hs
      have two : ∀ {p q : Int}, ((p = ts[k].one ∧ q = ts[k].other) ∨ (p = ts[k].other ∧ q = ts[k].one)) → Rch (ts.take k) a p → Rch (ts.take k) q b → ∃ qs ns, Way (nN ts (stemsTo ts (k + 1))) b a qs ns := fun {p q} j r1 r2 => by
        obtain ⟨q1, n1, w1⟩ := ih r1
        obtain ⟨q2, n2, w2⟩ := ih r2
        have npq : ¬ Rch (ts.take k) p q := by
          rcases j with ⟨h1, h2⟩ | ⟨h1, h2⟩
          · rw [h1, h2]; exact no
          · rw [h1, h2]; exact fun z => no z.symm
        refine ⟨_, _, (up w1).join (m := (k : Int)) (up w2) ?_ fun z h1 h2 => ?_⟩
        · rw [stemsTo_succ, if_pos hs]
          refine nN_app.mpr (.inr ⟨rfl, ?_⟩)
          show Jn (tieN ts ((k : Int)).toNat) p q
          rw [Int.toNat_natCast, eN]
          rcases j with ⟨h1, h2⟩ | ⟨h1, h2⟩
          · exact .inl ⟨h1.symm, h2.symm⟩
          · exact .inr ⟨h2.symm, h1.symm⟩
        · have a1 := rc w1 z h1
          have a2 := rc w2 z h2
          exact npq (r1.symm.trans (a1.trans a2.symm))
      rcases (rch_snoc (p := ts[k].one) (q := ts[k].other) (.inl ⟨rfl, rfl⟩)).mp r with r | ⟨r1, r2⟩ | ⟨r1, r2⟩
      · obtain ⟨qs, ns, w⟩ := ih r
        exact ⟨qs, ns, up w⟩
      · exact two (.inl ⟨rfl, rfl⟩) r1 r2
      · exact two (.inr ⟨rfl, rfl⟩) r1 r2
    · have yes : Rch (ts.take k) ts[k].one ts[k].other := Classical.byContradiction fun z => hs ((stem_iff et).mpr z)
      have r' : Rch (ts.take k) a b := by
        rcases (rch_snoc (p := ts[k].one) (q := ts[k].other) (.inl ⟨rfl, rfl⟩)).mp r with r | ⟨r1, r2⟩ | ⟨r1, r2⟩
        · exact r
        · exact r1.trans (yes.trans r2)
        · exact r1.trans (yes.symm.trans r2)
      obtain ⟨qs, ns, w⟩ := ih r'
      exact ⟨qs, ns, up w⟩
/-- the ties of stems at each place, at first -/
def touch (ts : List Tie) (S : List Int) (p : Int) : List Int := S.filter fun m => decide ((tieN ts m.toNat).one = p ∨ (tieN ts m.toNat).other = p)
theorem touch_lfs {ts : List Tie} {S ns : List Int} {e c : Int} {qs : List Int} (nd : S.Nodup) (W : Way (nN ts S) e c qs ns) : Lfs (nN ts S) ns (touch ts S) := by
  have mk : ∀ {p q m : Int}, m ∈ S → Jn (tieN ts m.toNat) p q → m ∈ touch ts S p := fun {p q m} h j => by
    refine List.mem_filter.mpr ⟨h, decide_eq_true ?_⟩
    rcases j with ⟨a, _⟩ | ⟨_, b⟩
    · exact .inl a
    · exact .inr b
  refine ⟨fun p => nd.sublist List.filter_sublist, fun p m h => ?_, fun p q m h k => ?_, fun p q m h k => ?_⟩
  · obtain ⟨h1, h2⟩ := List.mem_filter.mp h
    rcases of_decide_eq_true h2 with a | a
    · exact ⟨(tieN ts m.toNat).other, mem_nN.mpr ⟨h1, .inl ⟨a, rfl⟩⟩⟩
    · exact ⟨(tieN ts m.toNat).one, mem_nN.mpr ⟨h1, .inr ⟨rfl, a⟩⟩⟩
  · obtain ⟨h1, h2⟩ := mem_nN.mp k
    exact mk h1 h2.symm
  · obtain ⟨h1, h2⟩ := mem_nN.mp k
    exact mk h1 h2
/-! ### sum of a tuple of ints -/
def rSumTI (K : PySem.W.Frag) : List V → Hp → VK → Prop := fun vs H Q => ∃ (a : Addr) (ns : List Int), vs = [V.ref a] ∧ SqT K H a (ns.map V.int) ∧ Q (.int ns.sum) H
theorem cr_sumTI {X : Cx} (hc : X.calm = true) : CallR X (.builtin "sum") (rSumTI X.K) := by
  intro pins s σ H vs us Q I r h
  obtain ⟨a, ns, rfl, hs, q⟩ := h
  obtain ⟨its, rv, hl, _⟩ := I.tuple hs
  rw [Vals.ref1 r]
  have hi := rv.ints
  obtain ⟨xs, e⟩ := hi.allInts.items
  have hn : numsOf (intItems xs).toList = ns := by rw [← e]; exact hi.numsOf
  rw [nums_intItems] at hn
  have hl : s.heap.IsTuple a its.toArray := hl
  rw [e] at hl
  refine PySem.W.ktm_sumG (I.ok.hd hc) hl fun h' tk t' hk => ?_
  rw [preSum_eq, List.take_of_length_le (by simp), hn]
  exact ⟨.int _, H, I.kept hk, ⟨_, rfl⟩, q⟩
/-! ### l.remove(k) where k is there -/
theorem takesNever {X : Cx} : Takes X (fun _ _ _ _ => False) := fun u s' x => by
  obtain ⟨a, B, sI, pins, σ, H, cls, d, e, I, nb, up, sky, na, os, ag, w⟩ := x
  exact w.elim
/-! ### the law: other webs -/
theorem cut_take {xs : List V} {k : Nat} (h : k ≤ xs.length) : cutV xs none (some (k : Int)) = xs.take k := by
  unfold cutV
  rw [HT.sIx_none, HT.sIx_nat, Nat.min_eq_left h, List.drop_zero]
  rfl
theorem cut_drop {xs : List V} {k : Nat} (h : k ≤ xs.length) : cutV xs (some (k : Int)) none = xs.drop k := by
  unfold cutV
  rw [HT.sIx_none, HT.sIx_nat, Nat.min_eq_left h]
  exact List.take_of_length_le (by rw [List.length_drop]; omega)
/-! ### the script stays -/
structure Scr (K : PySem.W.Frag) (H : Hp) (a d : Addr) (xs : List V) : Prop where
  sq : SqL K H a xs
  ne : a ≠ d ∨ ∀ H', SqL K H' a xs
theorem Scr.mk' {K : PySem.W.Frag} {H H' : Hp} {a d : Addr} {xs : List V} (h : SqL K H a xs) (nd : H d = none) (s : Same H H') : Scr K H' a d xs := by
  refine ⟨s.seq h, ?_⟩
  rcases h with (h | ⟨o, h⟩) | h
  · exact .inl (ne_of_none h nd)
  · exact .inl (ne_of_none h nd)
  · exact .inr fun H' => .inr h
theorem Scr.kp {K : PySem.W.Frag} {H H' : Hp} {a d : Addr} {xs : List V} (h : Scr K H a d xs) (k : Kp d d H H') : Scr K H' a d xs := by
  refine ⟨?_, h.ne⟩
  rcases h.ne with n | n
  · rcases h.sq with (h | ⟨o, h⟩) | h
    · exact .inl (.inl (k _ _ n n h))
    · exact .inl (.inr ⟨o, k _ _ n n h⟩)
    · exact .inr h
  · exact n H'
theorem Scr.same {K : PySem.W.Frag} {H H' : Hp} {a d : Addr} {xs : List V} (h : Scr K H a d xs) (s : Same H H') : Scr K H' a d xs := ⟨s.seq h.sq, h.ne⟩
theorem stems_in {n : Int} {ts : List Tie} (ok : ∀ t ∈ ts, TieOk n t) {x : Int} {q : Nu} (h : q ∈ nN ts (stemsTo ts ts.length) x) : (0 ≤ x ∧ x < n) ∧ (0 ≤ q.1 ∧ q.1 < n) := by
  obtain ⟨h1, h2⟩ := mem_nN.mp h
  obtain ⟨⟨m0, m1⟩, _⟩ := stemsTo_mem.mp h1
  have et := List.getElem?_eq_getElem (show q.2.toNat < ts.length by omega)
  obtain ⟨o1, o2, o3, o4, _⟩ := ok _ (List.mem_of_getElem? et)
  rw [tieN_of et] at h2
  rcases h2 with ⟨a, b⟩ | ⟨a, b⟩ <;> omega
theorem tie_reach {ts : List Tie} {k : Nat} {t : Tie} (h : ts[k]? = some t) : Rch (ts.take ts.length) t.one t.other := by
  rw [List.take_length]
  exact Rch.adj (k := t.foe) ⟨t, List.mem_of_getElem? h, rfl, .inl ⟨rfl, rfl⟩⟩
/-- a ring told: places, ties -/
def RingW (H : Hp) (r : Addr) (qs ms : List Int) : Prop := ∃ a b, H r = some (.tup [.ref a, .ref b]) ∧ H a = some (.tup (qs.map V.int)) ∧ H b = some (.tup (ms.map V.int))
/-! ### k24: webs coloured (mathematics) -/
def colT (c : Int → Bool) (t : Tie) : Tie := ⟨t.one, t.other, t.foe ^^ (c t.one ^^ c t.other)⟩
def HoldsS (c : Int → Bool) (ts : List Tie) (S : List Int) : Prop := ∀ m ∈ S, (c (tieN ts m.toNat).one ^^ c (tieN ts m.toNat).other) = (tieN ts m.toNat).foe
theorem turn_col (ps : List Int) (t : Tie) : turnT ps t = colT (inP ps) t := by
  unfold turnT colT flipT
  cases h1 : inP ps t.one <;> cases h2 : inP ps t.other <;> cases t <;> simp
theorem col_framed (c : Int → Bool) (ts : List Tie) : Framed ts (ts.map (colT c)) := Framed.map fun _ _ => .inl ⟨rfl, rfl⟩
theorem col_ok {n : Int} {ts : List Tie} (ok : WebOk n ts) (c : Int → Bool) : WebOk n (ts.map (colT c)) := ⟨ok.lo, ok.hi, by rw [List.length_map]; exact ok.few, fun t ht => by
  obtain ⟨u, hu, rfl⟩ := List.mem_map.mp ht
  exact ok.ok u hu⟩
open Classical in
/-- stems can be coloured -/
theorem forest_col {ts : List Tie} : ∀ {k : Nat}, k ≤ ts.length → ∃ c : Int → Bool, HoldsS c ts (stemsTo ts k)
  | 0, _ => ⟨fun _ => false, fun m hm => by cases hm⟩
  | k + 1, hk => by
    obtain ⟨c, h⟩ := forest_col (ts := ts) (k := k) (by omega)
    rw [stemsTo_succ]
    by_cases hb : stemB ts k = true
    · rw [if_pos hb]
      have et := List.getElem?_eq_getElem (show k < ts.length by omega)
      have no := (stem_iff et).mp hb
      have eN := tieN_of et
      generalize ts[k]'(by omega) = t at et no eN
      refine ⟨fun x => c x ^^ ((t.foe ^^ (c t.one ^^ c t.other)) && decide (Rch (ts.take k) t.one x)), fun m hm => ?_⟩
      rcases List.mem_append.mp hm with hm | hm
      · have e := h m hm
        obtain ⟨⟨m0, m1⟩, _⟩ := stemsTo_mem.mp hm
        have em := List.getElem?_eq_getElem (show m.toNat < ts.length by omega)
        have ad : Adj (ts.take k) (tieN ts m.toNat).one (tieN ts m.toNat).other (tieN ts m.toNat).foe := ⟨tieN ts m.toNat, by
          rw [tieN_of em]
          exact List.mem_take_iff_getElem.mpr ⟨m.toNat, by omega, rfl⟩, rfl, .inl ⟨rfl, rfl⟩⟩
        have same : decide (Rch (ts.take k) t.one (tieN ts m.toNat).one) = decide (Rch (ts.take k) t.one (tieN ts m.toNat).other) := by
          rw [decide_eq_decide]
          exact ⟨fun r => r.trans (Rch.adj ad), fun r => r.trans (Rch.adj ad.symm)⟩
        rw [← e]
        simp only [same]
        cases c (tieN ts m.toNat).one <;> cases c (tieN ts m.toNat).other <;> cases ((t.foe ^^ (c t.one ^^ c t.other)) && decide (Rch (ts.take k) t.one (tieN ts m.toNat).other)) <;> rfl
      · rw [List.mem_singleton] at hm
        subst hm
        rw [Int.toNat_natCast, eN]
        simp only
        rw [decide_eq_true (Rch.refl : Rch (ts.take k) t.one t.one), decide_eq_false no]
        cases c t.one <;> cases c t.other <;> cases t.foe <;> rfl
    · rw [if_neg hb, List.append_nil]
      exact ⟨c, h⟩
theorem way_const {ts : List Tie} {S : List Int} {d : Int → Bool} (h : ∀ m ∈ S, d (tieN ts m.toNat).one = d (tieN ts m.toNat).other) {e c : Int} {qs ns : List Int} (w : Way (nN ts S) e c qs ns) : d c = d e := by
  induction w with
  | one => rfl
  | cons w k no ih =>
    obtain ⟨h1, h2⟩ := mem_nN.mp k
    have := h _ h1
    rcases h2 with ⟨a, b⟩ | ⟨a, b⟩
    · rw [a, b] at this
      rw [this, ih]
    · rw [a, b] at this
      rw [← this, ih]
/-- an odd number of foes among so many ties -/
def oddF (ts : List Tie) (ns : List Int) : Bool := decide ((ns.filter fun m => (tieN ts m.toNat).foe).length % 2 = 1)
theorem oddF_cons (ts : List Tie) (m : Int) (ns : List Int) : oddF ts (m :: ns) = ((tieN ts m.toNat).foe ^^ oddF ts ns) := by
  unfold oddF
  rw [List.filter_cons]
  cases (tieN ts m.toNat).foe
  · simp
  · simp only [if_true, List.length_cons]
    by_cases h : (ns.filter fun m => (tieN ts m.toNat).foe).length % 2 = 1
    · rw [decide_eq_true h, decide_eq_false (by omega)]; rfl
    · rw [decide_eq_false h, decide_eq_true (by omega)]; rfl
theorem oddF_snoc (ts : List Tie) (ns : List Int) (k : Int) : oddF ts (ns ++ [k]) = (oddF ts ns ^^ (tieN ts k.toNat).foe) := by
  induction ns with
  | nil =>
    rw [List.nil_append, oddF_cons]
    show ((tieN ts k.toNat).foe ^^ false) = (false ^^ (tieN ts k.toNat).foe)
    cases (tieN ts k.toNat).foe <;> rfl
  | cons m ns ih => rw [List.cons_append, oddF_cons, oddF_cons, ih, Bool.xor_assoc]
theorem way_foes {ts : List Tie} {S : List Int} {c : Int → Bool} (h : HoldsS c ts S) {e s : Int} {qs ns : List Int} (w : Way (nN ts S) e s qs ns) : oddF ts ns = (c s ^^ c e) := by
  induction w with
  | one => rw [Bool.xor_self]; rfl
  | cons w k no ih =>
    rename_i c' p m qs' ns'
    obtain ⟨h1, h2⟩ := mem_nN.mp k
    have a := h _ h1
    simp only at a h2
    rw [oddF_cons, ih, ← a]
    rcases h2 with ⟨a, b⟩ | ⟨a, b⟩ <;> rw [a, b]
    · cases c p <;> cases c c' <;> cases c e <;> rfl
    · cases c p <;> cases c c' <;> cases c e <;> rfl
/-- the plain web is the same of the web turned about -/
theorem pln {n : Int} {ts : List Tie} (ok : ∀ t ∈ ts, TieOk n t) {b c c' : Int → Bool} (h : HoldsS c ts (stemsTo ts ts.length)) (h' : HoldsS c' (ts.map (colT b)) (stemsTo (ts.map (colT b)) (ts.map (colT b)).length)) : (ts.map (colT b)).map (colT c') = ts.map (colT c) := by
  rw [stems_framed (col_framed b ts)] at h'
  rw [List.map_map]
  refine List.map_congr_left fun t ht => ?_
  obtain ⟨k, et⟩ := List.getElem?_of_mem ht
  obtain ⟨qs, ns, way⟩ := way_ex ok (Nat.le_refl _) (tie_reach et)
  have e := way_const (d := fun x => b x ^^ (c' x ^^ c x)) (fun m hm => by
    have a1 := h m hm
    have a2 := h' m hm
    obtain ⟨⟨m0, m1⟩, _⟩ := stemsTo_mem.mp hm
    have em := List.getElem?_eq_getElem (show m.toNat < ts.length by omega)
    have eN : tieN (ts.map (colT b)) m.toNat = colT b (tieN ts m.toNat) := by
      rw [tieN_of em, tieN_of (show (ts.map (colT b))[m.toNat]? = some (colT b (ts[m.toNat]'(by omega))) by rw [List.getElem?_map, em]; rfl)]
    rw [eN] at a2
    unfold colT at a2
    simp only at a2
    rw [← a1] at a2
    revert a2
    generalize (tieN ts m.toNat).one = x
    generalize (tieN ts m.toNat).other = y
    show (c' x ^^ c' y) = ((c x ^^ c y) ^^ (b x ^^ b y)) → (b x ^^ (c' x ^^ c x)) = (b y ^^ (c' y ^^ c y))
    cases b x <;> cases b y <;> cases c x <;> cases c y <;> cases c' x <;> cases c' y <;> decide) way
  unfold colT
  simp only [Function.comp]
  congr 1
  revert e
  cases t.foe <;> cases b t.one <;> cases b t.other <;> cases c t.one <;> cases c t.other <;> cases c' t.one <;> cases c' t.other <;> decide
theorem pln0 {n : Int} {ts : List Tie} (ok : ∀ t ∈ ts, TieOk n t) {c c' : Int → Bool} (h : HoldsS c ts (stemsTo ts ts.length)) (h' : HoldsS c' ts (stemsTo ts ts.length)) : ts.map (colT c') = ts.map (colT c) := by
  have e : ts.map (colT fun _ => false) = ts := by
    have : colT (fun _ => false) = id := by
      funext t
      unfold colT
      simp
    rw [this, List.map_id]
  have := pln (b := fun _ => false) (c := c) (c' := c') ok h (by rw [e]; exact h')
  rwa [e] at this
/-- tie k alone of the other kind -/
def bentT (ts : List Tie) (k : Nat) (t : Tie) : List Tie := ts.set k (flipT t)
theorem bent_framed {ts : List Tie} {k : Nat} {t : Tie} (et : ts[k]? = some t) : Framed ts (bentT ts k t) := ⟨by unfold bentT; rw [List.length_set], fun i a b e1 e2 => by
  unfold bentT at e2
  rw [List.getElem?_set] at e2
  by_cases hik : k = i
  · subst hik
    rw [if_pos rfl, if_pos (List.getElem?_eq_some_iff.mp et).1] at e2
    rw [et] at e1
    cases e1
    cases e2
    exact .inl ⟨rfl, rfl⟩
  · rw [if_neg hik, e1] at e2
    cases e2
    exact .inl ⟨rfl, rfl⟩⟩
theorem bent_ok {n : Int} {ts : List Tie} (ok : WebOk n ts) {k : Nat} {t : Tie} (et : ts[k]? = some t) : WebOk n (bentT ts k t) := ⟨ok.lo, ok.hi, by unfold bentT; rw [List.length_set]; exact ok.few, fun x hx => by
  rcases List.mem_or_eq_of_mem_set hx with h | rfl
  · exact ok.ok x h
  · exact ok.ok t (List.mem_of_getElem? et)⟩
open Classical in
/-- the plain web stays the same just where the tie is a bridge -/
theorem pln_bent {n : Int} {ts : List Tie} (ok : ∀ t ∈ ts, TieOk n t) {k : Nat} {t : Tie} (et : ts[k]? = some t) {c c' : Int → Bool} (h : HoldsS c ts (stemsTo ts ts.length)) (h' : HoldsS c' (bentT ts k t) (stemsTo (bentT ts k t) (bentT ts k t).length)) : (bentT ts k t).map (colT c') = ts.map (colT c) ↔ ¬ Rch (ts.eraseIdx k) t.one t.other := by
  have kl := (List.getElem?_eq_some_iff.mp et).1
  constructor
  · intro e r
    have at' : ∀ (i : Nat) (u : Tie), ts[i]? = some u → ((if i = k then !u.foe else u.foe) ^^ (c' u.one ^^ c' u.other)) = (u.foe ^^ (c u.one ^^ c u.other)) := fun i u eu => by
      have := congrArg (fun l : List Tie => l[i]?.map Tie.foe) e
      simp only [List.getElem?_map, eu] at this
      unfold bentT at this
      rw [List.getElem?_set] at this
      by_cases hik : k = i
      · subst hik
        rw [et] at eu
        cases eu
        rw [if_pos rfl, if_pos kl] at this
        rw [if_pos rfl]
        exact Option.some.inj this
      · rw [if_neg hik, eu] at this
        rw [if_neg (Ne.symm hik)]
        exact Option.some.inj this
    have d : (c' t.one ^^ c t.one) = (c' t.other ^^ c t.other) := r.ind (fun x => (c' t.one ^^ c t.one) = (c' x ^^ c x)) rfl fun x y f hx ad => by
      obtain ⟨u, hu, _, q⟩ := ad
      obtain ⟨i, ni, eu⟩ := List.mem_eraseIdx_iff_getElem?.mp hu
      have a := at' i u eu
      rw [if_neg ni] at a
      rw [hx]
      rcases q with ⟨rfl, rfl⟩ | ⟨rfl, rfl⟩ <;>
      · revert a
        cases u.foe <;> cases c u.one <;> cases c u.other <;> cases c' u.one <;> cases c' u.other <;> decide
    have a := at' k t et
    rw [if_pos rfl] at a
    revert a d
    cases t.foe <;> cases c t.one <;> cases c t.other <;> cases c' t.one <;> cases c' t.other <;> decide
  · intro no
    have e : bentT ts k t = ts.map (colT fun x => decide (Rch (ts.eraseIdx k) t.one x)) := by
      refine List.ext_getElem? fun i => ?_
      unfold bentT
      rw [List.getElem?_set, List.getElem?_map]
      by_cases hik : k = i
      · subst hik
        rw [if_pos rfl, if_pos kl, et]
        show some (flipT t) = some (colT _ t)
        unfold flipT colT
        simp only
        rw [decide_eq_true (Rch.refl : Rch (ts.eraseIdx k) t.one t.one), decide_eq_false no]
        cases t.foe <;> rfl
      · rw [if_neg hik]
        cases eu : ts[i]? with
        | none => rfl
        | some u =>
          show some u = some (colT _ u)
          have ad : Adj (ts.eraseIdx k) u.one u.other u.foe := ⟨u, List.mem_eraseIdx_iff_getElem?.mpr ⟨i, Ne.symm hik, eu⟩, rfl, .inl ⟨rfl, rfl⟩⟩
          have same : decide (Rch (ts.eraseIdx k) t.one u.one) = decide (Rch (ts.eraseIdx k) t.one u.other) := by
            rw [decide_eq_decide]
            exact ⟨fun r => r.trans (Rch.adj ad), fun r => r.trans (Rch.adj ad.symm)⟩
          unfold colT
          simp only [same, Bool.xor_self, Bool.xor_false]
    rw [e] at h' ⊢
    exact pln ok h h'
/-- the stems alone as a web -/
noncomputable def stW (ts : List Tie) : List Tie := (stemsTo ts ts.length).map fun m => tieN ts m.toNat
theorem stW_ok {n : Int} {ts : List Tie} (ok : WebOk n ts) : WebOk n (stW ts) := ⟨ok.lo, ok.hi, by
  unfold stW
  rw [List.length_map]
  have := stemsTo_len ts ts.length
  have := ok.few
  omega, fun t ht => by
  obtain ⟨m, hm, rfl⟩ := List.mem_map.mp ht
  obtain ⟨⟨m0, m1⟩, _⟩ := stemsTo_mem.mp hm
  have em := List.getElem?_eq_getElem (show m.toNat < ts.length by omega)
  rw [tieN_of em]
  exact ok.ok _ (List.mem_of_getElem? em)⟩
theorem stW_no_odd (ts : List Tie) (n : Nat) : ¬ Odd (stW ts) n := by
  obtain ⟨c, h⟩ := forest_col (ts := ts) (Nat.le_refl _)
  rintro ⟨x, _, r⟩
  have walk : ∀ {x y : Int} {p : Bool}, RP (stW ts) x y p → (c x ^^ c y) = p := fun {x y p} r => by
    induction r with
    | nil => rw [Bool.xor_self]
    | step _ ad ih =>
      obtain ⟨t, ht, rfl, q⟩ := ad
      obtain ⟨m, hm, rfl⟩ := List.mem_map.mp ht
      have e := h m hm
      rw [← ih, ← e]
      rcases q with ⟨a, b⟩ | ⟨a, b⟩ <;> rw [a, b]
      · rename_i u v _ _
        cases c x <;> cases c u <;> cases c v <;> rfl
      · rename_i u v _ _
        cases c x <;> cases c u <;> cases c v <;> rfl
  have := walk r
  rw [Bool.xor_self] at this
  cases this
theorem mem_ones {ss : List Int} {n : Nat} {i : Int} (h0 : 0 ≤ i) (h1 : i < n) : inP (onesTo ss n) i = one? ss i := by
  unfold inP one? onesTo
  rw [decide_eq_decide, List.mem_filter, mem_rng, decide_eq_true_iff]
  exact ⟨fun h => h.2, fun h => ⟨⟨h0, h1⟩, h⟩⟩
/-- the fixed sides of the stems, as places turned, hold on the stems -/
theorem ones_holds {n : Nat} {ts : List Tie} (ok : WebOk n ts) {ss : List Int} (T : Told (stW ts) n ss) (C : Cons ss (stW ts)) : HoldsS (inP (onesTo ss n)) ts (stemsTo ts ts.length) := fun m hm => by
  have mem : tieN ts m.toNat ∈ stW ts := List.mem_map.mpr ⟨m, hm, rfl⟩
  obtain ⟨o1, o2, o3, o4, o5⟩ := (stW_ok ok).ok _ mem
  have e := C _ mem
  rw [brk_one T.bin (by rw [T.len]; exact (stW_ok ok).ok _ mem)] at e
  rw [mem_ones o1 o2, mem_ones o3 o4]
  revert e
  cases one? ss (tieN ts m.toNat).one <;> cases one? ss (tieN ts m.toNat).other <;> cases (tieN ts m.toNat).foe <;> decide
/-! ### k23: the law's own look at the ring -/
theorem Way.last {N : Int → List Nu} {e s : Int} {qs ns : List Int} (h : Way N e s qs ns) : qs[ns.length]? = some e := by
  induction h with
  | one => rfl
  | cons _ _ _ ih => simpa using ih
theorem Bes.set {H : Hp} {L : Addr} {As : List Addr} {N : Nat → List Int} (h : Bes H L As N) {j : Nat} {a : Addr} {zs : List Int} (ea : As[j]? = some a) : Bes (upd H a (.lst (zs.map V.int))) L As (fun i => if i = j then zs else N i) := by
  refine ⟨?_, h.nd, fun i b e => ?_, h.out⟩
  · have ne : L ≠ a := fun z => h.out (by rw [z]; exact List.mem_of_getElem? ea)
    rw [upd_ne ne]
    exact h.at'
  · by_cases hij : i = j
    · subst hij
      rw [ea] at e
      cases e
      rw [upd_same, if_pos rfl]
    · have ne : b ≠ a := fun z => hij (by
        subst z
        exact (List.getElem?_inj (List.getElem?_eq_some_iff.mp e).1 h.nd).mp (e.trans ea.symm))
      rw [upd_ne ne, if_neg hij]
      exact h.each i b e
theorem Bes.mut {H : Hp} {L : Addr} {As : List Addr} {N : Nat → List Int} (h : Bes H L As N) {z : Addr} {o : HO} (h1 : z ≠ L) (h2 : z ∉ As) : Bes (upd H z o) L As N :=
  ⟨(upd_ne (Ne.symm h1)).trans h.at', h.nd, fun j a e => (upd_ne (fun w => h2 (by rw [← w]; exact List.mem_of_getElem? e))).trans (h.each j a e), h.out⟩
theorem Bes.off {H : Hp} {L : Addr} {As : List Addr} {N : Nat → List Int} (h : Bes H L As N) {z : Addr} (hz : H z = none) : z ≠ L ∧ z ∉ As := by
  refine ⟨fun w => ?_, fun w => ?_⟩
  · have := h.at'
    rw [← w, hz] at this
    cases this
  · obtain ⟨j, hj⟩ := List.getElem?_of_mem w
    have := h.each j z hj
    rw [hz] at this
    cases this
theorem touch_snoc {n : Int} {ts : List Tie} {S : List Int} {m : Int} {t : Tie} (et : tieN ts m.toNat = t) (ok : TieOk n t) : (fun i : Nat => touch ts (S ++ [m]) (i : Int)) = fun i : Nat => (touch ts S (i : Int) ++ if i = t.one.toNat then [m] else []) ++ if i = t.other.toNat then [m] else [] := by
  funext i
  unfold touch
  obtain ⟨o1, o2, o3, o4, o5⟩ := ok
  rw [List.filter_append, List.append_assoc]
  congr 1
  rw [List.filter_cons, et]
  by_cases h1 : i = t.one.toNat
  · rw [if_pos h1, if_neg (show ¬ i = t.other.toNat by omega), if_pos (decide_eq_true (.inl (by omega)))]
    rfl
  · rw [if_neg h1]
    by_cases h2 : i = t.other.toNat
    · rw [if_pos h2, if_pos (decide_eq_true (.inr (by omega)))]
      rfl
    · rw [if_neg h2, if_neg (by
        intro z
        rcases of_decide_eq_true z with z | z <;> omega)]
      rfl
theorem filter_less {α : Type} {p q : α → Bool} (h : ∀ x, q x = true → p x = true) : ∀ {l : List α} {x : α}, x ∈ l → p x = true → q x = false → (l.filter q).length < (l.filter p).length
  | [], x, hx, _, _ => by simp at hx
  | y :: l, x, hx, hp, hq => by
    have le : ∀ l : List α, (l.filter q).length ≤ (l.filter p).length := fun l => by
      induction l with
      | nil => simp
      | cons z l ih =>
        rw [List.filter_cons, List.filter_cons]
        by_cases hz : q z = true
        · rw [if_pos hz, if_pos (h z hz)]
          simpa using ih
        · rw [if_neg hz]
          split
          · rw [List.length_cons]; omega
          · exact ih
    rcases List.mem_cons.mp hx with e | e
    · subst e
      rw [List.filter_cons, List.filter_cons, hp, hq]
      have := le l
      simp only [if_true, Bool.false_eq_true, if_false, List.length_cons]
      omega
    · have ih := filter_less h e hp hq
      rw [List.filter_cons, List.filter_cons]
      by_cases hy : q y = true
      · rw [if_pos hy, if_pos (h y hy)]
        simp only [List.length_cons]
        omega
      · rw [if_neg hy]
        split
        · rw [List.length_cons]; omega
        · exact ih
/-- places with something left -/
def full (n : Nat) (L : Int → List Int) : Nat := ((rng n).filter fun p => !(L p).isEmpty).length
theorem full_le (n : Nat) (L : Int → List Int) : full n L ≤ n := by
  unfold full
  have := List.length_filter_le (fun p => !(L p).isEmpty) (rng n)
  rw [rng_length] at this
  exact this
theorem full_peel {n : Nat} {L : Int → List Int} {p q m : Int} (h0 : 0 ≤ p) (h1 : p < n) (hp : L p = [m]) : full n (peel L p q m) < full n L := by
  unfold full
  refine filter_less (fun x hx => ?_) (mem_rng.mpr ⟨h0, h1⟩) (by rw [hp]; rfl) (by unfold peel; rw [if_pos rfl]; rfl)
  unfold peel at hx
  split at hx
  · cases hx
  · split at hx
    · rename_i e
      rw [e]
      cases hl : L q with
      | nil => rw [hl] at hx; cases hx
      | cons _ _ => rfl
    · exact hx
theorem atI_m1 {xs : List V} {L : Nat} {v : V} (hl : xs.length = L + 1) (h : xs[L]? = some v) : atI xs (-1) = some v := by
  unfold atI ixN
  rw [if_neg (by decide), if_pos (by omega)]
  show xs[((-1 : Int) + (xs.length : Int)).toNat]? = some v
  rw [hl, show ((-1 : Int) + ((L + 1 : Nat) : Int)).toNat = L by omega]
  exact h
theorem flat80 (xs : List Int) : (xs.map V.int).all flatV = true := by
  rw [List.all_eq_true]
  intro x hx
  obtain ⟨z, _, rfl⟩ := List.mem_map.mp hx
  rfl
theorem inV80 (x : Int) (xs : List Int) : inV (.int x) (xs.map V.int) = decide (x ∈ xs) := by
  unfold inV
  rw [List.any_map, Bool.eq_iff_iff, List.any_eq_true, decide_eq_true_iff]
  constructor
  · rintro ⟨z, hz, e⟩
    have e : (z == x) = true := e
    rw [beq_iff_eq] at e
    rw [← e]
    exact hz
  · intro h
    exact ⟨x, h, by show (x == x) = true; exact beq_self_eq_true x⟩
theorem inTwo (x a b : Int) : (!inV (.int x) [.int a, .int b]) = !decide (x = a ∨ x = b) := by
  have e : inV (.int x) [.int a, .int b] = ((a == x) || ((b == x) || false)) := rfl
  rw [e]
  by_cases h1 : x = a
  · subst h1
    simp
  · by_cases h2 : x = b
    · subst h2
      simp
    · rw [decide_eq_false (fun z => z.elim h1 h2), beq_eq_false_iff_ne.mpr (Ne.symm h1), beq_eq_false_iff_ne.mpr (Ne.symm h2)]
      rfl
def spClosed23 : Sp := fun vs H Q _ => ∃ (wv : V) (Ls : Addr) (n : Nat) (ts : List Tie) (k : Nat) (t : Tie), vs = [wv, .ref Ls, .int k] ∧ WebAt H wv n ts ∧ WebOk n ts ∧ H Ls = some (.lst ((stemsTo ts ts.length).map V.int)) ∧ ts[k]? = some t ∧
  ∀ (r : Addr) (qs ns : List Int) (H' : Hp), Way (nN ts (stemsTo ts ts.length)) t.other t.one qs ns → Same H H' → RingW H' r qs (ns ++ [(k : Int)]) → Q (.ref r) H'
section
variable {P : Program} {w : World} {K : PySem.W.Frag} {mg : Str → Option Value} {base : Heap}
def rLenK (K : PySem.W.Frag) : List V → Hp → VK → Prop := fun xs H Q => ∃ p ys, xs = [V.ref p] ∧ (SqL K H p ys ∨ SqT K H p ys) ∧ Q (V.int (ys.length : Nat)) H
set_option maxHeartbeats 4000000 in
theorem ok_l_closed {f : Addr} {fd : FuncData} (F : Fun K "_law_closed" "_law_closed" s_l_closed f fd) (M : Free mg) : FnOk P w K mg base CX0 1 f fd ["_law_web_here", "_law_stems_here", "_law_tie"] spClosed23 := by
  refine F.ok sc_l_closed (fun vs H Q E h => ?_) (fun cdv A outer s H vs Q E hr h => ?_)
  · obtain ⟨wv, Ls, n, ts, k, t, rfl, _⟩ := h
    rfl
  · obtain ⟨wv, Ls, n, ts, k, t, rfl, hW, ok, hLs, et, q⟩ := h
    refine ⟨_, (pss_cons (ps_asg (pe_ix ix_tup (pe_ix ix_tup (pv 0) pe_int (fun _ _ => rfl)) (pv 2) (fun _ _ => rfl)) (pg_tup rfl (pgs_cons (pg_name (i := 3) sc_l_closed.nd rfl (.inr rfl)) (pgs_cons (pg_name (i := 4) sc_l_closed.nd rfl (.inr rfl)) (pgs_cons (pg_name (i := 5) sc_l_closed.nd rfl (.inl rfl)) pgs_nil)))))
      (pss_cons (ps_set (i := 6) sc_l_closed.nd rfl (.inr rfl) (pe_lc (own := [("_law_place", 7)]) (g := (gName 7)) (tt := tYes) rfl sc_l_closed.nd (pi_range1 (by rfl) M.range (pa_cons (pe_ix ix_tup (pv 0) pe_int (fun _ _ => rfl)) pa_nil)) (blkOk_by (N := N_l_closed) (sc := defScope s_l_closed) (own := [("_law_place", 7)]) (by decide +kernel)) (fun _ _ _ _ _ => (pg_name (i := 7) sc_l_closed.nd rfl (.inl rfl))) (fun _ _ _ _ _ => pts_nil) (fun _ _ _ _ _ => (pe_lst pa_nil))))
      (pss_cons (ps_for PassesOwn.never rfl (pi_list (pv 1)) (pg_name (i := 8) sc_l_closed.nd rfl (.inl rfl))
        (pss_cons (ps_expr (pe_bm PySem.F.plainAttrs_list PySem.F.slot_list_append PySem.F.type_list_append mt_append (pe_ix ix_list (pv 6) (pe_ix ix_tup (pe_ix ix_tup (pe_ix ix_tup (pv 0) pe_int (fun _ _ => rfl)) (pv 8) (fun _ _ => rfl)) pe_int (fun _ _ => rfl)) (fun _ _ => rfl)) (pa_cons (pv 8) pa_nil)))
        (pss_one (ps_expr (pe_bm PySem.F.plainAttrs_list PySem.F.slot_list_append PySem.F.type_list_append mt_append (pe_ix ix_list (pv 6) (pe_ix ix_tup (pe_ix ix_tup (pe_ix ix_tup (pv 0) pe_int (fun _ _ => rfl)) (pv 8) (fun _ _ => rfl)) pe_int (fun _ _ => rfl)) (fun _ _ => rfl)) (pa_cons (pv 8) pa_nil))))))
      (pss_cons (ps_setLc (i := 9) (own := [("_law_place", 7)]) (g := (gName 7)) (te := tVar 7) rfl sc_l_closed.nd rfl rfl (sw_true rfl rfl rfl (by decide +kernel)) (pi_range1 (by rfl) M.range (pa_cons (pe_ix ix_tup (pv 0) pe_int (fun _ _ => rfl)) pa_nil)) (blkOk_by (N := N_l_closed) (sc := defScope s_l_closed) (own := [("_law_place", 7)]) (by decide +kernel)) (fun _ _ _ _ _ => (pg_name (i := 7) sc_l_closed.nd rfl (.inl rfl))) (fun _ _ _ _ _ => (pts_one (PW.pt (pw_and (pt_cmpR op_eq (pe_callB (r := rLenK K) call_len_seq (by rfl) M.len PySem.boot_len (pa_cons (pe_ix (r := rIxL K) ix_list (pv 6) (pv 7) (fun _ _ => rfl)) pa_nil)) pe_int (nomark _)) (pw_and1 (pt_cmpR (r := rIn K true) op_notIn_seq (pv 7) (pe_tup (pa_cons (pv 3) (pa_cons (pv 4) pa_nil))) rfl)))))) (fun _ _ _ _ _ => (pv 7)))
      (pss_cons (ps_while PassesOwn.never (pt_cmpR (op_neE hr.units0) (pv 9) (pe_lst pa_nil) (nomark _))
        (pss_cons (ps_set (i := 7) sc_l_closed.nd rfl (.inl rfl) (pe_bm0 PySem.F.plainAttrs_list PySem.F.slot_list_pop PySem.F.type_list_pop mt_pop (pv 9)))
        (pss_one (ps_if (pt_cmpR op_eq (pe_callB call_len_seq (by rfl) M.len PySem.boot_len (pa_cons (pe_ix ix_list (pv 6) (pv 7) (fun _ _ => rfl)) pa_nil)) pe_int (nomark _))
          (pss_cons (ps_set (i := 8) sc_l_closed.nd rfl (.inl rfl) (pe_bm0 PySem.F.plainAttrs_list PySem.F.slot_list_pop PySem.F.type_list_pop mt_pop (pe_ix ix_list (pv 6) (pv 7) (fun _ _ => rfl))))
          (pss_cons (ps_set (i := 10) sc_l_closed.nd rfl (.inl rfl) (pe_op op_sub (pe_callB (cr_sumTI rfl) (by rfl) M.sum (by decide +kernel) (pa_cons (pe_slice sl_tupU (pe_ix ix_tup (pe_ix ix_tup (pv 0) pe_int (fun _ _ => rfl)) (pv 8) (fun _ _ => rfl)) po_none (po_some pe_int)) pa_nil)) (pv 7)))
          (pss_cons (ps_expr (pe_remX rfl takesNever (pe_ix ix_list (pv 6) (pv 10) (fun _ _ => rfl)) (pv 8)))
          (pss_one (ps_if (PW.pt (pw_and (pt_cmpR op_eq (pe_callB call_len_seq (by rfl) M.len PySem.boot_len (pa_cons (pe_ix ix_list (pv 6) (pv 10) (fun _ _ => rfl)) pa_nil)) pe_int (nomark _)) (pw_and1 (pt_cmpR op_notIn_seq (pv 10) (pe_tup (pa_cons (pv 3) (pa_cons (pv 4) pa_nil))) rfl))))
            (pss_one (ps_expr (pe_bm PySem.F.plainAttrs_list PySem.F.slot_list_append PySem.F.type_list_append mt_append (pv 9) (pa_cons (pv 10) pa_nil))))
            pss_nil)))))
          pss_nil))))
      (pss_cons (ps_set (i := 11) sc_l_closed.nd rfl (.inl rfl) (pe_lst (pa_cons (pv 3) pa_nil)))
      (pss_cons (ps_set (i := 12) sc_l_closed.nd rfl (.inr rfl) (pe_lst pa_nil))
      (pss_cons (ps_while PassesOwn.never (pt_cmpR op_ne (pe_ix ix_list (pv 11) (pe_un un_neg pe_int) (fun _ _ => rfl)) (pv 4) (nomark _))
        (pss_cons (ps_expr (pe_bm PySem.F.plainAttrs_list PySem.F.slot_list_append PySem.F.type_list_append mt_append (pv 12) (pa_cons (pe_ix ix_list (pe_lc (own := [("_law_number", 8)]) (g := (gName 8)) (te := tVar 8) rfl sc_l_closed.nd (pi_list (pe_ix ix_list (pv 6) (pe_ix ix_list (pv 11) (pe_un un_neg pe_int) (fun _ _ => rfl)) (fun _ _ => rfl))) (blkOk_by (N := N_l_closed) (sc := defScope s_l_closed) (own := [("_law_number", 8)]) (by decide +kernel)) (fun _ _ _ _ _ => (pg_name (i := 8) sc_l_closed.nd rfl (.inl rfl))) (fun _ _ _ _ _ => (pts_one (pt_cmpR (r := rIn K true) op_notIn_seq (pv 8) (pv 12) rfl))) (fun _ _ _ _ _ => (pv 8))) pe_int (fun _ _ => rfl)) pa_nil)))
        (pss_one (ps_expr (pe_bm PySem.F.plainAttrs_list PySem.F.slot_list_append PySem.F.type_list_append mt_append (pv 11) (pa_cons (pe_op op_sub (pe_callB (cr_sumTI rfl) (by rfl) M.sum (by decide +kernel) (pa_cons (pe_slice sl_tupU (pe_ix ix_tup (pe_ix ix_tup (pv 0) pe_int (fun _ _ => rfl)) (pe_ix ix_list (pv 12) (pe_un un_neg pe_int) (fun _ _ => rfl)) (fun _ _ => rfl)) po_none (po_some pe_int)) pa_nil)) (pe_ix ix_list (pv 11) (pe_un un_neg pe_int) (fun _ _ => rfl))) pa_nil))))))
      (pss_one (ps_ret (pe_tup (pa_cons (pe_callTy call_tuple_of (by rfl) M.tuple (by decide +kernel) (pa_cons (pv 11) pa_nil)) (pa_cons (pe_op op_catU (pe_callTy call_tuple_of (by rfl) M.tuple (by decide +kernel) (pa_cons (pv 12) pa_nil)) (pe_tup (pa_cons (pv 2) pa_nil))) pa_nil))))))))))))), ?_⟩
    have n1 := ok.lo
    have n40 := ok.hi
    have few := ok.few
    obtain ⟨wa, wb, us, rfl, hwa, hwb, hp⟩ := id hW
    have kl := (List.getElem?_eq_some_iff.mp et).1
    have okt := ok.ok t (List.mem_of_getElem? et)
    obtain ⟨u, eu, tc, rfl, htc⟩ := Paired.at' hp et
    obtain ⟨qs, ns, way⟩ := way_ex ok.ok (Nat.le_refl _) (tie_reach et)
    have sl := stemsTo_len ts ts.length
    refine ⟨.ref wa, rfl, wa, _, 1, .ref wb, rfl, rfl, SqT.of hwa, rfl, .int k, rfl, wb, us, k, .ref tc, rfl, rfl, SqT.of hwb, atI_nat eu, tc, _, rfl, SqT.of htc, rfl, _, _, rfl, _, _, rfl, _, _, rfl, rfl, ?_⟩
    refine ⟨.ref wa, rfl, wa, _, 0, .int n, rfl, rfl, SqT.of hwa, rfl, n, rfl, by omega, by omega, fun L nL => ?_⟩
    rw [Int.toNat_natCast]
    refine lc_range (lo := 0) (n := n) (fun i H' => ∃ As : List Addr, As.length = i ∧ Bes H' L As (fun _ => []) ∧ (∀ x ∈ As, H x = none) ∧ Same H H') ⟨[], rfl, ⟨upd_same, List.nodup_nil, fun j a e => by simp at e, by simp⟩, fun x hx => by simp at hx, same_new nL⟩ ?_ ?_
    · rintro i H1 hi ⟨As, hl, hA, hf, s1⟩
      refine ⟨rfl, Nat.zero_le _, fun p np => ?_⟩
      have hA2 := hA.same (same_new (o := .lst []) np)
      obtain ⟨npL, npA⟩ := hA.off np
      refine ⟨_, hA2.at', by rw [List.length_map]; exact small1000 (by omega), As ++ [p], by rw [List.length_append, hl]; rfl, ⟨by rw [upd_same, List.map_append]; rfl, ?_, fun j x e => ?_, fun z => ?_⟩, fun x hx => ?_, Same.mut (s1.trans (same_new np)) nL⟩
      · rw [List.nodup_append]
        refine ⟨hA.nd, by simp, fun x hx y hy z => ?_⟩
        rw [List.mem_singleton] at hy
        subst hy
        subst z
        exact npA hx
      · have hx : x ≠ L := fun z => by
          subst z
          rcases List.mem_append.mp (List.mem_of_getElem? e) with h | h
          · exact hA.out h
          · exact npL (List.mem_singleton.mp h).symm
        rw [upd_ne hx]
        rcases List.mem_append.mp (List.mem_of_getElem? e) with h | h
        · obtain ⟨j2, e2⟩ := List.getElem?_of_mem h
          exact hA2.each j2 x e2
        · rw [List.mem_singleton] at h
          subst h
          exact upd_same
      · rcases List.mem_append.mp z with h | h
        · exact hA.out h
        · exact npL (List.mem_singleton.mp h).symm
      · rcases List.mem_append.mp hx with h | h
        · exact hf x h
        · rw [List.mem_singleton.mp h]
          exact s1.free np
    rintro H0 ⟨As, lA, hA, hf, s0⟩
    have tie1 : ∀ {H' : Hp}, Same H H' → ∀ m ∈ stemsTo ts ts.length, ∃ c, atI us m = some (.ref c) ∧ TieV H' (.ref c) (tieN ts m.toNat) ∧ TieOk n (tieN ts m.toNat) := fun {H'} s m hm => by
      obtain ⟨⟨m0, m1⟩, _⟩ := stemsTo_mem.mp hm
      have em := List.getElem?_eq_getElem (show m.toNat < ts.length by omega)
      obtain ⟨u, eu, c, rfl, hc⟩ := Paired.at' hp em
      rw [tieN_of em]
      exact ⟨c, atI_of m0 eu, ⟨c, rfl, s _ _ hc⟩, ok.ok _ (List.mem_of_getElem? em)⟩
    have at0 : ∀ {H' : Hp} {Nf : Nat → List Int}, Bes H' L As Nf → ∀ x : Int, 0 ≤ x → x < n → ∃ a, As[x.toNat]? = some a ∧ atI (As.map V.ref) x = some (.ref a) ∧ H' a = some (.lst ((Nf x.toNat).map V.int)) := fun {H' Nf} B x h0 h1 => by
      obtain ⟨a, fa, fa'⟩ := getI (xs := As) h0 (by omega)
      exact ⟨a, fa', atI_of h0 (by rw [List.getElem?_map, fa']; rfl), B.each _ _ fa'⟩
    refine ⟨.ref Ls, rfl, Ls, rfl, ⟨_, SqL.of (s0 _ _ hLs)⟩, ?_⟩
    refine for_list (xs := (stemsTo ts ts.length).map V.int) (fun i σ' H' => ∃ (y7 y8 : Option V), σ' = [some (.ref wa), some (.ref Ls), some (.int k), some (.int t.one), some (.int t.other), some (.str (kindS t.foe)), some (.ref L), y7, y8, none, none, none, none] ∧ Bes H' L As (fun j => touch ts ((stemsTo ts ts.length).take i) (j : Int)) ∧ Same H H') ⟨_, _, rfl, hA, s0⟩ (fun i σ' H' _ h => by
      obtain ⟨_, _, _, _, s⟩ := h
      exact SqL.of (s _ _ hLs)) ?_ ?_
    · clear hA s0
      rintro i x σ' H1 ex ⟨y7, y8, rfl, hA, s1⟩
      rw [List.getElem?_map] at ex
      obtain ⟨m, em, rfl⟩ := Option.map_eq_some_iff.mp ex
      obtain ⟨c, ec, ⟨c', e', hc⟩, o⟩ := tie1 s1 m (List.mem_of_getElem? em)
      cases e'
      have il := (List.getElem?_eq_some_iff.mp em).1
      have lt : ∀ p, (touch ts ((stemsTo ts ts.length).take i) p).length ≤ 120 := fun p => by
        have := List.length_filter_le (fun m => decide ((tieN ts m.toNat).one = p ∨ (tieN ts m.toNat).other = p)) ((stemsTo ts ts.length).take i)
        rw [List.length_take] at this
        unfold touch
        omega
      have tk : (stemsTo ts ts.length).take (i + 1) = (stemsTo ts ts.length).take i ++ [m] := take_snoc em
      have ts2 := touch_snoc (S := (stemsTo ts ts.length).take i) (m := m) rfl o
      obtain ⟨o1, o2, o3, o4, o5⟩ := o
      obtain ⟨a1, b1, b2, b3⟩ := at0 hA _ o1 o2
      refine ⟨.ref L, rfl, .ref wa, rfl, wa, _, 1, .ref wb, rfl, rfl, SqT.of (s1 _ _ hwa), rfl, .int m, rfl, wb, us, m, .ref c, rfl, rfl, SqT.of (s1 _ _ hwb), ec, c, _, 0, _, rfl, rfl, SqT.of hc, rfl, L, _, _, .ref a1, rfl, rfl, SqL.of hA.at', b2, .inl ⟨rfl, _, SqL.of b3⟩, .int m, rfl, a1, _, _, rfl, rfl, b3, by rw [List.length_map]; exact small1000 (by have := lt ((tieN ts m.toNat).one.toNat : Nat); omega), ?_⟩
      have P1 := hA.put (x := m) b1
      have s2 : Same H _ := Same.mut (o := .lst ((touch ts ((stemsTo ts ts.length).take i) ((tieN ts m.toNat).one.toNat : Nat)).map V.int ++ [.int m])) s1 (hf a1 (List.mem_of_getElem? b1))
      have k2 := tk_lst (ys := (touch ts ((stemsTo ts ts.length).take i) ((tieN ts m.toNat).one.toNat : Nat)).map V.int ++ [.int m]) b3
      have hc2 := k2 _ _ hc
      generalize upd H1 a1 (.lst ((touch ts ((stemsTo ts ts.length).take i) ((tieN ts m.toNat).one.toNat : Nat)).map V.int ++ [.int m])) = H2 at P1 s2 k2 hc2
      obtain ⟨a2, d1, d2, d3⟩ := at0 P1 _ o3 o4
      refine ⟨.ref L, rfl, .ref wa, rfl, wa, _, 1, .ref wb, rfl, rfl, SqT.of (s2 _ _ hwa), rfl, .int m, rfl, wb, us, m, .ref c, rfl, rfl, SqT.of (s2 _ _ hwb), ec, c, _, 1, _, rfl, rfl, SqT.of hc2, rfl, L, _, _, .ref a2, rfl, rfl, SqL.of P1.at', d2, .inl ⟨rfl, _, SqL.of d3⟩, .int m, rfl, a2, _, _, rfl, rfl, d3, by rw [List.length_map]; refine small1000 ?_; have := lt ((tieN ts m.toNat).other.toNat : Nat); rw [List.length_append]; split <;> simp only [List.length_cons, List.length_nil] <;> omega, ?_⟩
      have P2 := P1.put (x := m) d1
      refine ⟨_, _, rfl, ?_, Same.mut s2 (hf a2 (List.mem_of_getElem? d1))⟩
      rw [tk, ts2]
      exact P2
    rintro σ' H1 ⟨y7, y8, rfl, hA, s1⟩
    rw [List.length_map, List.take_length] at hA
    have F : Fst (nN ts (stemsTo ts ts.length)) := fst_stems ok.ok
    have lf0 : Lfs (nN ts (stemsTo ts ts.length)) ns (touch ts (stemsTo ts ts.length)) := touch_lfs ((stemsTo_rising ts ts.length).imp fun h => Int.ne_of_lt h) way
    have bnd : ∀ p, (touch ts (stemsTo ts ts.length) p).length ≤ 120 := fun p => by
      have := List.length_filter_le (fun m => decide ((tieN ts m.toNat).one = p ∨ (tieN ts m.toNat).other = p)) (stemsTo ts ts.length)
      unfold touch
      omega
    refine ⟨.ref wa, rfl, wa, _, 0, .int n, rfl, rfl, SqT.of (s1 _ _ hwa), rfl, n, rfl, by omega, by omega, fun Z nZ => ?_⟩
    rw [Int.toNat_natCast]
    refine lc_range (lo := 0) (n := n) (fun i H' => ∃ zs : List Int, H' Z = some (.lst (zs.map V.int)) ∧ (∀ p ∈ zs, 0 ≤ p ∧ p < n ∧ p ≠ t.one ∧ p ≠ t.other) ∧ zs.length ≤ i ∧ (∀ p : Int, 0 ≤ p → p < i → p ≠ t.one → p ≠ t.other → (touch ts (stemsTo ts ts.length) p).length = 1 → p ∈ zs) ∧ Same H1 H') ⟨[], upd_same, (fun p hp => by cases hp), Nat.le_refl _, fun p h0 h1 => absurd h1 (by omega), same_new nZ⟩ ?_ ?_
    · rintro i H2 hi ⟨zs, hZ, zr, zl, zc, s2⟩
      rw [show (0 : Int) + (i : Nat) = i from by omega]
      have hA2 := hA.same s2
      obtain ⟨a1, b1, b2, b3⟩ := at0 hA2 (i : Int) (by omega) (by omega)
      rw [Int.toNat_natCast] at b3
      refine ⟨rfl, .ref L, rfl, .int i, rfl, L, _, _, .ref a1, rfl, rfl, SqL.of hA2.at', b2, a1, _, rfl, .inl (SqL.of b3), rfl, _, rfl, ?_⟩
      rw [List.length_map]
      by_cases h1 : (touch ts (stemsTo ts ts.length) (i : Int)).length = 1
      · rw [decide_eq_true (show V.int (((touch ts (stemsTo ts ts.length) (i : Int)).length : Nat) : Int) = V.int 1 by rw [h1]; rfl)]
        refine ⟨.int i, rfl, .int t.one, rfl, .int t.other, rfl, by show 2 ≤ sizeLine; decide, fun T nT => ?_⟩
        have sT := same_new (o := .tup [.int t.one, .int t.other]) nT
        refine ⟨T, _, rfl, .inr (SqT.of upd_same), rfl, rfl, _, rfl, ?_⟩
        rw [if_pos rfl, inTwo]
        have hZT := sT _ _ hZ
        by_cases e : (i : Int) = t.one ∨ (i : Int) = t.other
        · rw [decide_eq_true e]
          refine ⟨zs, hZT, zr, by omega, fun p p0 p1 e1 e2 hl => ?_, s2.trans sT⟩
          by_cases ep : p = (i : Int)
          · rw [ep] at e1 e2; exact absurd e (fun z => z.elim e1 e2)
          · exact zc p p0 (by omega) e1 e2 hl
        · rw [decide_eq_false e]
          refine ⟨.int i, rfl, _, hZT, by rw [List.length_map]; exact small1000 (by omega), zs ++ [(i : Int)], by rw [upd_same, List.map_append]; rfl, fun p hp => ?_, by rw [List.length_append]; simp only [List.length_cons, List.length_nil]; omega, fun p p0 p1 e1 e2 hl => ?_, Same.mut (s2.trans sT) nZ⟩
          · rcases List.mem_append.mp hp with h | h
            · exact zr p h
            · rw [List.mem_singleton.mp h]
              exact ⟨by omega, by omega, fun z => e (.inl z), fun z => e (.inr z)⟩
          · by_cases ep : p = (i : Int)
            · rw [ep]; simp
            · exact List.mem_append_left _ (zc p p0 (by omega) e1 e2 hl)
      · rw [decide_eq_false (show ¬ V.int (((touch ts (stemsTo ts ts.length) (i : Int)).length : Nat) : Int) = V.int 1 from fun z => h1 (by have := V.int.inj z; omega))]
        refine ⟨zs, hZ, zr, by omega, fun p p0 p1 e1 e2 hl => ?_, s2⟩
        by_cases e : p = (i : Int)
        · rw [e] at hl; exact absurd hl h1
        · exact zc p p0 (by omega) e1 e2 hl
    rintro H2 ⟨zs, hZ, zr, zl, zc, s2⟩
    have nZ0 : H Z = none := s1.free nZ
    obtain ⟨zL, zA⟩ := hA.off nZ
    have hA2 := hA.same s2
    have s02 := s1.trans s2
    refine ⟨fun m σ' H' => ∃ (y7 y8 y10 : Option V) (Lf : Int → List Int) (zs : List Int), σ' = [some (.ref wa), some (.ref Ls), some (.int k), some (.int t.one), some (.int t.other), some (.str (kindS t.foe)), some (.ref L), y7, y8, some (.ref Z), y10, none, none] ∧ Bes H' L As (fun j => Lf (j : Int)) ∧ Lfs (nN ts (stemsTo ts ts.length)) ns Lf ∧ H' Z = some (.lst (zs.map V.int)) ∧ (∀ p ∈ zs, 0 ≤ p ∧ p < n ∧ p ≠ t.one ∧ p ≠ t.other) ∧ (∀ p : Int, 0 ≤ p → p < n → p ≠ t.one → p ≠ t.other → (Lf p).length = 1 → p ∈ zs) ∧ (∀ p, (Lf p).length ≤ 120) ∧ m = zs.length + full n Lf ∧ m ≤ 80 ∧ Same H H', ⟨_, _, _, _, _, zs, rfl, hA2, lf0, hZ, zr, zc, bnd, rfl, by have := full_le n (touch ts (stemsTo ts ts.length)); omega, s02⟩, ?_⟩
    clear hA2 s02 hZ zr zc zl s2 bnd lf0 hA s1
    rintro m σ' H3 ⟨y7, y8, y10, Lf, zs, rfl, B, lf, hZ, zr, zc, bd, em, m80, s3⟩
    refine ⟨.ref Z, rfl, Nat.zero_le _, fun E1 nE => ⟨Z, E1, _, rfl, rfl, SqL.of (same_new nE _ _ hZ), SqL.of upd_same, _, rfl, ?_⟩⟩
    have sE := same_new (o := .lst []) nE
    have B4 := B.same sE
    have hZ4 := sE _ _ hZ
    have s4 := s3.trans sE
    generalize upd H3 E1 (.lst []) = H4 at B4 hZ4 s4
    clear B hZ s3 sE nE
    rcases List.eq_nil_or_concat zs with rfl | ⟨ws, p, rfl⟩
    · have only : ∀ p ∈ qs, ∀ m ∈ Lf p, m ∈ ns := fun p hp m hm => lf.only F way (fun p e1 e2 hl => by
        cases hL : Lf p with
        | nil => rw [hL] at hl; cases hl
        | cons x r =>
          obtain ⟨q, kq⟩ := lf.mem p x (by rw [hL]; simp)
          obtain ⟨r1, _⟩ := stems_in ok.ok kq
          have := zc p r1.1 r1.2 e2 e1 hl
          cases this) (n := n) (fun p q hq => (stems_in ok.ok hq).1) hp hm
      have lq := way.len
      have fq := pigeon n qs way.nodup fun x hx => by
        rcases List.mem_iff_getElem?.mp hx with ⟨j, hj⟩
        have jl := (List.getElem?_eq_some_iff.mp hj).1
        by_cases h : j < ns.length
        · obtain ⟨x', y, m, g1, g2, g3, g4⟩ := way.each j h
          rw [hj] at g1
          cases g1
          exact (stems_in ok.ok g4).1
        · have ej : j = ns.length := by omega
          subst ej
          have := way.last
          rw [hj] at this
          cases this
          obtain ⟨_, _, o3, o4, _⟩ := okt
          exact ⟨o3, o4⟩
      refine ⟨.int t.one, rfl, by show 1 ≤ sizeLine; decide, fun P nP => ⟨by show 0 ≤ sizeLine; decide, fun T nT => ?_⟩⟩
      have sP := same_new (o := .lst [.int t.one]) nP
      have sT := same_new (o := .lst []) nT
      have hPT : P ≠ T := fun z => by rw [← z, upd_same] at nT; cases nT
      have nT4 : H4 T = none := by rw [upd_ne (Ne.symm hPT)] at nT; exact nT
      obtain ⟨P1, P2⟩ := B4.off nP
      obtain ⟨T1, T2⟩ := B4.off nT4
      have nP0 := s4.free nP
      have nT0 := s4.free nT4
      have hP5 := sT _ _ (upd_same (H := H4) (a := P) (o := .lst [.int t.one]))
      have hT5 := upd_same (H := upd H4 P (.lst [.int t.one])) (a := T) (o := .lst [])
      have B5 := B4.same (sP.trans sT)
      have s5 := s4.trans (sP.trans sT)
      generalize upd (upd H4 P (.lst [.int t.one])) T (.lst []) = H5 at hP5 hT5 B5 s5
      have q1 : qs.take 1 = [t.one] := by
        obtain ⟨r, e⟩ := way.hd
        rw [e]
        rfl
      refine ⟨fun m σ' H' => ∃ (j : Nat) (y7 y8 y10 : Option V), σ' = [some (.ref wa), some (.ref Ls), some (.int k), some (.int t.one), some (.int t.other), some (.str (kindS t.foe)), some (.ref L), y7, y8, some (.ref Z), y10, some (.ref P), some (.ref T)] ∧ Bes H' L As (fun j => Lf (j : Int)) ∧ H' P = some (.lst ((qs.take (j + 1)).map V.int)) ∧ H' T = some (.lst ((ns.take j).map V.int)) ∧ j ≤ ns.length ∧ m = ns.length - j ∧ Same H H', ⟨_, 0, _, _, _, rfl, B5, by rw [q1]; exact hP5, hT5, Nat.zero_le _, rfl, s5⟩, ?_⟩
      clear hP5 hT5 B5 s5 B4 hZ4 s4 nT nP sP sT zr zc
      rintro m σ' H6 ⟨j, y7, y8, y10, rfl, B, hP, hT, jl, em, s6⟩
      have lP : ((qs.take (j + 1)).map V.int).length = j + 1 := by rw [List.length_map, List.length_take]; omega
      have lT : ((ns.take j).map V.int).length = j := by rw [List.length_map, List.length_take]; omega
      obtain ⟨x, ex⟩ : ∃ x, qs[j]? = some x := ⟨_, List.getElem?_eq_getElem (show j < qs.length by omega)⟩
      have xl : atI ((qs.take (j + 1)).map V.int) (-1) = some (.int x) := atI_m1 lP (by rw [List.getElem?_map, List.getElem?_take_of_lt (by omega), ex]; rfl)
      refine ⟨.ref P, rfl, 1, rfl, P, _, -1, .int x, rfl, rfl, SqL.of hP, xl, .int t.other, rfl, rfl, _, rfl, ?_⟩
      by_cases jn : j = ns.length
      · have ext : x = t.other := by
          have := way.last
          rw [← jn, ex] at this
          exact Option.some.inj this
        rw [ext, decide_eq_true rfl]
        rw [show qs.take (j + 1) = qs from List.take_of_length_le (by omega)] at hP
        rw [show ns.take j = ns from List.take_of_length_le (by omega)] at hT
        refine ⟨.ref P, rfl, P, _, rfl, .inl ⟨SqL.of hP, fun R1 nR1 => ?_⟩⟩
        have e1 := same_new (o := .tup (qs.map V.int)) nR1
        refine ⟨.ref T, rfl, T, _, rfl, .inl ⟨SqL.of (e1 _ _ hT), fun R2 nR2 => ?_⟩⟩
        have e2 := same_new (o := .tup (ns.map V.int)) nR2
        refine ⟨.int k, rfl, by show 1 ≤ sizeLine; decide, fun R3 nR3 => ?_⟩
        have e3 := same_new (o := .tup [.int k]) nR3
        refine ⟨R2, R3, _, _, rfl, rfl, e3 _ _ upd_same, upd_same, by rw [List.length_map]; show ns.length + 1 ≤ 100000; omega, fun r2 H9 s9 h9 => ⟨by show 2 ≤ sizeLine; decide, fun G nG => ?_⟩⟩
        have sG := same_new (o := .tup [.ref R1, .ref r2]) nG
        have t3 := e3.trans (s9.trans sG)
        refine q G qs ns _ way (s6.trans (e1.trans (e2.trans t3))) ⟨R1, r2, upd_same, (e2.trans t3) _ _ upd_same, sG _ _ ?_⟩
        rw [h9, List.map_append]
        rfl
      · have xt : x ≠ t.other := fun z => by
          have a := way.last
          rw [← z] at a
          have := (List.getElem?_inj (show j < qs.length by omega) way.nodup).mp (ex.trans a.symm)
          omega
        rw [decide_eq_false (fun z => xt (V.int.inj z))]
        refine ⟨_, fun _ _ h => h, ?_⟩
        obtain ⟨x', y, mm, g1, g2, g3, g4⟩ := way.each j (by omega)
        rw [ex] at g1
        cases g1
        obtain ⟨⟨x0, x1⟩, _⟩ := stems_in ok.ok g4
        obtain ⟨mS, jq⟩ := mem_nN.mp g4
        obtain ⟨r, nxt⟩ := lf.next F way only ex g3
        obtain ⟨a1, b1, b2, b3⟩ := at0 B x x0 x1
        rw [show ((x.toNat : Nat) : Int) = x by omega] at b3
        refine ⟨.ref T, rfl, .inl ⟨rfl, _, SqL.of hT⟩, .ref L, rfl, .ref P, rfl, 1, rfl, P, _, -1, .int x, rfl, rfl, SqL.of hP, xl, L, _, x, .ref a1, rfl, rfl, SqL.of B.at', b2, a1, rfl, ⟨_, SqL.of b3⟩, fun Y nY => ?_⟩
        refine lc_list (K := K) (xs := (Lf x).map V.int) (fun i H' => H' Y = some (.lst ((((Lf x).take i).filter (fun z => !decide (z ∈ ns.take j))).map V.int)) ∧ Same H6 H') ⟨upd_same, same_new nY⟩ (fun i H' _ h => SqL.of (h.2 _ _ b3)) ?_ ?_
        · rintro i v H7 ev ⟨hY, s7⟩
          rw [List.getElem?_map] at ev
          obtain ⟨z, ez, rfl⟩ := Option.map_eq_some_iff.mp ev
          refine ⟨rfl, .int z, rfl, .ref T, rfl, T, _, rfl, .inl (SqL.of (s7 _ _ hT)), rfl, flat80 _, _, rfl, ?_⟩
          rw [if_pos rfl, inV80, take_snoc ez, List.filter_append]
          have lf : (((Lf x).take i).filter (fun z => !decide (z ∈ ns.take j))).length ≤ 120 := by
            have a := List.length_filter_le (fun z => !decide (z ∈ ns.take j)) ((Lf x).take i)
            rw [List.length_take] at a
            have := bd x
            omega
          by_cases hz : z ∈ ns.take j
          · rw [decide_eq_true hz]
            rw [List.filter_cons, decide_eq_true hz]
            show H7 Y = some (.lst ((_ ++ []).map V.int)) ∧ _
            rw [List.append_nil]
            exact ⟨hY, s7⟩
          · rw [decide_eq_false hz]
            refine ⟨.int z, rfl, _, hY, by rw [List.length_map]; exact small1000 (by omega), ?_, Same.mut s7 nY⟩
            rw [upd_same, List.filter_cons, decide_eq_false hz, List.map_append]
            rfl
        rintro H7 ⟨hY, s7⟩
        rw [List.length_map, List.take_length, nxt] at hY
        refine ⟨Y, _, 0, .int mm, rfl, rfl, SqL.of hY, (by show atI _ ((0 : Nat) : Int) = _; exact atI_nat rfl), T, _, _, rfl, rfl, s7 _ _ hT, by rw [lT]; exact small1000 (by omega), ?_⟩
        have B8 := (B.same s7).mut (o := .lst ((ns.take j).map V.int ++ [.int mm])) T1 T2
        have hP8 : upd H7 T (.lst ((ns.take j).map V.int ++ [.int mm])) P = _ := (upd_ne hPT).trans (s7 _ _ hP)
        have hT8 := upd_same (H := H7) (a := T) (o := .lst ((ns.take j).map V.int ++ [.int mm]))
        have s8 := Same.mut (o := .lst ((ns.take j).map V.int ++ [.int mm])) (s6.trans s7) nT0
        generalize upd H7 T (.lst ((ns.take j).map V.int ++ [.int mm])) = H8 at B8 hP8 hT8 s8
        have tT : ns.take (j + 1) = ns.take j ++ [mm] := take_snoc g3
        have tP : qs.take (j + 1 + 1) = qs.take (j + 1) ++ [y] := take_snoc g2
        obtain ⟨c, ec, ⟨c', e', hc⟩, o⟩ := tie1 s8 mm mS
        cases e'
        have ml : atI ((ns.take j).map V.int ++ [.int mm]) (-1) = some (.int mm) := atI_m1 (L := j) (by rw [List.length_append, lT]; rfl) (by rw [List.getElem?_append_right (by omega), lT, Nat.sub_self]; rfl)
        refine ⟨.ref P, rfl, .inl ⟨rfl, _, SqL.of hP8⟩, .ref wa, rfl, wa, _, 1, .ref wb, rfl, rfl, SqT.of (s8 _ _ hwa), rfl, .ref T, rfl, 1, rfl, T, _, -1, .int mm, rfl, rfl, SqL.of hT8, ml, wb, us, mm, .ref c, rfl, rfl, SqT.of (s8 _ _ hwb), ec, 2, rfl, c, _, rfl, hc, fun r9 H9 s9 hr9 => ⟨r9, [(tieN ts mm.toNat).one, (tieN ts mm.toNat).other], rfl, SqT.of hr9, .ref P, rfl, 1, rfl, P, _, -1, .int x, rfl, rfl, SqL.of (s9 _ _ hP8), xl, _, x, rfl, rfl, P, _, _, rfl, rfl, s9 _ _ hP8, by rw [lP]; exact small1000 (by omega), ?_⟩⟩
        have ey : [(tieN ts mm.toNat).one, (tieN ts mm.toNat).other].sum - x = y := by
          have es : [(tieN ts mm.toNat).one, (tieN ts mm.toNat).other].sum = (tieN ts mm.toNat).one + (tieN ts mm.toNat).other := by simp
          rw [es]
          have jq : Jn (tieN ts mm.toNat) x y := jq
          rcases jq with ⟨x1, x2⟩ | ⟨x1, x2⟩
          · omega
          · omega
        refine ⟨ns.length - (j + 1), by omega, j + 1, _, _, _, rfl, (B8.same s9).mut P1 P2, ?_, ?_, by omega, rfl, Same.mut (s8.trans s9) nP0⟩
        · rw [upd_same, tP, List.map_append]
          show some (HO.lst ((qs.take (j + 1)).map V.int ++ [V.int ([(tieN ts mm.toNat).one, (tieN ts mm.toNat).other].sum - x)])) = _
          rw [ey]
          rfl
        · rw [upd_ne (Ne.symm hPT), s9 _ _ hT8, tT, List.map_append]
          rfl
    · have ec : ws.concat p = ws ++ [p] := List.concat_eq_append ..
      rw [ec] at zr zc hZ4 em ⊢
      rw [show (!((ws ++ [p]).map V.int).isEmpty) = true by cases ws <;> rfl]
      refine ⟨_, fun _ _ h => h, ?_⟩
      obtain ⟨p0, p1, pe1, pe2⟩ := zr p (by simp)
      refine ⟨.ref Z, rfl, .inl ⟨rfl, _, SqL.of hZ4⟩, Z, _, .int p, rfl, rfl, hZ4, by simp, ?_⟩
      rw [show ((ws ++ [p]).map V.int).dropLast = ws.map V.int by rw [List.map_append]; exact List.dropLast_concat]
      have B5 := B4.mut (o := .lst (ws.map V.int)) zL zA
      have hZ5 := upd_same (H := H4) (a := Z) (o := .lst (ws.map V.int))
      have s5 := Same.mut (o := .lst (ws.map V.int)) s4 nZ0
      generalize upd H4 Z (.lst (ws.map V.int)) = H5 at B5 hZ5 s5
      obtain ⟨a1, b1, b2, b3⟩ := at0 B5 p p0 p1
      have ep : ((p.toNat : Nat) : Int) = p := by omega
      rw [ep] at b3
      refine ⟨.ref L, rfl, .int p, rfl, L, _, _, .ref a1, rfl, rfl, SqL.of B5.at', b2, a1, _, rfl, .inl (SqL.of b3), rfl, _, rfl, ?_⟩
      rw [List.length_map]
      rw [List.length_append] at em
      simp only [List.length_cons, List.length_nil] at em
      by_cases h1 : (Lf p).length = 1
      · rw [decide_eq_true (show V.int (((Lf p).length : Nat) : Int) = V.int 1 by rw [h1]; rfl)]
        obtain ⟨mm, eL⟩ : ∃ mm, Lf p = [mm] := by
          cases hl : Lf p with
          | nil => rw [hl] at h1; cases h1
          | cons x r =>
            cases r with
            | nil => exact ⟨x, rfl⟩
            | cons _ _ => rw [hl] at h1; simp at h1
        obtain ⟨q', kq⟩ := lf.mem p mm (by rw [eL]; simp)
        obtain ⟨mS, jq⟩ := mem_nN.mp kq
        have lf2 := lf.peel F way eL pe2 pe1 kq
        obtain ⟨_, qr⟩ := stems_in ok.ok kq
        obtain ⟨q0, q1⟩ : 0 ≤ q' ∧ q' < n := qr
        have npq : q' ≠ p := F.irr kq
        obtain ⟨c, ec, ⟨c', e', hc⟩, o⟩ := tie1 s5 mm mS
        cases e'
        have b3' := b3
        rw [eL] at b3'
        refine ⟨.ref L, rfl, .int p, rfl, L, _, _, .ref a1, rfl, rfl, SqL.of B5.at', b2, .inl ⟨rfl, _, SqL.of b3⟩, a1, _, .int mm, rfl, rfl, b3', rfl, ?_⟩
        have B6 := B5.set (zs := []) b1
        have s6 := Same.mut (o := .lst (([] : List Int).map V.int)) s5 (hf a1 (List.mem_of_getElem? b1))
        have hc6 := tk_lst (ys := ([] : List Int).map V.int) b3 _ _ hc
        have hZ6 : upd H5 a1 (.lst (([] : List Int).map V.int)) Z = _ := (upd_ne (fun z => zA (by rw [z]; exact List.mem_of_getElem? b1))).trans hZ5
        generalize hH6 : upd H5 a1 (.lst (([] : List Int).map V.int)) = H6 at B6 s6 hc6 hZ6
        rw [show upd H5 a1 (.lst (([mm].map V.int).dropLast)) = H6 from hH6]
        refine ⟨.ref wa, rfl, wa, _, 1, .ref wb, rfl, rfl, SqT.of (s6 _ _ hwa), rfl, .int mm, rfl, wb, us, mm, .ref c, rfl, rfl, SqT.of (s6 _ _ hwb), ec, 2, rfl, c, _, rfl, hc6, fun r H7 s7 hr7 => ⟨r, [(tieN ts mm.toNat).one, (tieN ts mm.toNat).other], rfl, SqT.of hr7, .int p, rfl, _, p, rfl, rfl, ?_⟩⟩
        have eq' : [(tieN ts mm.toNat).one, (tieN ts mm.toNat).other].sum - p = q' := by
          have es : [(tieN ts mm.toNat).one, (tieN ts mm.toNat).other].sum = (tieN ts mm.toNat).one + (tieN ts mm.toNat).other := by simp
          rw [es]
          have jq : Jn (tieN ts mm.toNat) p q' := jq
          rcases jq with ⟨x1, x2⟩ | ⟨x1, x2⟩
          · omega
          · omega
        show (tSeq _ _ : L2.TS) _ [some (.ref wa), some (.ref Ls), some (.int k), some (.int t.one), some (.int t.other), some (.str (kindS t.foe)), some (.ref L), some (.int p), some (.int mm), some (.ref Z), some (.int ([(tieN ts mm.toNat).one, (tieN ts mm.toNat).other].sum - p)), none, none] H7
        rw [eq']
        have B7 := B6.same s7
        have hZ7 := s7 _ _ hZ6
        have s07 := s6.trans s7
        obtain ⟨a2, d1, d2, d3⟩ := at0 B7 q' q0 q1
        have eqn : ((q'.toNat : Nat) : Int) = q' := by omega
        rw [if_neg (show ¬ q'.toNat = p.toNat by omega), eqn] at d3
        have mmq : mm ∈ Lf q' := lf.two p q' mm (by rw [eL]; simp) kq
        refine ⟨.ref L, rfl, .int q', rfl, L, _, _, .ref a2, rfl, rfl, SqL.of B7.at', d2, .inl ⟨rfl, _, SqL.of d3⟩, .int mm, rfl, a2, _, mm, rfl, rfl, d3, fun _ => ?_, fun hk => absurd mmq hk⟩
        have B8 := B7.set (zs := (Lf q').erase mm) d1
        have ef : (fun i : Nat => if i = q'.toNat then (Lf q').erase mm else if i = p.toNat then [] else Lf (i : Int)) = fun j : Nat => peel Lf p q' mm (j : Int) := by
          funext i
          unfold peel
          by_cases x1 : i = q'.toNat
          · rw [if_pos x1, if_neg (show ¬ (i : Int) = p by omega), if_pos (show (i : Int) = q' by omega)]
          · rw [if_neg x1]
            by_cases x2 : i = p.toNat
            · rw [if_pos x2, if_pos (show (i : Int) = p by omega)]
            · rw [if_neg x2, if_neg (show ¬ (i : Int) = p by omega), if_neg (show ¬ (i : Int) = q' by omega)]
        rw [ef] at B8
        have s8 := Same.mut (o := .lst (((Lf q').erase mm).map V.int)) s07 (hf a2 (List.mem_of_getElem? d1))
        have hZ8 : upd H7 a2 (.lst (((Lf q').erase mm).map V.int)) Z = _ := (upd_ne (fun z => zA (by rw [z]; exact List.mem_of_getElem? d1))).trans hZ7
        generalize upd H7 a2 (.lst (((Lf q').erase mm).map V.int)) = H8 at B8 s8 hZ8
        have fp := full_peel (n := n) (q := q') p0 p1 eL
        have bd2 : ∀ x, (peel Lf p q' mm x).length ≤ 120 := fun x => by
          unfold peel
          split
          · exact Nat.zero_le _
          · split
            · have := List.length_erase_le (a := mm) (l := Lf q'); have := bd q'; omega
            · exact bd x
        have other : ∀ x : Int, x ≠ q' → (peel Lf p q' mm x).length = 1 → (Lf x).length = 1 ∧ x ≠ p := fun x xq hl => by
          unfold peel at hl
          by_cases xp : x = p
          · rw [if_pos xp] at hl
            cases hl
          · rw [if_neg xp, if_neg xq] at hl
            exact ⟨hl, xp⟩
        have comp : ∀ x : Int, 0 ≤ x → x < n → x ≠ t.one → x ≠ t.other → x ≠ q' → (peel Lf p q' mm x).length = 1 → x ∈ ws := fun x x0 x1 e1 e2 xq hl => by
          obtain ⟨hl, xp⟩ := other x xq hl
          rcases List.mem_append.mp (zc x x0 x1 e1 e2 hl) with h | h
          · exact h
          · exact absurd (List.mem_singleton.mp h) xp
        obtain ⟨a3, g1, g2, g3⟩ := at0 B8 q' q0 q1
        rw [eqn] at g3
        refine ⟨.ref L, rfl, .int q', rfl, L, _, _, .ref a3, rfl, rfl, SqL.of B8.at', g2, a3, _, rfl, .inl (SqL.of g3), rfl, _, rfl, ?_⟩
        rw [List.length_map]
        by_cases hl : (peel Lf p q' mm q').length = 1
        · rw [decide_eq_true (show V.int (((peel Lf p q' mm q').length : Nat) : Int) = V.int 1 by rw [hl]; rfl)]
          refine ⟨.int q', rfl, .int t.one, rfl, .int t.other, rfl, by show 2 ≤ sizeLine; decide, fun T nT => ?_⟩
          have sT := same_new (o := .tup [.int t.one, .int t.other]) nT
          refine ⟨T, _, rfl, .inr (SqT.of upd_same), rfl, rfl, _, rfl, ?_⟩
          rw [if_pos rfl, inTwo]
          have B9 := B8.same sT
          have hZ9 := sT _ _ hZ8
          have s9 := s8.trans sT
          by_cases e : q' = t.one ∨ q' = t.other
          · rw [decide_eq_true e]
            refine ⟨_, (show ws.length + full n (peel Lf p q' mm) < m by omega), _, _, _, peel Lf p q' mm, ws, rfl, B9, lf2, hZ9, fun x hx => zr x (by simp [hx]), fun x x0 x1 e1 e2 hl => ?_, bd2, rfl, by omega, s9⟩
            by_cases xq : x = q'
            · rw [xq] at e1 e2; exact absurd e (fun z => z.elim e1 e2)
            · exact comp x x0 x1 e1 e2 xq hl
          · rw [decide_eq_false e]
            refine ⟨.ref Z, rfl, .inl ⟨rfl, _, SqL.of hZ9⟩, .int q', rfl, Z, _, _, rfl, rfl, hZ9, by rw [List.length_map]; exact small1000 (by omega), ?_⟩
            refine ⟨_, (show (ws ++ [q']).length + full n (peel Lf p q' mm) < m by rw [List.length_append]; simp only [List.length_cons, List.length_nil]; omega), _, _, _, peel Lf p q' mm, ws ++ [q'], rfl, B9.mut zL zA, lf2, by rw [upd_same, List.map_append]; rfl, fun x hx => ?_, fun x x0 x1 e1 e2 hl => ?_, bd2, rfl, by rw [List.length_append]; simp only [List.length_cons, List.length_nil]; omega, Same.mut s9 nZ0⟩
            · rcases List.mem_append.mp hx with h | h
              · exact zr x (by simp [h])
              · rw [List.mem_singleton.mp h]
                exact ⟨q0, q1, fun z => e (.inl z), fun z => e (.inr z)⟩
            · by_cases xq : x = q'
              · rw [xq]; simp
              · exact List.mem_append_left _ (comp x x0 x1 e1 e2 xq hl)
        · rw [decide_eq_false (show ¬ V.int (((peel Lf p q' mm q').length : Nat) : Int) = V.int 1 from fun z => hl (by have := V.int.inj z; omega))]
          refine ⟨_, (show ws.length + full n (peel Lf p q' mm) < m by omega), _, _, _, peel Lf p q' mm, ws, rfl, B8, lf2, hZ8, fun x hx => zr x (by simp [hx]), fun x x0 x1 e1 e2 hl2 => ?_, bd2, rfl, by omega, s8⟩
          by_cases xq : x = q'
          · rw [xq] at hl2; exact absurd hl2 hl
          · exact comp x x0 x1 e1 e2 xq hl2
      · rw [decide_eq_false (show ¬ V.int (((Lf p).length : Nat) : Int) = V.int 1 from fun z => h1 (by have := V.int.inj z; omega))]
        refine ⟨_, (show ws.length + full n Lf < m by omega), _, _, _, Lf, ws, rfl, B5, lf, hZ5, fun x hx => zr x (by simp [hx]), fun x x0 x1 e1 e2 hl => ?_, bd, rfl, by omega, s5⟩
        rcases List.mem_append.mp (zc x x0 x1 e1 e2 hl) with h | h
        · exact h
        · rw [List.mem_singleton.mp h] at hl
          exact absurd hl h1
end
theorem way_short {n : Nat} {ts : List Tie} (ok : ∀ t ∈ ts, TieOk n t) {e c : Int} (he : 0 ≤ e ∧ e < n) {qs ns : List Int} (way : Way (nN ts (stemsTo ts ts.length)) e c qs ns) : qs.length ≤ n := pigeon n qs way.nodup fun x hx => by
  have lq := way.len
  rcases List.mem_iff_getElem?.mp hx with ⟨j, hj⟩
  have jl := (List.getElem?_eq_some_iff.mp hj).1
  by_cases h : j < ns.length
  · obtain ⟨x', y, m, g1, g2, g3, g4⟩ := way.each j h
    rw [hj] at g1
    cases g1
    exact (stems_in ok g4).1
  · have ej : j = ns.length := by omega
    subst ej
    have := way.last
    rw [hj] at this
    cases this
    exact he
/-! ### k24: plain -/
def spPlain : Sp := fun vs H Q _ => ∃ (v : V) (n : Nat) (ts : List Tie), vs = [v] ∧ WebAt H v n ts ∧ WebOk n ts ∧ ∀ (u : V) (H' : Hp) (c : Int → Bool), HoldsS c ts (stemsTo ts ts.length) → Same H H' → WebAt H' u n (ts.map (colT c)) → Q u H'
theorem ones_len (ss : List Int) (k : Nat) : (onesTo ss k).length ≤ k := onesTo_len ss k
section
variable {P : Program} {w : World} {K : PySem.W.Frag} {mg : Str → Option Value} {base : Heap}
set_option maxHeartbeats 1000000 in
theorem ok_plain {f : Addr} {fd : FuncData} (F : Fun K "plain" "plain" s_plain f fd) (M : Free mg) (D_stems : Df P w K mg base 1 "stems" ["web"] spStems) (D_sides_of : Df P w K mg base 3 "sides_of" ["web"] spFixed) (D_places_turned : Df P w K mg base 1 "places_turned" ["sides"] spOnes) (D_turned : Df P w K mg base 2 "turned" ["web", "places"] (spTurned K)) : FnOk P w K mg base CX0 4 f fd ["web"] spPlain := by
  obtain ⟨f_stems, fd_stems, G_stems, g_stems, k_stems, b_stems⟩ := D_stems
  obtain ⟨f_sides_of, fd_sides_of, G_sides_of, g_sides_of, k_sides_of, b_sides_of⟩ := D_sides_of
  obtain ⟨f_places_turned, fd_places_turned, G_places_turned, g_places_turned, k_places_turned, b_places_turned⟩ := D_places_turned
  obtain ⟨f_turned, fd_turned, G_turned, g_turned, k_turned, b_turned⟩ := D_turned
  refine F.ok sc_plain (fun vs H Q E h => ?_) (fun cdv A outer s H vs Q E hr h => ?_)
  · obtain ⟨v, n, ts, rfl, _⟩ := h
    rfl
  · obtain ⟨v, n, ts, rfl, hW, ok, q⟩ := h
    refine ⟨_, (pss_cons (ps_set (i := 1) sc_plain.nd rfl (.inl rfl) (pe_tup (pa_cons (pe_ix ix_tup (pv 0) pe_int (fun _ _ => rfl)) (pa_cons (pe_callTy call_tuple_of (by rfl) M.tuple (by decide +kernel) (pa_cons (pe_lc (own := [("number", 2)]) (g := (gName 2)) (tt := tYes) rfl sc_plain.nd (pi_tup (pe_call G_stems (hr.mono (by decide)) (by rfl) g_stems k_stems b_stems .nil pass0 (pa_cons (pv 0) pa_nil))) (blkOk_by (N := N_plain) (sc := defScope s_plain) (own := [("number", 2)]) (by decide +kernel)) (fun _ _ _ _ _ => (pg_name (i := 2) sc_plain.nd rfl (.inl rfl))) (fun _ _ _ _ _ => pts_nil) (fun _ _ _ _ _ => (pe_ix (r := rIxT K) ix_tup (pe_ix (r := rIxT K) ix_tup (pv 0) pe_int (fun _ _ => rfl)) (pv 2) (fun _ _ => rfl)))) pa_nil)) pa_nil))))
      (pss_one (ps_ret (pe_call G_turned (hr.mono (by decide)) (by rfl) g_turned k_turned b_turned .nil pass0 (pa_cons (pv 0) (pa_cons (pe_call G_places_turned (hr.mono (by decide)) (by rfl) g_places_turned k_places_turned b_places_turned .nil pass0 (pa_cons (pe_call G_sides_of (hr.mono (by decide)) (by rfl) g_sides_of k_sides_of b_sides_of .nil pass0 (pa_cons (pv 1) pa_nil)) pa_nil)) pa_nil)))))), ?_⟩
    have n1 := ok.lo
    have n40 := ok.hi
    have few := ok.few
    have sl := stemsTo_len ts ts.length
    obtain ⟨wa, wb, us, rfl, hwa, hwb, hp⟩ := id hW
    have hul : us.length = ts.length := Paired.length hp
    refine ⟨.ref wa, rfl, wa, _, 0, .int n, rfl, rfl, SqT.of hwa, rfl, .ref wa, rfl, .ref wa, n, ts, rfl, hW, ok, fun du H1 s1 hdu => ⟨du, rfl, ⟨_, SqT.of hdu⟩, fun Z nZ => ?_⟩⟩
    refine lc_tup (K := K) (xs := (stemsTo ts ts.length).map V.int) (fun j H' => ∃ vs : List V, H' Z = some (.lst vs) ∧ Paired (TieV H') vs (((stemsTo ts ts.length).take j).map fun x => tieN ts x.toNat) ∧ Same H1 H') ⟨[], upd_same, .nil, same_new nZ⟩ (fun j H' _ h => by
      obtain ⟨_, _, _, s⟩ := h
      exact SqT.of (s _ _ hdu)) ?_ ?_
    · rintro j x H13 ex ⟨vs, hZ, hv, s13⟩
      rw [List.getElem?_map] at ex
      obtain ⟨y, ey, rfl⟩ := Option.map_eq_some_iff.mp ex
      have ym := (stemsTo_mem.mp (List.mem_of_getElem? ey)).1
      have hj : j < (stemsTo ts ts.length).length := (List.getElem?_eq_some_iff.mp ey).1
      have lv : vs.length = j := by
        rw [Paired.length hv, List.length_map, List.length_take]
        omega
      obtain ⟨vv, e1, e2⟩ := getI (xs := us) ym.1 (by omega)
      obtain ⟨t, et, hvt⟩ := Paired.at hp e2
      have t13 := Same.tk (s1.trans s13)
      refine ⟨rfl, .ref wa, rfl, wa, _, 1, .ref wb, rfl, rfl, SqT.of (t13 _ _ hwa), rfl, .int y, rfl, wb, us, y, vv, rfl, rfl, SqT.of (t13 _ _ hwb), e1, vs, hZ, small1000 (by omega), vs ++ [vv], upd_same, ?_, Same.mut s13 nZ⟩
      rw [map_take_succ ey, tieN_of et]
      exact Paired.snoc (ties_tk (tk_lst hZ) hv) (hvt.tk (t13.trans (tk_lst hZ)))
    rintro H2 ⟨vs, hZ, hv, s2⟩
    rw [List.length_map, List.take_length] at hv
    refine ⟨Z, vs, rfl, .inl ⟨SqL.of hZ, fun r nr => ⟨by show 2 ≤ sizeLine; decide, fun o no => ?_⟩⟩⟩
    have s15 := (same_new (o := .tup vs) nr).trans (same_new (o := .tup [.int n, .ref r]) no)
    have s4 := s1.trans (s2.trans s15)
    have hS : WebAt (upd (upd H2 r (.tup vs)) o (.tup [.int n, .ref r])) (.ref o) n (stW ts) := ⟨o, r, vs, rfl, upd_same, same_new no _ _ upd_same, ties_tk (Same.tk s15) hv⟩
    refine ⟨.ref wa, rfl, .ref o, rfl, .ref o, n, stW ts, rfl, hS, stW_ok ok, fun ss r5 H5 T C s5 h5 => ?_, fun H' od _ => absurd od (stW_no_odd ts n)⟩
    have lss := T.len
    refine ⟨r5, ss, rfl, h5, by omega, fun r6 H6 s6 h6 => ?_⟩
    have s06 := s4.trans (s5.trans s6)
    rw [lss] at h6
    have lo := onesTo_len ss n
    refine ⟨.ref wa, r6, n, ts, onesTo ss n, rfl, hW.tk (Same.tk s06), few, SqT.of h6, by omega, fun u H7 s7 hu => ?_⟩
    rw [show turnT (onesTo ss n) = colT (inP (onesTo ss n)) from funext fun t => turn_col _ t] at hu
    exact q u H7 _ (ones_holds ok T C) (s06.trans s7) hu
end
/-! ### k24: due -/
theorem eqFoe (b : Bool) : decide (V.str (kindS b) = V.str "foe") = b := by cases b <;> decide
theorem pick_foe (l : Nat) : atI [V.str "friend", V.str "foe"] ((l : Int) % 2) = some (.str (kindS (decide (l % 2 = 1)))) := by
  rcases Nat.mod_two_eq_zero_or_one l with e | e
  · rw [show (l : Int) % 2 = 0 by omega, e]; rfl
  · rw [show (l : Int) % 2 = 1 by omega, e]; rfl
section
variable {P : Program} {w : World} {K : PySem.W.Frag} {mg : Str → Option Value} {base : Heap}
set_option maxHeartbeats 4000000 in
theorem ok_l_due {f : Addr} {fd : FuncData} (F : Fun K "_law_due" "_law_due" s_l_due f fd) (M : Free mg) (m_enumerate : mg "enumerate" = none) (D_l_stems : Df P w K mg base 1 "_law_stems" ["_law_web_here"] spLStems) (D_l_closed : Df P w K mg base 1 "_law_closed" ["_law_web_here", "_law_stems_here", "_law_tie"] spClosed23) : FnOk P w K mg base CX0 2 f fd ["_law_web_here"] spPlain := by
  obtain ⟨f_l_stems, fd_l_stems, G_l_stems, g_l_stems, k_l_stems, b_l_stems⟩ := D_l_stems
  obtain ⟨f_l_closed, fd_l_closed, G_l_closed, g_l_closed, k_l_closed, b_l_closed⟩ := D_l_closed
  refine F.ok sc_l_due (fun vs H Q E h => ?_) (fun cdv A outer s H vs Q E hr h => ?_)
  · obtain ⟨v, n, ts, rfl, _⟩ := h
    rfl
  · obtain ⟨v, n, ts, rfl, hW, ok, q⟩ := h
    refine ⟨_, (pss_cons (ps_set (i := 1) sc_l_due.nd rfl (.inl rfl) (pe_call G_l_stems (hr.mono (by decide)) (by rfl) g_l_stems k_l_stems b_l_stems .nil pass0 (pa_cons (pv 0) pa_nil)))
      (pss_cons (ps_set (i := 2) sc_l_due.nd rfl (.inl rfl) (pe_lst pa_nil))
      (pss_cons (ps_for PassesOwn.never rfl (pi_enumT (by rfl) m_enumerate (pa_cons (pe_ix ix_tup (pv 0) pe_int (fun _ _ => rfl)) pa_nil)) (pg_tup rfl (pgs_cons (pg_name (i := 3) sc_l_due.nd rfl (.inl rfl)) (pgs_cons (pg_name (i := 4) sc_l_due.nd rfl (.inl rfl)) pgs_nil)))
        (pss_cons (ps_set (i := 5) sc_l_due.nd rfl (.inl rfl) pe_str)
        (Evl.pss_cut (ps_if (pt_cmpR op_notIn_seq (pv 3) (pv 1) rfl)
          (pss_cons (ps_set (i := 6) sc_l_due.nd rfl (.inl rfl) (pe_call G_l_closed (hr.mono (by decide)) (by rfl) g_l_closed k_l_closed b_l_closed .nil pass0 (pa_cons (pv 0) (pa_cons (pv 1) (pa_cons (pv 3) pa_nil)))))
          (pss_one (ps_set (i := 5) sc_l_due.nd rfl (.inl rfl) (pe_ix ix_list (pe_lst (pa_cons pe_str (pa_cons pe_str pa_nil))) (pe_op op_mod (pe_callB call_len_seq (by rfl) M.len PySem.boot_len (pa_cons (pe_lc (own := [("_law_one", 7)]) (g := (gName 7)) (te := tVar 7) rfl sc_l_due.nd (pi_tup (pe_ix ix_tup (pv 6) pe_int (fun _ _ => rfl))) (blkOk_by (N := N_l_due) (sc := defScope s_l_due) (own := [("_law_one", 7)]) (by decide +kernel)) (fun _ _ _ _ _ => (pg_name (i := 7) sc_l_due.nd rfl (.inl rfl))) (fun _ _ _ _ _ => (pts_one (pt_cmpR op_eq (pe_ix (r := rIxT K) ix_tup (pe_ix (r := rIxT K) ix_tup (pe_ix (r := rIxT K) ix_tup (pv 0) pe_int (fun _ _ => rfl)) (pv 7) (fun _ _ => rfl)) pe_int (fun _ _ => rfl)) pe_str (nomark _)))) (fun _ _ _ _ _ => (pv 7))) pa_nil)) pe_int) (fun _ _ => rfl)))))
          pss_nil)
        (pss_one (ps_expr (pe_bm PySem.F.plainAttrs_list PySem.F.slot_list_append PySem.F.type_list_append mt_append (pv 2) (pa_cons (pe_op op_catU (pe_slice sl_tupU (pv 4) po_none (po_some pe_int)) (pe_tup (pa_cons (pv 5) pa_nil))) pa_nil)))))))
      (pss_one (ps_ret (pe_tup (pa_cons (pe_ix ix_tup (pv 0) pe_int (fun _ _ => rfl)) (pa_cons (pe_callTy call_tuple_of (by rfl) M.tuple (by decide +kernel) (pa_cons (pv 2) pa_nil)) pa_nil)))))))), ?_⟩
    have n1 := ok.lo
    have n40 := ok.hi
    have few := ok.few
    have sl := stemsTo_len ts ts.length
    obtain ⟨wa, wb, us, rfl, hwa, hwb, hp⟩ := id hW
    have hul : us.length = ts.length := Paired.length hp
    obtain ⟨c, hc⟩ := forest_col (ts := ts) (Nat.le_refl _)
    refine ⟨.ref wa, rfl, .ref wa, n, ts, rfl, hW, ok, fun Ls H1 nL s1 hLs => ⟨by show 0 ≤ sizeLine; decide, fun Z nZ => ?_⟩⟩
    have nZ0 := s1.free nZ
    have neL : Ls ≠ Z := ne_of_none hLs nZ
    have sZ := same_new (o := .lst []) nZ
    have s2 := s1.trans sZ
    refine ⟨.ref wa, rfl, wa, _, 1, .ref wb, rfl, rfl, SqT.of (s2 _ _ hwa), rfl, wb, us, rfl, SqT.of (s2 _ _ hwb), ?_⟩
    refine for_it (walk_enumT (xs := us)) (fun i σ' H' => ∃ (y3 y4 y5 y6 : Option V) (vs : List V), σ' = [some (.ref wa), some (.ref Ls), some (.ref Z), y3, y4, y5, y6, none] ∧ H' Z = some (.lst vs) ∧ Paired (TieV H') vs ((ts.take i).map (colT c)) ∧ H' Ls = some (.lst ((stemsTo ts ts.length).map V.int)) ∧ Same H H') ⟨none, none, none, none, [], rfl, upd_same, .nil, sZ _ _ hLs, s2⟩ (fun i σ' H' _ h => by
      obtain ⟨_, _, _, _, _, _, _, _, _, s⟩ := h
      exact SqT.of (s _ _ hwb)) ?_ ?_
    · clear s2 sZ hLs nZ
      rintro i x σ' H2 H3 hi ⟨y3, y4, y5, y6, vs, rfl, hZ, hv, hLs, s2⟩ ⟨T, x1, y1, rfl, nT, rfl, gx, gy⟩
      obtain rfl : V.int (i : Nat) = x1 := Option.some.inj gx
      obtain ⟨t, et, tc, rfl, htc⟩ := Paired.at hp gy
      have sT := same_new (o := .tup [.int (i : Nat), .ref tc]) nT
      refine ⟨T, _, rfl, SqT.of upd_same, rfl, _, _, rfl, _, _, rfl, rfl, ?_⟩
      have s3 := s2.trans sT
      have hZ3 := sT _ _ hZ
      have hLs3 := sT _ _ hLs
      have hv3 := ties_tk (Same.tk sT) hv
      generalize upd H2 T (.tup [.int (i : Nat), .ref tc]) = H3 at s3 hZ3 hLs3 hv3
      clear sT nT hZ hLs hv s2
      refine ⟨fun σ' H' => ∃ (y6 : Option V), σ' = [some (.ref wa), some (.ref Ls), some (.ref Z), some (.int (i : Nat)), some (.ref tc), some (.str (kindS (colT c t).foe)), y6, none] ∧ Same H3 H', ?_, ?_⟩
      · refine ⟨.int (i : Nat), rfl, .ref Ls, rfl, Ls, _, rfl, .inl (SqL.of hLs3), rfl, flat80 _, _, rfl, ?_⟩
        rw [inV80]
        by_cases e : (i : Int) ∈ stemsTo ts ts.length
        · rw [decide_eq_true e]
          have h := hc _ e
          rw [Int.toNat_natCast, tieN_of et] at h
          refine ⟨y6, ?_, Same.refl _⟩
          have : (colT c t).foe = false := by
            unfold colT
            simp only
            rw [h, Bool.xor_self]
          rw [this]
          rfl
        · rw [decide_eq_false e]
          refine ⟨.ref wa, rfl, .ref Ls, rfl, .int (i : Nat), rfl, .ref wa, Ls, n, ts, i, t, rfl, hW.tk (Same.tk s3), ok, hLs3, et, fun r qs ns H4 w4 s4 R4 => ?_⟩
          have few4 := way_short ok.ok (⟨(ok.ok t (List.mem_of_getElem? et)).2.2.1, (ok.ok t (List.mem_of_getElem? et)).2.2.2.1⟩) w4
          have lq := w4.len
          obtain ⟨a, b, g1, g2, g3⟩ := R4
          refine ⟨by show 2 ≤ sizeLine; decide, fun F nF => ?_⟩
          have sF := same_new (o := .lst [.str "friend", .str "foe"]) nF
          refine ⟨.ref r, rfl, r, _, 1, .ref b, rfl, rfl, SqT.of (sF _ _ g1), rfl, b, rfl, ⟨_, SqT.of (sF _ _ g3)⟩, fun Y nY => ?_⟩
          have hF := upd_same (H := H4) (a := F) (o := .lst [.str "friend", .str "foe"])
          have g3F := sF _ _ g3
          have s5 := s3.trans (s4.trans sF)
          have s45 := s4.trans sF
          generalize upd H4 F (.lst [.str "friend", .str "foe"]) = H5 at hF g3F s5 s45 nY
          refine lc_tup (K := K) (xs := (ns ++ [(i : Int)]).map V.int) (fun j H' => H' Y = some (.lst ((((ns ++ [(i : Int)]).take j).filter fun m => (tieN ts m.toNat).foe).map V.int)) ∧ Same H5 H') ⟨upd_same, same_new nY⟩ (fun j H' _ h => SqT.of (h.2 _ _ g3F)) ?_ ?_
          · rintro j v H6 ev ⟨hY, s6⟩
            rw [List.getElem?_map] at ev
            obtain ⟨m, em, rfl⟩ := Option.map_eq_some_iff.mp ev
            have mS : 0 ≤ m ∧ m < ts.length := by
              rcases List.mem_append.mp (List.mem_of_getElem? em) with h | h
              · obtain ⟨j', ej⟩ := List.getElem?_of_mem h
                obtain ⟨x', y', m', h1, h2, h3, h4⟩ := w4.each j' (List.getElem?_eq_some_iff.mp ej).1
                rw [ej] at h3
                cases h3
                exact (stemsTo_mem.mp (mem_nN.mp h4).1).1
              · rw [List.mem_singleton.mp h]
                omega
            have eM := List.getElem?_eq_getElem (show m.toNat < ts.length by omega)
            obtain ⟨u', eu', tm, rfl, htm⟩ := Paired.at' hp eM
            have s06 := s5.trans s6
            refine ⟨rfl, .ref wa, rfl, wa, _, 1, .ref wb, rfl, rfl, SqT.of (s06 _ _ hwa), rfl, .int m, rfl, wb, us, m, .ref tm, rfl, rfl, SqT.of (s06 _ _ hwb), atI_of mS.1 eu', tm, _, 2, _, rfl, rfl, SqT.of (s06 _ _ htm), rfl, rfl, _, rfl, ?_⟩
            rw [eqFoe, take_snoc em, List.filter_append, List.filter_cons]
            have lj : ((ns ++ [(i : Int)]).take j).length ≤ 200 := by
              rw [List.length_take, List.length_append]
              simp only [List.length_cons, List.length_nil]
              omega
            have lf := List.length_filter_le (fun m => (tieN ts m.toNat).foe) ((ns ++ [(i : Int)]).take j)
            have eF : (tieN ts m.toNat).foe = (ts[m.toNat]'(by omega)).foe := by rw [tieN_of eM]
            rw [eF]
            cases (ts[m.toNat]'(by omega)).foe with
            | true => exact ⟨.int m, rfl, _, hY, by rw [List.length_map]; exact small1000 (by omega), by rw [upd_same, List.map_append]; rfl, Same.mut s6 nY⟩
            | false =>
              simp only [Bool.false_eq_true, if_false, List.filter_nil, List.append_nil]
              exact ⟨hY, s6⟩
          rintro H6 ⟨hY, s6⟩
          rw [List.length_map, List.take_length] at hY
          refine ⟨Y, _, rfl, .inl (SqL.of hY), _, _, rfl, rfl, (by show (0 : Int) < 2; decide), F, _, _, _, rfl, rfl, SqL.of (s6 _ _ hF), pick_foe _, ?_⟩
          rw [List.length_map]
          have ep : decide (((ns ++ [(i : Int)]).filter fun m => (tieN ts m.toNat).foe).length % 2 = 1) = (colT c t).foe := by
            show oddF ts (ns ++ [(i : Int)]) = _
            rw [oddF_snoc, way_foes hc w4, Int.toNat_natCast, tieN_of et]
            unfold colT
            simp only
            cases t.foe <;> cases c t.one <;> cases c t.other <;> rfl
          rw [ep]
          exact ⟨_, rfl, s45.trans s6⟩
      rintro σ' H4 ⟨y6', rfl, s4⟩
      have s5 := s3.trans s4
      have hZ4 := s4 _ _ hZ3
      have hv4 := ties_tk (Same.tk s4) hv3
      have lv : vs.length = i := by
        have il := (List.getElem?_eq_some_iff.mp et).1
        rw [Paired.length hv4, List.length_map, List.length_take]
        omega
      refine ⟨.ref Z, rfl, .inl ⟨rfl, _, SqL.of hZ4⟩, .ref tc, rfl, 2, rfl, tc, _, rfl, s5 _ _ htc, fun r6 H6 s6 h6 => ?_⟩
      refine ⟨.str (kindS (colT c t).foe), rfl, by show 1 ≤ sizeLine; decide, fun o no => ?_⟩
      have so := same_new (o := .tup [.str (kindS (colT c t).foe)]) no
      refine ⟨r6, o, _, _, rfl, rfl, so _ _ h6, upd_same, by show 3 ≤ 100000; decide, fun r7 H7 s7 h7 => ?_⟩
      have s47 := s6.trans (so.trans s7)
      have hZ7 := s47 _ _ hZ4
      refine ⟨Z, _, _, rfl, rfl, hZ7, small1000 (by omega), ?_⟩
      refine ⟨_, _, _, _, vs ++ [.ref r7], rfl, upd_same, ?_, ?_, Same.mut (s5.trans s47) nZ0⟩
      · rw [map_take_succ et]
        exact Paired.snoc (ties_tk (tk_lst hZ7) (ties_tk (Same.tk s47) hv4)) (show TieV _ _ (colT c t) from ⟨r7, rfl, tk_lst hZ7 _ _ h7⟩)
      · rw [upd_ne neL]
        exact (s4.trans s47) _ _ hLs3
    · rintro σ' H2 ⟨y3, y4, y5, y6, vs, rfl, hZ, hv, _, s2⟩
      rw [hul, List.take_length] at hv
      refine ⟨.ref wa, rfl, wa, _, 0, .int n, rfl, rfl, SqT.of (s2 _ _ hwa), rfl, .ref Z, rfl, Z, vs, rfl, .inl ⟨SqL.of hZ, fun r nr => ⟨by show 2 ≤ sizeLine; decide, fun o no => ?_⟩⟩⟩
      have s15 := (same_new (o := .tup vs) nr).trans (same_new (o := .tup [.int n, .ref r]) no)
      exact q (.ref o) _ c hc (s2.trans s15) ⟨o, r, vs, rfl, upd_same, same_new no _ _ upd_same, ties_tk (Same.tk s15) hv⟩
end
/-- places that have no entry yet -/
def lackN (n : Nat) (kvs : List (Key × V)) : Nat := ((rng n).filter fun x => (valV kvs (Sum.inl x : Key)).isNone).length
theorem lack_le (n : Nat) (kvs : List (Key × V)) : lackN n kvs ≤ n := by
  unfold lackN
  have := List.length_filter_le (fun x => (valV kvs (Sum.inl x : Key)).isNone) (rng n)
  rw [rng_length] at this
  exact this
theorem lack_put {n : Nat} {kvs : List (Key × V)} {x : Int} {v : V} (h0 : 0 ≤ x) (h1 : x < n) (h : valV kvs (Sum.inl x : Key) = none) : lackN n (putK kvs (Sum.inl x) v) < lackN n kvs := by
  unfold lackN
  refine filter_less (fun y hy => ?_) (mem_rng.mpr ⟨h0, h1⟩) (by rw [h]; rfl) (by rw [valV_put, if_pos rfl]; rfl)
  rw [valV_put] at hy
  split at hy
  · cases hy
  · exact hy
theorem putK_le (c : List (Key × V)) (k : Key) (x : V) : (putK c k x).length ≤ c.length + 1 := by
  unfold putK
  split
  · rw [List.length_map]; omega
  · rw [List.length_append]; simp
/-! ### k24: is it a bridge -/
structure BrI (E : List Tie) (n : Nat) (s : Int) (kvs : List (Key × V)) (D : Int → Prop) : Prop where
  rg : ∀ x : Int, valV kvs (Sum.inl x : Key) ≠ none → (0 ≤ x ∧ x < n) ∧ Rch E s x
  cl : ∀ x : Int, valV kvs (Sum.inl x : Key) ≠ none → ¬ D x → ∀ y f, Adj E x y f → valV kvs (Sum.inl y : Key) ≠ none
  few : kvs.length + lackN n kvs ≤ n
  has : valV kvs (Sum.inl s : Key) ≠ none
theorem BrI.put {E : List Tie} {n : Nat} {s : Int} {kvs : List (Key × V)} {D D' : Int → Prop} (h : BrI E n s kvs D) {y : Int} {v : V} (h0 : 0 ≤ y) (h1 : y < n) (no : valV kvs (Sum.inl y : Key) = none) (r : Rch E s y) (hD : ∀ x, D x → D' x) (hy : D' y) : BrI E n s (putK kvs (Sum.inl y) v) D' := by
  have up : ∀ x : Int, valV kvs (Sum.inl x : Key) ≠ none → valV (putK kvs (Sum.inl y) v) (Sum.inl x : Key) ≠ none := fun x hx => by
    rw [valV_put]
    split
    · simp
    · exact hx
  have dn : ∀ x : Int, valV (putK kvs (Sum.inl y) v) (Sum.inl x : Key) ≠ none → x = y ∨ valV kvs (Sum.inl x : Key) ≠ none := fun x hx => by
    rw [valV_put] at hx
    split at hx
    · rename_i e
      exact .inl (Sum.inl.inj e)
    · exact .inr hx
  refine ⟨fun x hx => ?_, fun x hx nd z f ad => ?_, ?_, up _ h.has⟩
  · rcases dn x hx with rfl | hx
    · exact ⟨⟨h0, h1⟩, r⟩
    · exact h.rg x hx
  · rcases dn x hx with rfl | hx
    · exact absurd hy nd
    · exact up _ (h.cl x hx (fun z => nd (hD x z)) z f ad)
  · have := putK_le kvs (Sum.inl y) v
    have := lack_put (n := n) (v := v) h0 h1 no
    have := h.few
    omega
theorem BrI.done {E : List Tie} {n : Nat} {s : Int} {kvs : List (Key × V)} {D : Int → Prop} (h : BrI E n s kvs D) (no : ∀ x, ¬ D x) (x : Int) : valV kvs (Sum.inl x : Key) ≠ none ↔ Rch E s x :=
  ⟨fun hx => (h.rg x hx).2, fun r => r.ind (fun y => valV kvs (Sum.inl y : Key) ≠ none) h.has fun y z f hy ad => h.cl y hy (no y) z f ad⟩
def spBridge : Sp := fun vs H Q _ => ∃ (v : V) (n : Nat) (ts : List Tie) (k : Nat) (t : Tie), vs = [v, .int k] ∧ WebAt H v n ts ∧ WebOk n ts ∧ ts[k]? = some t ∧ ∀ (b : Bool) (H' : Hp), (b = true ↔ ¬ Rch (ts.eraseIdx k) t.one t.other) → Same H H' → Q (.bl b) H'
section
variable {P : Program} {w : World} {K : PySem.W.Frag} {mg : Str → Option Value} {base : Heap}
set_option maxHeartbeats 4000000 in
theorem ok_l_is_bridge {f : Addr} {fd : FuncData} (F : Fun K "_law_is_bridge" "_law_is_bridge" s_l_is_bridge f fd) (M : Free mg) (m_enumerate : mg "enumerate" = none) : FnOk P w K mg base CX0 1 f fd ["_law_web_here", "_law_at"] spBridge := by
  refine F.ok sc_l_is_bridge (fun vs H Q E h => ?_) (fun cdv A outer s H vs Q E hr h => ?_)
  · obtain ⟨v, n, ts, k, t, rfl, _⟩ := h
    rfl
  · obtain ⟨v, n, ts, k, t, rfl, hW, ok, et, q⟩ := h
    have hu := room1 hr
    refine ⟨_, (pss_cons (ps_set (i := 2) sc_l_is_bridge.nd rfl (.inl rfl) (pe_lst (pa_cons (pe_ix ix_tup (pe_ix ix_tup (pe_ix ix_tup (pv 0) pe_int (fun _ _ => rfl)) (pv 1) (fun _ _ => rfl)) pe_int (fun _ _ => rfl)) pa_nil)))
      (pss_cons (ps_set (i := 3) sc_l_is_bridge.nd rfl (.inl rfl) (pe_disp (pps_cons (pe_ix ix_list (pv 2) pe_int (fun _ _ => rfl)) pe_bl pps_nil) (by rfl) (by rfl) (fun z => by cases z) (by decide)))
      (pss_cons (ps_while PassesOwn.never (pt_cmpR (op_neE hr.units0) (pv 2) (pe_lst pa_nil) (nomark _))
        (pss_cons (ps_set (i := 4) sc_l_is_bridge.nd rfl (.inl rfl) (pe_bm0 PySem.F.plainAttrs_list PySem.F.slot_list_pop PySem.F.type_list_pop mt_pop (pv 2)))
        (pss_one (ps_for PassesOwn.never rfl (pi_enumT (by rfl) m_enumerate (pa_cons (pe_ix ix_tup (pv 0) pe_int (fun _ _ => rfl)) pa_nil)) (pg_tup rfl (pgs_cons (pg_name (i := 5) sc_l_is_bridge.nd rfl (.inl rfl)) (pgs_cons (pg_name (i := 6) sc_l_is_bridge.nd rfl (.inl rfl)) pgs_nil)))
          (pss_one (ps_if (PW.pt (pw_and (pt_cmpR op_ne (pv 5) (pv 1) (nomark _)) (pw_and (pt_cmpR op_in_seq (pv 4) (pe_slice sl_tupU (pv 6) po_none (po_some pe_int)) rfl) (pw_and1 (pt_cmp (pc_dnotin hu (pe_op op_sub (pe_callB (cr_sumTI rfl) (by rfl) M.sum (by decide +kernel) (pa_cons (pe_slice sl_tupU (pv 6) po_none (po_some pe_int)) pa_nil)) (pv 4)) (pv 3)))))))
            (pss_cons (ps_dput hu (pv 3) (pe_op op_sub (pe_callB (cr_sumTI rfl) (by rfl) M.sum (by decide +kernel) (pa_cons (pe_slice sl_tupU (pv 6) po_none (po_some pe_int)) pa_nil)) (pv 4)) pe_bl rfl)
            (pss_one (ps_expr (pe_bm PySem.F.plainAttrs_list PySem.F.slot_list_append PySem.F.type_list_append mt_append (pv 2) (pa_cons (pe_op op_sub (pe_callB (cr_sumTI rfl) (by rfl) M.sum (by decide +kernel) (pa_cons (pe_slice sl_tupU (pv 6) po_none (po_some pe_int)) pa_nil)) (pv 4)) pa_nil)))))
            pss_nil))))))
      (pss_one (ps_ret (pe_cmp (pc_dnotin hu (pe_ix ix_tup (pe_ix ix_tup (pe_ix ix_tup (pv 0) pe_int (fun _ _ => rfl)) (pv 1) (fun _ _ => rfl)) pe_int (fun _ _ => rfl)) (pv 3)))))))), ?_⟩
    have n1 := ok.lo
    have n40 := ok.hi
    have few := ok.few
    obtain ⟨wa, wb, us, rfl, hwa, hwb, hp⟩ := id hW
    have hul : us.length = ts.length := Paired.length hp
    have kl := (List.getElem?_eq_some_iff.mp et).1
    have okt := ok.ok t (List.mem_of_getElem? et)
    obtain ⟨u, eu, tc, rfl, htc⟩ := Paired.at' hp et
    refine ⟨.ref wa, rfl, wa, _, 1, .ref wb, rfl, rfl, SqT.of hwa, rfl, .int k, rfl, wb, us, k, .ref tc, rfl, rfl, SqT.of hwb, atI_nat eu, tc, _, 0, _, rfl, rfl, SqT.of htc, rfl, by show 1 ≤ sizeLine; decide, fun C nC => ?_⟩
    have sC := same_new (o := .lst [.int t.one]) nC
    refine fun D nD => ⟨.ref C, rfl, C, _, 0, _, rfl, rfl, SqL.of (same_new nD _ _ upd_same), rfl, upd_same, [(Sum.inl t.one, .bl true)], rfl, (by show 1 ≤ 15; decide), ?_⟩
    rw [upd_upd]
    have eD : mergeK [] [((Sum.inl t.one : Key), V.bl true)] = putK [] (Sum.inl t.one) (.bl true) := rfl
    rw [eD]
    have hCD : C ≠ D := ne_of_none upd_same nD
    have nD0 : H D = none := sC.free nD
    have s1 : Same H (upd (upd H C (.lst [.int t.one])) D (.dK (putK [] (Sum.inl t.one) (.bl true)))) := sC.trans (same_new nD)
    have hC1 : (upd (upd H C (.lst [.int t.one])) D (.dK (putK [] (Sum.inl t.one) (.bl true)))) C = some (.lst ([t.one].map V.int)) := same_new nD _ _ upd_same
    have hD1 : (upd (upd H C (.lst [.int t.one])) D (.dK (putK [] (Sum.inl t.one) (.bl true)))) D = some (.dK (putK [] (Sum.inl t.one) (.bl true))) := upd_same
    generalize upd (upd H C (.lst [.int t.one])) D (.dK (putK [] (Sum.inl t.one) (.bl true))) = H1 at s1 hC1 hD1
    clear sC nD
    have b0 : BrI (ts.eraseIdx k) n t.one (putK [] (Sum.inl t.one) (.bl true)) (· ∈ [t.one]) := by
      have l0 := lack_put (n := n) (kvs := []) (v := .bl true) okt.1 okt.2.1 rfl
      have l1 := lack_le n []
      have e0 : ∀ x : Int, valV (putK [] (Sum.inl t.one) (.bl true)) (Sum.inl x : Key) ≠ none → x = t.one := fun x hx => by
        rw [valV_put] at hx
        split at hx
        · rename_i e
          exact Sum.inl.inj e
        · exact absurd rfl hx
      refine ⟨fun x hx => ?_, fun x hx nd => ?_, by show 1 + _ ≤ n; omega, by rw [valV_put, if_pos rfl]; simp⟩
      · rw [e0 x hx]
        exact ⟨⟨okt.1, okt.2.1⟩, .refl⟩
      · exact absurd (by rw [e0 x hx]; simp) nd
    refine ⟨fun m σ' H' => ∃ (y4 y5 y6 : Option V) (kvs : List (Key × V)) (come : List Int), σ' = [some (.ref wa), some (.int k), some (.ref C), some (.ref D), y4, y5, y6] ∧ H' D = some (.dK kvs) ∧ H' C = some (.lst (come.map V.int)) ∧ BrI (ts.eraseIdx k) n t.one kvs (· ∈ come) ∧ come.length + lackN n kvs ≤ n ∧ (∀ x ∈ come, valV kvs (Sum.inl x : Key) ≠ none) ∧ Same H H' ∧ m = 2 * lackN n kvs + come.length, ⟨_, none, none, none, putK [] (Sum.inl t.one) (.bl true), [t.one], rfl, hD1, hC1, b0, by have := b0.few; exact this, fun x hx => by rw [List.mem_singleton.mp hx]; exact b0.has, s1, rfl⟩, ?_⟩
    clear hD1 hC1 b0 s1
    rintro m σ' H4 ⟨y4, y5, y6, kvs, come, rfl, hD4, hC4, ch4, few4, key4, s4, hm⟩
    refine ⟨.ref C, rfl, Nat.zero_le _, fun e1 ne1 => ⟨C, e1, _, rfl, rfl, SqL.of (same_new ne1 _ _ hC4), SqL.of upd_same, _, rfl, ?_⟩⟩
    have hD5 := same_new (o := .lst []) ne1 _ _ hD4
    have hC5 := same_new (o := .lst []) ne1 _ _ hC4
    have s5 := s4.trans (same_new (o := .lst []) ne1)
    generalize upd H4 e1 (.lst []) = H5 at hD5 hC5 s5
    clear hD4 hC4 s4 ne1
    refine ite2 (fun hb => ?_) (fun hb => ?_)
    · cases hwl : come with
      | nil => rw [hwl] at hb; cases hb
      | cons z zs =>
      obtain ⟨wl, p, ep⟩ : ∃ (wl : List Int) (p : Int), z :: zs = wl ++ [p] := ⟨(z :: zs).dropLast, (z :: zs).getLast (by simp), (List.dropLast_concat_getLast (by simp)).symm⟩
      rw [hwl, ep] at hC5 ch4 few4 key4 hm
      have e3 : ((wl ++ [p]).map V.int).dropLast = wl.map V.int := by simp
      have hasp := key4 p (by simp)
      refine ⟨fun σ' H' => ∃ m', m' < m ∧ ∃ (y4 y5 y6 : Option V) (kvs : List (Key × V)) (come : List Int), σ' = [some (.ref wa), some (.int k), some (.ref C), some (.ref D), y4, y5, y6] ∧ H' D = some (.dK kvs) ∧ H' C = some (.lst (come.map V.int)) ∧ BrI (ts.eraseIdx k) n t.one kvs (· ∈ come) ∧ come.length + lackN n kvs ≤ n ∧ (∀ x ∈ come, valV kvs (Sum.inl x : Key) ≠ none) ∧ Same H H' ∧ m' = 2 * lackN n kvs + come.length, fun _ _ h => h, ?_⟩
      refine ⟨.ref C, rfl, .inl ⟨rfl, _, SqL.of hC5⟩, C, _, .int p, rfl, rfl, hC5, by simp, ?_⟩
      rw [e3]
      have hD6 : (upd H5 C (.lst (wl.map V.int))) D = some (.dK kvs) := by rw [upd_ne (Ne.symm hCD)]; exact hD5
      have hC6 : (upd H5 C (.lst (wl.map V.int))) C = some (.lst (wl.map V.int)) := upd_same
      have s6 : Same H (upd H5 C (.lst (wl.map V.int))) := Same.mut s5 nC
      generalize upd H5 C (.lst (wl.map V.int)) = H6 at hD6 hC6 s6
      rw [List.length_append] at few4 hm
      simp only [List.length_cons, List.length_nil] at few4 hm
      refine ⟨.ref wa, rfl, wa, _, 1, .ref wb, rfl, rfl, SqT.of (s6 _ _ hwa), rfl, wb, us, rfl, SqT.of (s6 _ _ hwb), ?_⟩
      refine for_it (walk_enumT (xs := us)) (fun j σ' H' => ∃ (y5 y6 : Option V) (kvs : List (Key × V)) (wl : List Int), σ' = [some (.ref wa), some (.int k), some (.ref C), some (.ref D), some (.int p), y5, y6] ∧ H' D = some (.dK kvs) ∧ H' C = some (.lst (wl.map V.int)) ∧ BrI (ts.eraseIdx k) n t.one kvs (fun x => x ∈ wl ∨ x = p) ∧ wl.length + 1 + lackN n kvs ≤ n ∧ (∀ x ∈ wl, valV kvs (Sum.inl x : Key) ≠ none) ∧ Same H H' ∧ 2 * lackN n kvs + wl.length < m ∧ valV kvs (Sum.inl p : Key) ≠ none ∧ ∀ (i : Nat) (c : Tie) (y : Int), i < j → i ≠ k → ts[i]? = some c → ((c.one = p ∧ c.other = y) ∨ (c.one = y ∧ c.other = p)) → valV kvs (Sum.inl y : Key) ≠ none) ⟨_, _, kvs, wl, rfl, hD6, hC6, ⟨ch4.rg, fun x hx nd => ch4.cl x hx (fun z => nd (by
        rcases List.mem_append.mp z with h | h
        · exact .inl h
        · exact .inr (List.mem_singleton.mp h))), ch4.few, ch4.has⟩, by omega, fun x hx => key4 x (List.mem_append_left _ hx), s6, by omega, hasp, fun i c y hi => absurd hi (Nat.not_lt_zero _)⟩ (fun j σ' H' _ h => by
        obtain ⟨_, _, _, _, _, _, _, _, _, _, s7, _⟩ := h
        exact SqT.of (s7 _ _ hwb)) ?_ ?_
      · clear hD6 hC6 s6 hD5 hC5 s5 ch4 few4 key4 hasp hm
        rintro j x σ' H7 H8 hj ⟨y5, y6, kvs, wl, rfl, hD7, hC7, ch, fw, key, s7, lt, hasp, cl⟩ ⟨T, x1, y1, rfl, nT, rfl, gx, gy⟩
        obtain rfl : V.int (j : Nat) = x1 := Option.some.inj gx
        obtain ⟨c, ec, a, rfl, ha⟩ := Paired.at hp gy
        have okc := ok.ok c (List.mem_of_getElem? ec)
        have sT := same_new (o := .tup [.int (j : Nat), .ref a]) nT
        have s8 := s7.trans sT
        have hD8 := sT _ _ hD7
        have hC8 := sT _ _ hC7
        have ha8 := s8 _ _ ha
        refine ⟨T, _, rfl, SqT.of upd_same, rfl, _, _, rfl, _, _, rfl, rfl, ?_⟩
        generalize upd H7 T (.tup [.int (j : Nat), .ref a]) = H8 at hD8 hC8 s8 ha8
        clear hD7 hC7 s7 sT nT
        have ec2 : cutV [V.int c.one, V.int c.other, V.str (kindS c.foe)] none (some 2) = [c.one, c.other].map V.int := rfl
        have step : ∀ {kvs' : List (Key × V)}, (∀ (i : Nat) (c : Tie) (y : Int), i < j → i ≠ k → ts[i]? = some c → ((c.one = p ∧ c.other = y) ∨ (c.one = y ∧ c.other = p)) → valV kvs' (Sum.inl y : Key) ≠ none) → (j ≠ k → ∀ y : Int, ((c.one = p ∧ c.other = y) ∨ (c.one = y ∧ c.other = p)) → valV kvs' (Sum.inl y : Key) ≠ none) → ∀ (i : Nat) (c : Tie) (y : Int), i < j + 1 → i ≠ k → ts[i]? = some c → ((c.one = p ∧ c.other = y) ∨ (c.one = y ∧ c.other = p)) → valV kvs' (Sum.inl y : Key) ≠ none := fun old new i c y hi ik e1 e2 => by
          by_cases ek : i = j
          · subst ek
            rw [ec] at e1
            cases e1
            exact new ik y e2
          · exact old i c y (by omega) ik e1 e2
        refine ⟨.int (j : Nat), rfl, .int k, rfl, rfl, _, rfl, ?_⟩
        rw [show (!decide (V.int (j : Nat) = V.int k)) = !decide (j = k) by congr 1; rw [decide_eq_decide]; exact ⟨fun h => by have := V.int.inj h; omega, fun h => by rw [h]⟩]
        by_cases jk : j = k
        · rw [decide_eq_true jk]
          exact ⟨_, _, kvs, wl, rfl, hD8, hC8, ch, fw, key, s8, lt, hasp, step cl fun h => absurd jk h⟩
        rw [decide_eq_false jk]
        refine ⟨.int p, rfl, .ref a, rfl, 2, rfl, a, _, rfl, ha8, fun r H9 s9 h9 => ?_⟩
        rw [ec2] at h9
        refine ⟨r, _, rfl, .inr (SqT.of h9), rfl, flat_ints _, _, rfl, ?_⟩
        have s89 := s8.trans s9
        have hD9 := s9 _ _ hD8
        have hC9 := s9 _ _ hC8
        have ha9 := s9 _ _ ha8
        rw [inV80]
        by_cases hin : p ∈ [c.one, c.other]
        · rw [decide_eq_true hin]
          have hin' : c.one = p ∨ c.other = p := by
            rcases List.mem_cons.mp hin with h | h
            · exact .inl h.symm
            · exact .inr (List.mem_singleton.mp h).symm
          have es : [c.one, c.other].sum = c.one + c.other := by simp
          obtain ⟨y, ey, jy, hy⟩ : ∃ y : Int, [c.one, c.other].sum - p = y ∧ ((c.one = p ∧ c.other = y) ∨ (c.one = y ∧ c.other = p)) ∧ (0 ≤ y ∧ y < n) := by
            rcases hin' with h | h
            · exact ⟨c.other, by rw [es]; omega, .inl ⟨h, rfl⟩, okc.2.2.1, okc.2.2.2.1⟩
            · exact ⟨c.one, by rw [es]; omega, .inr ⟨rfl, h⟩, okc.1, okc.2.1⟩
          have uy : ∀ y', ((c.one = p ∧ c.other = y') ∨ (c.one = y' ∧ c.other = p)) → y' = y := fun y' h => by
            have ne := okc.2.2.2.2
            rcases h with ⟨h1, h2⟩ | ⟨h1, h2⟩ <;> rcases jy with ⟨g1, g2⟩ | ⟨g1, g2⟩ <;> omega
          have ady : Adj (ts.eraseIdx k) p y c.foe := ⟨c, List.mem_eraseIdx_iff_getElem?.mpr ⟨j, jk, ec⟩, rfl, jy⟩
          subst ey
          refine ⟨.ref a, rfl, 2, rfl, a, _, rfl, ha9, fun r2 H10 s10 h10 => ?_⟩
          rw [ec2] at h10
          have s90 := s89.trans s10
          have hD10 := s10 _ _ hD9
          have hC10 := s10 _ _ hC9
          have ha10 := s10 _ _ ha9
          refine ⟨r2, _, rfl, SqT.of h10, .int p, rfl, _, p, rfl, rfl, .ref D, rfl, D, _, rfl, DGet.k (k := Sum.inl ([c.one, c.other].sum - p)) hD10, _, rfl, ?_⟩
          have gl := ch.few
          cases e : valV kvs (Sum.inl ([c.one, c.other].sum - p) : Key) with
          | some v =>
            refine ⟨_, _, kvs, wl, rfl, hD10, hC10, ch, fw, key, s90, lt, hasp, step cl fun _ y' h => ?_⟩
            rw [uy y' h, e]
            simp
          | none =>
            refine ⟨.ref D, rfl, .ref a, rfl, 2, rfl, a, _, rfl, ha10, fun r3 H11 s11 h11 => ?_⟩
            rw [ec2] at h11
            refine ⟨r3, _, rfl, SqT.of h11, .int p, rfl, _, p, rfl, rfl, D, _, rfl, DPut.k (k := Sum.inl ([c.one, c.other].sum - p)) (s11 _ _ hD10) (small1000 (show kvs.length ≤ 1000 by omega)), ?_⟩
            have lp := lack_put (n := n) (v := .bl true) (x := [c.one, c.other].sum - p) hy.1 hy.2 e
            have hC11 : (upd H11 D (.dK (putK kvs (Sum.inl ([c.one, c.other].sum - p)) (.bl true)))) C = some (.lst (wl.map V.int)) := by rw [upd_ne hCD]; exact s11 _ _ hC10
            have hD11 := upd_same (H := H11) (a := D) (o := .dK (putK kvs (Sum.inl ([c.one, c.other].sum - p)) (.bl true)))
            have s11' := Same.mut (o := .dK (putK kvs (Sum.inl ([c.one, c.other].sum - p)) (.bl true))) (s90.trans s11) nD0
            have ha11 := s11' _ _ ha
            generalize upd H11 D (.dK (putK kvs (Sum.inl ([c.one, c.other].sum - p)) (.bl true))) = H12 at hC11 hD11 s11' ha11
            refine ⟨.ref C, rfl, .inl ⟨rfl, _, SqL.of hC11⟩, .ref a, rfl, 2, rfl, a, _, rfl, ha11, fun r4 H13 s13 h13 => ?_⟩
            rw [ec2] at h13
            refine ⟨r4, _, rfl, SqT.of h13, .int p, rfl, _, p, rfl, rfl, C, _, _, rfl, rfl, s13 _ _ hC11, by rw [List.length_map]; exact small1000 (by omega), ?_⟩
            have up : ∀ x : Int, valV kvs (Sum.inl x : Key) ≠ none → valV (putK kvs (Sum.inl ([c.one, c.other].sum - p)) (.bl true)) (Sum.inl x : Key) ≠ none := fun x hx => by
              rw [valV_put]
              split
              · simp
              · exact hx
            have hasy : valV (putK kvs (Sum.inl ([c.one, c.other].sum - p)) (.bl true)) (Sum.inl ([c.one, c.other].sum - p) : Key) ≠ none := by
              rw [valV_put, if_pos rfl]
              simp
            refine ⟨_, _, putK kvs (Sum.inl ([c.one, c.other].sum - p)) (.bl true), wl ++ [[c.one, c.other].sum - p], rfl, by rw [upd_ne (Ne.symm hCD)]; exact s13 _ _ hD11, by rw [upd_same, List.map_append]; rfl, ch.put hy.1 hy.2 e ((ch.rg p hasp).2.trans (Rch.adj ady)) (fun x hx => hx.imp (List.mem_append_left _) id) (.inl (by simp)), by rw [List.length_append]; simp only [List.length_cons, List.length_nil]; omega, fun x hx => ?_, Same.mut (s11'.trans s13) nC, by rw [List.length_append]; simp only [List.length_cons, List.length_nil]; omega, up _ hasp, step (fun i c' y' hi ik e1 e2 => up _ (cl i c' y' hi ik e1 e2)) fun _ y' h => by rw [uy y' h]; exact hasy⟩
            rcases List.mem_append.mp hx with h | h
            · exact up _ (key x h)
            · rw [List.mem_singleton.mp h]
              exact hasy
        · rw [decide_eq_false hin]
          refine ⟨_, _, kvs, wl, rfl, hD9, hC9, ch, fw, key, s89, lt, hasp, step cl fun _ y h => ?_⟩
          exfalso
          rcases h with ⟨h1, _⟩ | ⟨_, h2⟩
          · exact hin (by rw [← h1]; simp)
          · exact hin (by rw [← h2]; simp)
      · rintro σ' H7 ⟨y5, y6, kvs, wl, rfl, hD7, hC7, ch, fw, key, s7, lt, hasp, cl⟩
        refine ⟨_, lt, _, _, _, kvs, wl, rfl, hD7, hC7, ⟨ch.rg, fun x hx nd y f ad => ?_, ch.few, ch.has⟩, by omega, key, s7, rfl⟩
        by_cases xp : x = p
        · subst xp
          obtain ⟨c, hc, _, jn⟩ := ad
          obtain ⟨i, ik, ei⟩ := List.mem_eraseIdx_iff_getElem?.mp hc
          exact cl i c y (by rw [hul]; exact (List.getElem?_eq_some_iff.mp ei).1) ik ei jn
        · exact ch.cl x hx (fun z => z.elim nd xp) y f ad
    · have e0 : come = [] := by
        cases come with
        | nil => rfl
        | cons _ _ => exact (hb rfl).elim
      subst e0
      have dn := ch4.done (fun x h => by cases h) t.other
      refine ⟨.ref wa, rfl, wa, _, 1, .ref wb, rfl, rfl, SqT.of (s5 _ _ hwa), rfl, .int k, rfl, wb, us, k, .ref tc, rfl, rfl, SqT.of (s5 _ _ hwb), atI_nat eu, tc, _, 1, _, rfl, rfl, SqT.of (s5 _ _ htc), rfl, .ref D, rfl, D, _, rfl, DGet.k (k := Sum.inl t.other) hD5, ?_⟩
      refine q _ _ ?_ s5
      cases e : valV kvs (Sum.inl t.other : Key) with
      | none => exact ⟨fun _ r => absurd e (dn.mpr r), fun _ => rfl⟩
      | some v => exact ⟨(fun h => by cases h), fun h => absurd (dn.mp (by rw [e]; simp)) h⟩
end
/-! ### webs as data -/
theorem lay_tie (t : Tie) : (tieD t).canLay0 = true := by
  unfold tieD
  have h := (kind_ok t.foe).1
  simp only [PyData.canLay0, PyData.canLayAll0, Bool.true_and, Bool.and_true] at h ⊢
  exact h
theorem lay_ties : ∀ ts : List Tie, PyData.canLayAll0 (ts.map tieD) = true
  | [] => by simp [PyData.canLayAll0]
  | t :: ts => by rw [List.map_cons, PyData.canLayAll0, lay_tie t, lay_ties ts]; rfl
theorem lay_web (n : Int) (ts : List Tie) : (webD n ts).canLay0 = true := by
  unfold webD
  rw [PyData.canLay0, PyData.canLayAll0, PyData.canLayAll0, PyData.canLay0, PyData.canLay0, lay_ties, PyData.canLayAll0]
  rfl
theorem deep_ties : ∀ ts : List Tie, PyData.depthAll (ts.map tieD) ≤ 1
  | [] => by simp [PyData.depthAll]
  | t :: ts => by
    have h := deep_ties ts
    have g : (tieD t).depth = 1 := by simp [tieD, PyData.depth, PyData.depthAll]
    rw [List.map_cons, PyData.depthAll, g]
    omega
theorem shaped_web (n : Int) (ts : List Tie) : SeqAt.shaped (webD n ts) = true := by
  have h := deep_ties ts
  have d : (webD n ts).depth ≤ 3 := by
    simp only [webD, PyData.depth, PyData.depthAll]
    omega
  unfold SeqAt.shaped
  rw [lay_web]
  simp
  omega
theorem shaped_tiesD (ts : List Tie) : SeqAt.shaped (.tuple (ts.map tieD)) = true := by
  have h := deep_ties ts
  unfold SeqAt.shaped
  rw [PyData.canLay0, lay_ties, PyData.depth]
  simp
  omega
theorem eqv_nilT (ts : List Tie) : PyData.eqv (.tuple (ts.map tieD)) (.tuple []) = ts.isEmpty := by
  rw [PyData.eqv]
  cases ts <;> rfl
instance tieDec : DecidableEq Tie := fun t u => decidable_of_iff (t.one = u.one ∧ t.other = u.other ∧ t.foe = u.foe) ⟨fun h => by
  cases t
  cases u
  simp only at h
  obtain ⟨rfl, rfl, rfl⟩ := h
  rfl, fun h => by rw [h]; exact ⟨rfl, rfl, rfl⟩⟩
theorem eqv_tieD (t u : Tie) : PyData.eqv (tieD t) (tieD u) = decide (t = u) := by
  unfold tieD
  rw [PyData.eqv, PyData.eqvAll, PyData.eqv, PyData.eqvAll, PyData.eqv, PyData.eqvAll, PyData.eqv, PyData.eqvAll, Bool.and_true]
  obtain ⟨a, b, c⟩ := t
  obtain ⟨x, y, z⟩ := u
  by_cases h1 : a = x <;> by_cases h2 : b = y <;> cases c <;> cases z <;> simp [h1, h2, kindS] <;> decide
theorem eqvAll_ties : ∀ ts us : List Tie, PyData.eqvAll (ts.map tieD) (us.map tieD) = decide (ts = us)
  | [], [] => by simp [PyData.eqvAll]
  | [], y :: ys => by simp [PyData.eqvAll]
  | x :: xs, [] => by simp [PyData.eqvAll]
  | x :: xs, y :: ys => by
    rw [List.map_cons, List.map_cons, PyData.eqvAll, eqvAll_ties xs ys, eqv_tieD]
    by_cases h1 : x = y <;> by_cases h2 : xs = ys <;> simp [h1, h2]
theorem eqv_webD (n : Int) (ts us : List Tie) : PyData.eqv (webD n ts) (webD n us) = decide (ts = us) := by
  unfold webD
  rw [PyData.eqv, PyData.eqvAll, PyData.eqv, PyData.eqvAll, PyData.eqv, eqvAll_ties, PyData.eqvAll, Bool.and_true, beq_self_eq_true, Bool.true_and]
theorem Paired.set23 {α β : Type} {F : α → β → Prop} {a : α} {b : β} (g : F a b) : ∀ {l : List α} {m : List β} (k : Nat), Paired F l m → Paired F (l.set k a) (m.set k b)
  | _, _, _, .nil => .nil
  | _, _, 0, .cons _ t => .cons g t
  | _, _, k + 1, .cons h t => .cons h (Paired.set23 g k t)
theorem flips24 (b : Bool) : valV (mergeK [] [((Sum.inr "friend" : Key), V.str "foe"), (Sum.inr "foe", V.str "friend")]) (Sum.inr (kindS b)) = some (.str (kindS (!b))) := by
  cases b <;> decide
def spLaw (K : PySem.W.Frag) : Sp := fun vs H Q _ => ∃ (a : Addr) (ns : List Int), vs = [.ref a] ∧ SqL K H a (ns.map V.int) ∧ ns.length ≤ 63 ∧ ∀ H', Q (.bl true) H'
section
variable {P : Program} {w : World} {K : PySem.W.Frag} {mg : Str → Option Value} {base : Heap}
set_option maxHeartbeats 4000000 in
theorem ok_law {f : Addr} {fd : FuncData} (F : Fun K "law" "law" s_law f fd) (M : Free mg) (D_l_well : Df P w K mg base 1 "_law_well" ["_law_script", "_law_k"] (spWell K)) (D_l_web : Df P w K mg base 2 "_law_web" ["_law_well_here"] spWeb) (D_l_due : Df P w K mg base 2 "_law_due" ["_law_web_here"] spPlain) (D_plain : Df P w K mg base 4 "plain" ["web"] spPlain) (D_l_same : Df P w K mg base 4 "_law_same" ["_law_found", "_law_due_here"] (spSame 4)) (D_l_places : Df P w K mg base 2 "_law_places" ["_law_well_here", "_law_many"] spPlaces) (D_l_about : Df P w K mg base 1 "_law_about" ["_law_web_here", "_law_places_here"] spAbout) (D_l_draw : Df P w K mg base 1 "_law_draw" ["_law_well_here", "_law_most"] spDraw) (D_l_is_bridge : Df P w K mg base 1 "_law_is_bridge" ["_law_web_here", "_law_at"] spBridge) : FnOk P w K mg base CX0 5 f fd ["_law_script"] (spLaw K) := by
  obtain ⟨f_l_well, fd_l_well, G_l_well, g_l_well, k_l_well, b_l_well⟩ := D_l_well
  obtain ⟨f_l_web, fd_l_web, G_l_web, g_l_web, k_l_web, b_l_web⟩ := D_l_web
  obtain ⟨f_l_due, fd_l_due, G_l_due, g_l_due, k_l_due, b_l_due⟩ := D_l_due
  obtain ⟨f_plain, fd_plain, G_plain, g_plain, k_plain, b_plain⟩ := D_plain
  obtain ⟨f_l_same, fd_l_same, G_l_same, g_l_same, k_l_same, b_l_same⟩ := D_l_same
  obtain ⟨f_l_places, fd_l_places, G_l_places, g_l_places, k_l_places, b_l_places⟩ := D_l_places
  obtain ⟨f_l_about, fd_l_about, G_l_about, g_l_about, k_l_about, b_l_about⟩ := D_l_about
  obtain ⟨f_l_draw, fd_l_draw, G_l_draw, g_l_draw, k_l_draw, b_l_draw⟩ := D_l_draw
  obtain ⟨f_l_is_bridge, fd_l_is_bridge, G_l_is_bridge, g_l_is_bridge, k_l_is_bridge, b_l_is_bridge⟩ := D_l_is_bridge
  refine F.ok sc_law (fun vs H Q E h => ?_) (fun cdv A outer s H vs Q E hr h => ?_)
  · obtain ⟨sc, ns, rfl, _⟩ := h
    rfl
  · obtain ⟨sc, ns, rfl, hS, hlen, q⟩ := h
    have hu := room1 hr
    refine ⟨_, (pss_cons (ps_for PassesOwn.never rfl (pi_range1 (by rfl) M.range (pa_cons pe_int pa_nil)) (pg_name (i := 1) sc_law.nd rfl (.inl rfl))
        (pss_cons (ps_set (i := 2) sc_law.nd rfl (.inl rfl) (pe_call G_l_well (hr.mono (by decide)) (by rfl) g_l_well k_l_well b_l_well .nil pass0 (pa_cons (pv 0) (pa_cons (pv 1) pa_nil))))
        (pss_cons (ps_set (i := 3) sc_law.nd rfl (.inl rfl) (pe_call G_l_web (hr.mono (by decide)) (by rfl) g_l_web k_l_web b_l_web .nil pass0 (pa_cons (pv 2) pa_nil)))
        (pss_cons (ps_set (i := 4) sc_law.nd rfl (.inl rfl) (pe_call G_l_due (hr.mono (by decide)) (by rfl) g_l_due k_l_due b_l_due .nil pass0 (pa_cons (pv 3) pa_nil)))
        (pss_cons (ps_if (PW.pt (pw_or (pt_not (pt_val (pe_call G_l_same (hr.mono (by decide)) (by rfl) g_l_same k_l_same b_l_same .nil pass0 (pa_cons (pe_call G_plain (hr.mono (by decide)) (by rfl) g_plain k_plain b_plain .nil pass0 (pa_cons (pv 3) pa_nil)) (pa_cons (pv 4) pa_nil))))) (pw_or1 (pt_cmpR (op_neD hr.units) (pe_call G_plain (hr.mono (by decide)) (by rfl) g_plain k_plain b_plain .nil pass0 (pa_cons (pv 4) pa_nil)) (pv 4) (nomark _)))))
          (pss_one (ps_ret pe_bl))
          pss_nil)
        (pss_cons (ps_for PassesOwn.never rfl (pi_range1 (by rfl) M.range (pa_cons pe_int pa_nil)) (pg_name (i := 5) sc_law.nd rfl (.inl rfl))
          (pss_one (ps_if (pt_cmpR (op_neD hr.units) (pe_call G_plain (hr.mono (by decide)) (by rfl) g_plain k_plain b_plain .nil pass0 (pa_cons (pe_call G_l_about (hr.mono (by decide)) (by rfl) g_l_about k_l_about b_l_about .nil pass0 (pa_cons (pv 3) (pa_cons (pe_call G_l_places (hr.mono (by decide)) (by rfl) g_l_places k_l_places b_l_places .nil pass0 (pa_cons (pv 2) (pa_cons (pe_ix ix_tup (pv 3) pe_int (fun _ _ => rfl)) pa_nil))) pa_nil))) pa_nil)) (pv 4) (nomark _))
            (pss_one (ps_ret pe_bl))
            pss_nil)))
        (pss_one (ps_if (pt_cmpR (op_neD hr.units) (pe_ix ix_tup (pv 3) pe_int (fun _ _ => rfl)) (pe_tup pa_nil) (nomark _))
          (pss_cons (ps_set (i := 6) sc_law.nd rfl (.inl rfl) (pe_call G_l_draw (hr.mono (by decide)) (by rfl) g_l_draw k_l_draw b_l_draw .nil pass0 (pa_cons (pv 2) (pa_cons (pe_callB call_len_seq (by rfl) M.len PySem.boot_len (pa_cons (pe_ix ix_tup (pv 3) pe_int (fun _ _ => rfl)) pa_nil)) pa_nil))))
          (pss_cons (ps_asg (pe_ix ix_tup (pe_ix ix_tup (pv 3) pe_int (fun _ _ => rfl)) (pv 6) (fun _ _ => rfl)) (pg_tup rfl (pgs_cons (pg_name (i := 7) sc_law.nd rfl (.inl rfl)) (pgs_cons (pg_name (i := 8) sc_law.nd rfl (.inl rfl)) (pgs_cons (pg_name (i := 9) sc_law.nd rfl (.inl rfl)) pgs_nil)))))
          (pss_cons (ps_set (i := 10) sc_law.nd rfl (.inl rfl) (pe_tup (pa_cons (pv 7) (pa_cons (pv 8) (pa_cons (pe_dget hu (pe_disp (pps_cons pe_str pe_str (pps_cons pe_str pe_str pps_nil)) (by rfl) (by rfl) (fun z => by cases z) (by decide)) (pv 9) (fun _ _ => rfl)) pa_nil)))))
          (pss_cons (ps_set (i := 11) sc_law.nd rfl (.inl rfl) (pe_tup (pa_cons (pe_ix ix_tup (pv 3) pe_int (fun _ _ => rfl)) (pa_cons (pe_op op_catU (pe_op op_catU (pe_slice sl_tupU (pe_ix ix_tup (pv 3) pe_int (fun _ _ => rfl)) po_none (po_some (pv 6))) (pe_tup (pa_cons (pv 10) pa_nil))) (pe_slice sl_tupU (pe_ix ix_tup (pv 3) pe_int (fun _ _ => rfl)) (po_some (pe_op op_add (pv 6) pe_int)) po_none)) pa_nil))))
          (pss_one (ps_if (pt_cmpR op_ne (pe_cmpR (op_eqD hr.units) (pe_call G_plain (hr.mono (by decide)) (by rfl) g_plain k_plain b_plain .nil pass0 (pa_cons (pv 11) pa_nil)) (pv 4) (nomark _)) (pe_call G_l_is_bridge (hr.mono (by decide)) (by rfl) g_l_is_bridge k_l_is_bridge b_l_is_bridge .nil pass0 (pa_cons (pv 3) (pa_cons (pv 6) pa_nil))) (nomark _))
            (pss_one (ps_ret pe_bl))
            pss_nil))))))
          pss_nil))))))))
      (pss_one (ps_ret pe_bl))), ?_⟩
    refine ⟨2, rfl, by decide, by decide, ?_⟩
    refine for_range (lo := 0) (n := 2) (fun i σ' H' => ∃ y1 y2 y3 y4 y5 y6 y7 y8 y9 y10 y11 : Option V, σ' = [some (.ref sc), y1, y2, y3, y4, y5, y6, y7, y8, y9, y10, y11] ∧ SqL K H' sc (ns.map V.int)) ⟨none, none, none, none, none, none, none, none, none, none, none, rfl, hS⟩ ?_ ?_
    · rintro i σ' H1 hi ⟨y1, y2, y3, y4, y5, y6, y7, y8, y9, y10, y11, rfl, hS1⟩
      rw [show (0 : Int) + (i : Nat) = i from by omega]
      refine ⟨.ref sc, rfl, .int i, rfl, sc, ns, i, rfl, hS1, by omega, fun d H2 s2 nd D2 => ?_⟩
      have hS2 := Scr.mk' hS1 nd s2
      refine ⟨.ref d, rfl, d, 3, rfl, D2, by decide, fun wv n ts H3 hW ok D3 K3 => ?_⟩
      have hS3 := hS2.kp K3
      clear hS2 hS1 K3 D2 s2 nd
      obtain ⟨k, rfl⟩ : ∃ k : Nat, n = k := ⟨n.toNat, by have := ok.lo; omega⟩
      have n1 := ok.lo
      have n2 := ok.hi
      have few := ok.few
      obtain ⟨wa, wb, us, rfl, hwa, hwb, hp⟩ := id hW
      have hul : us.length = ts.length := Paired.length hp
      -- due
      refine ⟨.ref wa, rfl, .ref wa, k, ts, rfl, hW, ok, fun dv H4 c hc s4 hD => ?_⟩
      have okD : WebOk k (ts.map (colT c)) := col_ok ok c
      have fewD := okD.few
      -- plain is due
      refine ⟨.ref wa, rfl, .ref wa, k, ts, rfl, hW.tk (Same.tk s4), ok, fun pv H5 c2 hc2 s5 hP => ⟨dv, rfl, pv, dv, rfl, ?_, fun H6 s6 => ⟨_, rfl, ?_⟩⟩⟩
      · rw [pln0 ok.ok hc hc2] at hP
        exact web_lk hP (hD.tk (Same.tk s5)) fewD
      have s46 := s5.trans s6
      -- plain of due is due
      refine ⟨dv, rfl, dv, k, _, rfl, hD.tk (Same.tk s46), okD, fun pv2 H7 c3 hc3 s7 hP2 => ⟨dv, rfl, ?_⟩⟩
      rw [pln (b := c) ok.ok hc hc3] at hP2
      have s47 := s46.trans s7
      refine ⟨webD k _, webD k _, hP2.dp, (hD.tk (Same.tk s47)).dp, shaped_web _ _, shaped_web _ _, _, rfl, ?_⟩
      rw [SeqAt.eqv_refl _ (lay_web _ _)]
      have s37 := s4.trans s47
      -- turned about
      refine ⟨2, rfl, by decide, by decide, ?_⟩
      refine for_range (lo := 0) (n := 2) (fun j σ' H' => ∃ y5 : Option V, σ' = [some (.ref sc), some (.int i), some (.ref d), some (.ref wa), some dv, y5, y6, y7, y8, y9, y10, y11] ∧ Tk H7 H' ∧ Well H' d (1003 + 100 * j) ∧ Scr K H' sc d (ns.map V.int)) ⟨_, rfl, fun _ _ h => h, D3.same s37, hS3.same s37⟩ ?_ ?_
      · rintro j σ' H8 hj ⟨y5, rfl, t8, D8, hS8⟩
        have t38 := (Same.tk s37).trans t8
        refine ⟨.ref wa, rfl, .ref d, rfl, .ref wa, rfl, wa, _, 0, .int k, rfl, rfl, SqT.of (t38 _ _ hwa), rfl, d, _, k, rfl, D8, by omega, n1, n2, fun p ps H9 hp9 r9 o9 l9 D9 K9 => ?_⟩
        have k9 := K9.tk D8
        have t39 := t38.trans k9
        refine ⟨.ref wa, p, k, ts, ps, rfl, hW.tk t39, few, hp9, rising_nodup r9, fun av H10 s10 hA => ?_⟩
        rw [show turnT ps = colT (inP ps) from funext fun t => turn_col _ t] at hA
        refine ⟨av, k, _, rfl, hA, col_ok ok _, fun pv H11 c4 hc4 s11 hP4 => ⟨dv, rfl, ?_⟩⟩
        rw [pln (b := inP ps) ok.ok hc hc4] at hP4
        have s911 := s10.trans s11
        have t711 := (t8.trans k9).trans (Same.tk s911)
        refine ⟨webD k _, webD k _, hP4.dp, ((hD.tk (Same.tk s47)).tk t711).dp, shaped_web _ _, shaped_web _ _, _, rfl, ?_⟩
        rw [SeqAt.eqv_refl _ (lay_web _ _)]
        exact ⟨_, rfl, t711, (D9.same s911).mono (by omega), (hS8.kp K9).same s911⟩
      rintro σ' H8 ⟨y5', rfl, t8, D8, hS8⟩
      have t38 := (Same.tk s37).trans t8
      have hD8 := (hD.tk (Same.tk s47)).tk t8
      clear hS3 D3
      refine ⟨.ref wa, rfl, wa, _, 1, .ref wb, rfl, rfl, SqT.of (t38 _ _ hwa), rfl, Nat.zero_le _, fun e0 ne => ?_⟩
      have ee := same_new (o := .tup []) ne
      refine ⟨.tuple (ts.map tieD), .tuple [], .tup (SqT.of (ee _ _ (t38 _ _ hwb))) (dp_ties (ties_tk (t38.trans (Same.tk ee)) hp)), .tup (SqT.of upd_same) .nil, shaped_tiesD ts, by decide +kernel, _, rfl, ?_⟩
      rw [eqv_nilT]
      have t39 := t38.trans (Same.tk ee)
      have hD9 := hD8.tk (Same.tk ee)
      have D9 := D8.same ee
      have hS9 := hS8.same ee
      generalize upd H8 e0 (.tup []) = H9 at t39 hD9 D9 hS9
      cases hem : ts.isEmpty with
      | true => exact ⟨_, _, _, _, _, _, _, _, _, _, _, rfl, hS9.sq⟩
      | false =>
        have lpos : 0 < ts.length := by
          cases ts with
          | nil => cases hem
          | cons _ _ => simp
        refine ⟨.ref d, rfl, .ref wa, rfl, wa, _, 1, .ref wb, rfl, rfl, SqT.of (t39 _ _ hwa), rfl, wb, us, rfl, .inr (SqT.of (t39 _ _ hwb)), d, _, _, rfl, D9, by decide, by omega, Nat.lt_of_le_of_lt (show (us.length : Int).natAbs ≤ 120 by omega) (by decide), fun v H10 v0 v1 D10 K10 => ?_⟩
        obtain ⟨q0, rfl⟩ : ∃ q0 : Nat, v = q0 := ⟨v.toNat, by omega⟩
        have t10 := t39.trans (K10.tk D9)
        have hD10 := hD9.tk (K10.tk D9)
        have hS10 := hS9.kp K10
        have ql : q0 < ts.length := by omega
        obtain ⟨t, et⟩ : ∃ t, ts[q0]? = some t := ⟨_, List.getElem?_eq_getElem ql⟩
        obtain ⟨u, eu, tc, rfl, htc⟩ := Paired.at' hp et
        refine ⟨.ref wa, rfl, wa, _, 1, .ref wb, rfl, rfl, SqT.of (t10 _ _ hwa), rfl, .int q0, rfl, wb, us, q0, .ref tc, rfl, rfl, SqT.of (t10 _ _ hwb), atI_nat eu, tc, _, rfl, SqT.of (t10 _ _ htc), rfl, _, _, rfl, _, _, rfl, _, _, rfl, rfl, ?_⟩
        -- bent
        refine ⟨.int t.one, rfl, .int t.other, rfl, fun B nB => ⟨upd_same, [((Sum.inr "friend" : Key), V.str "foe"), (Sum.inr "foe", V.str "friend")], rfl, by decide, ?_⟩⟩
        rw [upd_upd]
        have hk := flips24 t.foe
        generalize mergeK [] [((Sum.inr "friend" : Key), V.str "foe"), (Sum.inr "foe", V.str "friend")] = kvs at hk ⊢
        have sB : Same H10 (upd H10 B (.dK kvs)) := same_new nB
        refine ⟨.str (kindS t.foe), rfl, B, .str (kindS (!t.foe)), rfl, ?_, by show 3 ≤ sizeLine; decide, fun o no => ?_⟩
        · rw [← hk]
          exact DGet.k (k := Sum.inr (kindS t.foe)) upd_same
        have so := same_new (o := .tup [.int t.one, .int t.other, .str (kindS (!t.foe))]) no
        have s12 := sB.trans so
        have ho12 := upd_same (H := upd H10 B (.dK kvs)) (a := o) (o := .tup [.int t.one, .int t.other, .str (kindS (!t.foe))])
        generalize upd (upd H10 B (.dK kvs)) o (.tup [.int t.one, .int t.other, .str (kindS (!t.foe))]) = H12 at s12 ho12
        have t12 := t10.trans (Same.tk s12)
        -- changed
        refine ⟨.ref wa, rfl, wa, _, 0, .int k, rfl, rfl, SqT.of (t12 _ _ hwa), rfl, .ref wa, rfl, wa, _, 1, .ref wb, rfl, rfl, SqT.of (t12 _ _ hwa), rfl, .int q0, rfl, q0, rfl, wb, us, rfl, t12 _ _ hwb, fun r5 H13 s13 h5 => ?_⟩
        rw [cut_take (by omega)] at h5
        refine ⟨.ref o, rfl, by show 1 ≤ sizeLine; decide, fun b nb => ?_⟩
        have sb := same_new (o := .tup [.ref o]) nb
        refine ⟨r5, b, _, _, rfl, rfl, sb _ _ h5, upd_same, by rw [List.length_take]; show min q0 us.length + 1 ≤ 100000; omega, fun r8 H14 s14 h8 => ?_⟩
        have s1214 := s13.trans (sb.trans s14)
        have t14 := t12.trans (Same.tk s1214)
        refine ⟨.ref wa, rfl, wa, _, 1, .ref wb, rfl, rfl, SqT.of (t14 _ _ hwa), rfl, .int q0, rfl, _, 1, rfl, rfl, _, rfl, wb, us, rfl, t14 _ _ hwb, fun r9 H15 s15 h9 => ?_⟩
        rw [show ((q0 : Int) + 1) = ((q0 + 1 : Nat) : Int) by omega, cut_drop (by omega)] at h9
        refine ⟨r8, r9, _, _, rfl, rfl, s15 _ _ h8, h9, by rw [List.length_append, List.length_take, List.length_drop]; show min q0 us.length + 1 + (us.length - (q0 + 1)) ≤ 100000; omega, fun r10 H16 s16 h10 => ⟨by show 2 ≤ sizeLine; decide, fun g ng => ?_⟩⟩
        have sg := same_new (o := .tup [.int k, .ref r10]) ng
        have s1217 := s1214.trans (s15.trans (s16.trans sg))
        have t17 := t12.trans (Same.tk s1217)
        have eL : us.take q0 ++ [V.ref o] ++ us.drop (q0 + 1) = us.set q0 (.ref o) := by
          rw [List.set_eq_take_append_cons_drop, if_pos (by omega)]
          simp
        rw [eL] at h10
        have hG : WebAt (upd H16 g (.tup [.int k, .ref r10])) (.ref g) k (bentT ts q0 t) := ⟨g, r10, us.set q0 (.ref o), rfl, upd_same, sg _ _ h10, Paired.set23 (show TieV _ _ (flipT t) from ⟨o, rfl, s1217 _ _ ho12⟩) q0 (ties_tk t17 hp)⟩
        have hD17 := hD10.tk (Same.tk (s12.trans s1217))
        have hS17 := hS10.same (s12.trans s1217)
        generalize upd H16 g (.tup [.int k, .ref r10]) = H17 at hG t17 hD17 hS17
        refine ⟨.ref g, rfl, .ref g, k, _, rfl, hG, bent_ok ok et, fun pv H18 c5 hc5 s18 hP5 => ⟨dv, rfl, webD k _, webD k _, hP5.dp, (hD17.tk (Same.tk s18)).dp, shaped_web _ _, shaped_web _ _, ?_⟩⟩
        rw [eqv_webD]
        refine ⟨.ref wa, rfl, .int q0, rfl, .ref wa, k, ts, q0, t, rfl, hW.tk (t17.trans (Same.tk s18)), ok, et, fun bb H19 hb s19 => ⟨rfl, _, rfl, ?_⟩⟩
        have eb : decide ((bentT ts q0 t).map (colT c5) = ts.map (colT c)) = bb := by
          rw [Bool.eq_iff_iff, decide_eq_true_iff, hb]
          exact pln_bent ok.ok et hc hc5
        rw [eb]
        have e2 : (!decide (V.bl bb = V.bl bb)) = false := by rw [decide_eq_true rfl]; rfl
        rw [e2]
        exact ⟨_, _, _, _, _, _, _, _, _, _, _, rfl, (hS17.same (s18.trans s19)).sq⟩
    · rintro σ' H2 ⟨y1, y2, y3, y4, y5, y6, y7, y8, y9, y10, y11, rfl, _⟩
      exact q _
end
/-! ### the end of a law whose defs hold generator expressions: their tables are empty behind the top -/
theorem walk_tabs {l : PySem.W.OpenLaw} {n k : Nat} {q : Program} {loose : List Str} {XP : (Str → Option Value) → Heap → Prop} {YP : World → Heap → Prop} {d : DefRec} {K : Params → PySem.W.Frag} {x : Str}
    (hn : l.most = some n) (hn2 : n ≤ sizeLine) (hdf : d.params.defaults = []) (hr : Room k callerA) (hY : ∀ (w : World) (h : Heap), YP w h → (K w.params).In h)
    (F : ∀ (w : World) (mg : Str → Option Value) (fa : Addr) (h : Heap), (K w.params).In h → h.Ns mainGlobals mg → mg d.name = some (.ref fa) →
      (∀ (y : Str) (fy : Addr), ((recsOf q).any fun e => e.name == y) = true → mg y = some (.ref fy) → LamX.OwnTab (K w.params) fy h) → LamX.LawAtS l w (K w.params) CX0 k n x mg fa h) :
    PySem.W.WalkO q loose XP YP l.row.toRowW d [] (fun f vs => PySem.call f vs) := by
  refine Att.attach_callB hn hdf fun w s₀ s₁ mg mb fa o pm cd doc a vs ns G Y ho hd hcd hmg hobj hints hlen hbits hg => ?_
  have KX := hY w _ Y
  have tabs : ∀ (y : Str) (fy : Addr), ((recsOf q).any fun e => e.name == y) = true → mg y = some (.ref fy) → LamX.OwnTab (K w.params) fy s₁.heap := fun y fy hy hm c P o1 fd1 e dd vs1 sl k1 k2 k3 k4 k5 => by
    obtain ⟨dL, hmem, hnm⟩ := List.any_eq_true.mp hy
    have hnm : dL.name = y := beq_iff_eq.mp hnm
    obtain ⟨a', o', fd', c', P', h1, h2, h3, h4, h5, h6⟩ := G.T.tab dL hmem
    rw [hnm, hm] at h1
    cases h1
    rw [KX _ _ k1] at h2
    cases h2
    rw [k2] at h3
    cases h3
    rw [k3] at h4
    cases h4
    obtain ⟨⟨oc, vc, e1, _, e3, e4⟩, hP⟩ := h6
    rw [KX _ _ k4] at e1
    cases e1
    cases e3
    rw [k5] at e4
    cases e4
    exact hP
  obtain ⟨fd, cs, sp, hT, nT, C, hb, hsp, hF⟩ := F w mg fa _ KX G.T.g hmg tabs
  exact LamX.law_callTs KX G.T.g G.T.b G.T.builtins G.T.nolimit hg hT nT C G.T.bmain hobj hints (Nat.le_trans hlen hn2) hr hF hb (fun H hH hS => hsp H a ns hlen hbits hH hS) fun H e s' z => z
/-- where a def stands, and where its code object does -/
structure At (K : PySem.W.Frag) (x : Str) (st : Stmt) (f : Addr) : Prop where
  ns : PySem.W.nsIn K mainGlobals x = some (some (.ref f))
  ex : ∃ (oc : Value) (od : Option Addr) (kV doc pm : Value) (an : Option Addr) (cdv ct : Value) (osl : Array (Option Value)),
    K.lookup f = some ⟨oc, od, .func (PySem.W.fnOf x x (defArgs st) (defBody st) (defScope st) .none kV doc pm an cdv ct), osl⟩ ∧ PySem.W.codeIn K cdv x = true
  kp : PySem.W.keepIn K (.ref f) = true
theorem at_mk {K : PySem.W.Frag} {x : Str} {st : Stmt} {f : Addr} {oc : Value} {od an : Option Addr} {osl : Array (Option Value)} {kV doc pm cdv ct : Value} (a : PySem.W.nsIn K mainGlobals x = some (some (.ref f)))
    (l : K.lookup f = some ⟨oc, od, .func (PySem.W.fnOf x x (defArgs st) (defBody st) (defScope st) .none kV doc pm an cdv ct), osl⟩) (c : PySem.W.codeIn K cdv x = true) (k : PySem.W.keepIn K (.ref f) = true) : At K x st f := ⟨a, ⟨oc, od, kV, doc, pm, an, cdv, ct, osl, l, c⟩, k⟩
theorem At.fn {K : PySem.W.Frag} {x : Str} {st : Stmt} {f : Addr} (h : At K x st f) : ∃ fd, Fun K x x st f fd := by
  obtain ⟨oc, od, kV, doc, pm, an, cdv, ct, osl, l, c⟩ := h.ex
  exact ⟨_, fun_mk l c h.kp⟩
structure AtC (K : PySem.W.Frag) (x : Str) (st : Stmt) (f c Pt : Addr) : Prop where
  ns : PySem.W.nsIn K mainGlobals x = some (some (.ref f))
  ex : ∃ (oc : Value) (od : Option Addr) (kV doc pm : Value) (an : Option Addr) (ct : Value) (osl : Array (Option Value)),
    K.lookup f = some ⟨oc, od, .func (PySem.W.fnOf x x (defArgs st) (defBody st) (defScope st) .none kV doc pm an (.ref c) ct), osl⟩ ∧ PySem.W.codeIn K (.ref c) x = true
  kp : PySem.W.keepIn K (.ref f) = true
  co : ∃ (dd : Option Addr) (vs : Array Value) (sl : Array (Option Value)) (file : Str) (tf : Tok) (flags : Int) (tg : Tok) (inF : Bool) (text : Int) (tt : Tok), K.lookup c = some ⟨.type "code", dd, .fields vs, sl⟩ ∧ vs[11]? = some (.ref Pt) ∧ vs.getD 11 .none = .ref Pt ∧ vs.getD 18 .none = .str file tf ∧
    vs.getD 7 .none = .int flags tg ∧ vs.getD 9 .none = .bool inF ∧ vs.getD 10 .none = .int text tt ∧ c ≠ Pt
  nP : K.lookup Pt = none
theorem atC_mk {K : PySem.W.Frag} {x : Str} {st : Stmt} {f c Pt : Addr} {oc : Value} {od an dd : Option Addr} {osl sl : Array (Option Value)} {kV doc pm ct : Value} {vs : Array Value} {file : Str} {tf tg tt : Tok} {flags text : Int} {inF : Bool} (a : PySem.W.nsIn K mainGlobals x = some (some (.ref f)))
    (l : K.lookup f = some ⟨oc, od, .func (PySem.W.fnOf x x (defArgs st) (defBody st) (defScope st) .none kV doc pm an (.ref c) ct), osl⟩) (cc : PySem.W.codeIn K (.ref c) x = true) (k : PySem.W.keepIn K (.ref f) = true)
    (lc : K.lookup c = some ⟨.type "code", dd, .fields vs, sl⟩) (v11 : vs[11]? = some (.ref Pt)) (w11 : vs.getD 11 .none = .ref Pt) (v18 : vs.getD 18 .none = .str file tf) (v7 : vs.getD 7 .none = .int flags tg) (v9 : vs.getD 9 .none = .bool inF) (v10 : vs.getD 10 .none = .int text tt) (ne : c ≠ Pt)
    (nP : K.lookup Pt = none) : AtC K x st f c Pt := ⟨a, ⟨oc, od, kV, doc, pm, an, ct, osl, l, cc⟩, k, ⟨dd, vs, sl, file, tf, flags, tg, inF, text, tt, lc, v11, w11, v18, v7, v9, v10, ne⟩, nP⟩
theorem AtC.fn {K : PySem.W.Frag} {x : Str} {st : Stmt} {f c Pt : Addr} (h : AtC K x st f c Pt) : ∃ fd, FunC K x x st f fd c := by
  obtain ⟨oc, od, kV, doc, pm, an, ct, osl, l, cc⟩ := h.ex
  exact ⟨_, ⟨oc, od, kV, doc, pm, an, ct, osl, rfl, l, cc⟩, h.kp⟩
theorem AtC.hd {K : PySem.W.Frag} {h : Heap} {x : Str} {st : Stmt} {f c Pt : Addr} (a : AtC K x st f c Pt) (X : K.In h) : PySem.W.CodeHd h c Pt := by
  obtain ⟨dd, vs, sl, file, tf, flags, tg, inF, text, tt, lc, v11, w11, v18, v7, v9, v10, ne⟩ := a.co
  exact ⟨_, vs, file, tf, flags, tg, inF, text, tt, X _ _ lc, rfl, rfl, v11, w11, v18, v7, v9, v10, ne⟩
theorem AtC.tab {K : PySem.W.Frag} {h : Heap} {x : Str} {st : Stmt} {f c Pt : Addr} (a : AtC K x st f c Pt) (o : LamX.OwnTab K f h) : h.get? Pt = some { cls := .none, data := .fields #[] } := by
  obtain ⟨oc, od, kV, doc, pm, an, ct, osl, l, cc⟩ := a.ex
  obtain ⟨dd, vs, sl, file, tf, flags, tg, inF, text, tt, lc, v11, w11, v18, v7, v9, v10, ne⟩ := a.co
  exact o c Pt _ _ _ _ _ _ l rfl rfl lc v11
section
variable {P : Program} {w : World} {K : PySem.W.Frag} {mg : Str → Option Value} {base : Heap}
theorem Df.of {x : Str} {st : Stmt} {f : Addr} {fd : FuncData} {k : Nat} {ps : List Str} {sp : Sp} (g : mg x = some (.ref f)) (F : Fun K x x st f fd) (G : FnOk P w K mg base CX0 k f fd ps sp)
    (h : ∀ (kV doc pm : Value) (an : Option Addr) (cdv ct : Value) (us : List Value), us.length = ps.length → bindArgs (PySem.W.fnOf x x (defArgs st) (defBody st) (defScope st) .none kV doc pm an cdv ct) ⟨us, []⟩ = pure (ps.zip us)) : Df P w K mg base k x ps sp :=
  ⟨f, fd, G, g, F.kp, F.binds h⟩
end
/-! ### what the top has written -/
section
variable {P : Program} {w : World} {K : PySem.W.Frag} {mg : Str → Option Value} {base : Heap}
set_option maxHeartbeats 0 in
theorem law_at {l : PySem.W.OpenLaw} {w : World} {K : PySem.W.Frag} {h : Heap} {mg : Str → Option Value} {fa f0 f1 f2 f3 f4 f5 f6 f7 f8 f9 f10 f11 f12 f13 f14 f15 f16 f17 f18 f19 f20  : Addr} (X : K.In h) (G : h.Ns mainGlobals mg) (hfa : mg "law" = some (.ref fa))
    
    (a0 : At K "neighbours" s_neighbours f0)
    (a1 : At K "sides_from" s_sides_from f1)
    (a2 : At K "breaks" s_breaks f2)
    (a3 : At K "broken_by" s_broken_by f3)
    (a4 : At K "sides_of" s_sides_of f4)
    (a5 : At K "turned_tie" s_turned_tie f5)
    (a6 : At K "turned" s_turned f6)
    (a7 : At K "places_turned" s_places_turned f7)
    (a8 : At K "stems" s_stems f8)
    (a9 : At K "plain" s_plain f9)
    (a10 : At K "_law_well" s_l_well f10)
    (a11 : At K "_law_draw" s_l_draw f11)
    (a12 : At K "_law_web" s_l_web f12)
    (a13 : At K "_law_places" s_l_places f13)
    (a14 : At K "_law_about" s_l_about f14)
    (a15 : At K "_law_same" s_l_same f15)
    (a16 : At K "_law_stems" s_l_stems f16)
    (a17 : At K "_law_closed" s_l_closed f17)
    (a18 : At K "_law_due" s_l_due f18)
    (a19 : At K "_law_is_bridge" s_l_is_bridge f19)
    (a20 : At K "law" s_law f20)
    (z0 : PySem.W.nsIn K mainGlobals "len" = some none)
    (z1 : PySem.W.nsIn K mainGlobals "int" = some none)
    (z2 : PySem.W.nsIn K mainGlobals "bool" = some none)
    (z3 : PySem.W.nsIn K mainGlobals "str" = some none)
    (z4 : PySem.W.nsIn K mainGlobals "list" = some none)
    (z5 : PySem.W.nsIn K mainGlobals "tuple" = some none)
    (z6 : PySem.W.nsIn K mainGlobals "range" = some none)
    (z7 : PySem.W.nsIn K mainGlobals "isinstance" = some none)
    (z8 : PySem.W.nsIn K mainGlobals "sum" = some none)
    (z9 : PySem.W.nsIn K mainGlobals "all" = some none)
    (z10 : PySem.W.nsIn K mainGlobals "enumerate" = some none)
    (z11 : PySem.W.nsIn K mainGlobals "max" = some none)
    (z12 : PySem.W.nsIn K mainGlobals "min" = some none)
    (z13 : PySem.W.nsIn K mainGlobals "zip" = some none)
     :
    LamX.LawAtS l w K CX0 5 63 "_law_script" mg fa h := by
  have efa := hfa.symm.trans (PySem.W.mg_of X G a20.ns)
  cases efa
  have M : Free mg := ⟨PySem.W.mg_none_of X G z0, PySem.W.mg_none_of X G z1, PySem.W.mg_none_of X G z2, PySem.W.mg_none_of X G z3, PySem.W.mg_none_of X G z4, PySem.W.mg_none_of X G z5, PySem.W.mg_none_of X G z6, PySem.W.mg_none_of X G z7, PySem.W.mg_none_of X G z8⟩
  have m_all := PySem.W.mg_none_of X G z9
  have m_enumerate := PySem.W.mg_none_of X G z10
  have m_max := PySem.W.mg_none_of X G z11
  have m_min := PySem.W.mg_none_of X G z12
  have m_zip := PySem.W.mg_none_of X G z13
  obtain ⟨d0, F0⟩ := a0.fn
  obtain ⟨d1, F1⟩ := a1.fn
  obtain ⟨d2, F2⟩ := a2.fn
  obtain ⟨d3, F3⟩ := a3.fn
  obtain ⟨d4, F4⟩ := a4.fn
  obtain ⟨d5, F5⟩ := a5.fn
  obtain ⟨d6, F6⟩ := a6.fn
  obtain ⟨d7, F7⟩ := a7.fn
  obtain ⟨d8, F8⟩ := a8.fn
  obtain ⟨d9, F9⟩ := a9.fn
  obtain ⟨d10, F10⟩ := a10.fn
  obtain ⟨d11, F11⟩ := a11.fn
  obtain ⟨d12, F12⟩ := a12.fn
  obtain ⟨d13, F13⟩ := a13.fn
  obtain ⟨d14, F14⟩ := a14.fn
  obtain ⟨d15, F15⟩ := a15.fn
  obtain ⟨d16, F16⟩ := a16.fn
  obtain ⟨d17, F17⟩ := a17.fn
  obtain ⟨d18, F18⟩ := a18.fn
  obtain ⟨d19, F19⟩ := a19.fn
  obtain ⟨d20, F20⟩ := a20.fn
  have g0 := PySem.W.mg_of X G a0.ns
  have g1 := PySem.W.mg_of X G a1.ns
  have g2 := PySem.W.mg_of X G a2.ns
  have g3 := PySem.W.mg_of X G a3.ns
  have g4 := PySem.W.mg_of X G a4.ns
  have g5 := PySem.W.mg_of X G a5.ns
  have g6 := PySem.W.mg_of X G a6.ns
  have g7 := PySem.W.mg_of X G a7.ns
  have g8 := PySem.W.mg_of X G a8.ns
  have g9 := PySem.W.mg_of X G a9.ns
  have g10 := PySem.W.mg_of X G a10.ns
  have g11 := PySem.W.mg_of X G a11.ns
  have g12 := PySem.W.mg_of X G a12.ns
  have g13 := PySem.W.mg_of X G a13.ns
  have g14 := PySem.W.mg_of X G a14.ns
  have g15 := PySem.W.mg_of X G a15.ns
  have g16 := PySem.W.mg_of X G a16.ns
  have g17 := PySem.W.mg_of X G a17.ns
  have g18 := PySem.W.mg_of X G a18.ns
  have g19 := PySem.W.mg_of X G a19.ns
  have hb0 : ∀ (s : Shared) (u : Value), BindsTo s d20 ⟨[u], []⟩ [("_law_script", u)] := by
    obtain ⟨oc, od, kV, doc, pm, an, cdv, ct, osl, rfl, _⟩ := F20.ex
    exact fun s u => .of_eq rfl
  refine ⟨d20, [], spLaw K, (fun p hp => by simp at hp), (fun p hp => by simp at hp), (fun p hp => by simp at hp), hb0, fun H a ns hl _ hT hS => ⟨a, ns, rfl, hS, hl, fun _ => rfl⟩, fun base KB GB TB => ?_⟩
  have D0 : Df l.prog w K mg base 1 "neighbours" ["web"] spNeighbours := .of g0 F0 (ok_neighbours F0 M) fun _ _ _ _ _ _ us hl => match us, hl with | [_], _ => rfl
  have D1 : Df l.prog w K mg base 1 "sides_from" ["start", "around"] spSidesFrom := .of g1 F1 (ok_sides_from F1 M) fun _ _ _ _ _ _ us hl => match us, hl with | [_, _], _ => rfl
  have D2 : Df l.prog w K mg base 1 "breaks" ["sides", "tie"] spBreaks := .of g2 F2 (ok_breaks F2) fun _ _ _ _ _ _ us hl => match us, hl with | [_, _], _ => rfl
  have D3 : Df l.prog w K mg base 2 "broken_by" ["web", "sides"] spBroken := .of g3 F3 (ok_broken_by F3 M m_enumerate D2) fun _ _ _ _ _ _ us hl => match us, hl with | [_, _], _ => rfl
  have D4 : Df l.prog w K mg base 3 "sides_of" ["web"] spFixed := .of g4 F4 (ok_sides_of F4 M D0 D1 D3) fun _ _ _ _ _ _ us hl => match us, hl with | [_], _ => rfl
  have D5 : Df l.prog w K mg base 1 "turned_tie" ["tie", "among"] spTurnedTie := .of g5 F5 (ok_turned_tie F5) fun _ _ _ _ _ _ us hl => match us, hl with | [_, _], _ => rfl
  have D6 : Df l.prog w K mg base 2 "turned" ["web", "places"] (spTurned K) := .of g6 F6 (ok_turned F6 M D5) fun _ _ _ _ _ _ us hl => match us, hl with | [_, _], _ => rfl
  have D7 : Df l.prog w K mg base 1 "places_turned" ["sides"] spOnes := .of g7 F7 (ok_places_turned F7 M m_enumerate) fun _ _ _ _ _ _ us hl => match us, hl with | [_], _ => rfl
  have D8 : Df l.prog w K mg base 1 "stems" ["web"] spStems := .of g8 F8 (ok_stems F8 M m_enumerate) fun _ _ _ _ _ _ us hl => match us, hl with | [_], _ => rfl
  have D9 : Df l.prog w K mg base 4 "plain" ["web"] spPlain := .of g9 F9 (ok_plain F9 M D8 D4 D7 D6) fun _ _ _ _ _ _ us hl => match us, hl with | [_], _ => rfl
  have D10 : Df l.prog w K mg base 1 "_law_well" ["_law_script", "_law_k"] (spWell K) := .of g10 F10 (ok_l_well F10 M) fun _ _ _ _ _ _ us hl => match us, hl with | [_, _], _ => rfl
  have D11 : Df l.prog w K mg base 1 "_law_draw" ["_law_well_here", "_law_most"] spDraw := .of g11 F11 (ok_l_draw F11) fun _ _ _ _ _ _ us hl => match us, hl with | [_, _], _ => rfl
  have D12 : Df l.prog w K mg base 2 "_law_web" ["_law_well_here"] spWeb := .of g12 F12 (ok_l_web F12 M D11) fun _ _ _ _ _ _ us hl => match us, hl with | [_], _ => rfl
  have D13 : Df l.prog w K mg base 2 "_law_places" ["_law_well_here", "_law_many"] spPlaces := .of g13 F13 (ok_l_places F13 M D11) fun _ _ _ _ _ _ us hl => match us, hl with | [_, _], _ => rfl
  have D14 : Df l.prog w K mg base 1 "_law_about" ["_law_web_here", "_law_places_here"] spAbout := .of g14 F14 (ok_l_about F14 M) fun _ _ _ _ _ _ us hl => match us, hl with | [_, _], _ => rfl
  have D15 : Df l.prog w K mg base 4 "_law_same" ["_law_found", "_law_due_here"] (spSame 4) := .of g15 F15 (ok_l_same F15 M m_all m_zip g15 (F15.binds fun _ _ _ _ _ _ us hl => match us, hl with | [_, _], _ => rfl) 4) fun _ _ _ _ _ _ us hl => match us, hl with | [_, _], _ => rfl
  have D16 : Df l.prog w K mg base 1 "_law_stems" ["_law_web_here"] spLStems := .of g16 F16 (ok_l_stems F16 M m_enumerate) fun _ _ _ _ _ _ us hl => match us, hl with | [_], _ => rfl
  have D17 : Df l.prog w K mg base 1 "_law_closed" ["_law_web_here", "_law_stems_here", "_law_tie"] spClosed23 := .of g17 F17 (ok_l_closed F17 M) fun _ _ _ _ _ _ us hl => match us, hl with | [_, _, _], _ => rfl
  have D18 : Df l.prog w K mg base 2 "_law_due" ["_law_web_here"] spPlain := .of g18 F18 (ok_l_due F18 M m_enumerate D16 D17) fun _ _ _ _ _ _ us hl => match us, hl with | [_], _ => rfl
  have D19 : Df l.prog w K mg base 1 "_law_is_bridge" ["_law_web_here", "_law_at"] spBridge := .of g19 F19 (ok_l_is_bridge F19 M m_enumerate) fun _ _ _ _ _ _ us hl => match us, hl with | [_, _], _ => rfl
  exact ok_law F20 M D10 D12 D18 D9 D15 D13 D14 D11 D19
end
end FF
open PySem PySem.W PyProof.Rows
set_option maxRecDepth 100000 in
set_option maxHeartbeats 0 in
theorem PySem.Challenge.cw_friendfoe_k24_plain_webs_holds : PySem.Challenge.rw_friendfoe_k24_plain_webs.Holds := by
  w_on; o_law; k_head; (case hw => w_witness2)
  k_fill
  refine FF.walk_tabs (l := PySem.Challenge.rw_friendfoe_k24_plain_webs) (n := 63) (k := 5) (x := "_law_script") rfl (by decide) rfl ⟨rfl, by decide, by decide⟩ (fun w h Y => PySem.W.kIn_of Y) ?F
  case F =>
    intro w mg fa h KX G hmg tabs
    refine' FF.law_at KX G hmg  ?a0 ?a1 ?a2 ?a3 ?a4 ?a5 ?a6 ?a7 ?a8 ?a9 ?a10 ?a11 ?a12 ?a13 ?a14 ?a15 ?a16 ?a17 ?a18 ?a19 ?a20 ?z0 ?z1 ?z2 ?z3 ?z4 ?z5 ?z6 ?z7 ?z8 ?z9 ?z10 ?z11 ?z12 ?z13 
    (case a0 => refine' FF.at_mk ?p1 ?p2 ?p3 ?p4; (case p1 => k_is); (case p2 => k_is); (case p3 => k_is); (case p4 => k_is))
    (case a1 => refine' FF.at_mk ?p1 ?p2 ?p3 ?p4; (case p1 => k_is); (case p2 => k_is); (case p3 => k_is); (case p4 => k_is))
    (case a2 => refine' FF.at_mk ?p1 ?p2 ?p3 ?p4; (case p1 => k_is); (case p2 => k_is); (case p3 => k_is); (case p4 => k_is))
    (case a3 => refine' FF.at_mk ?p1 ?p2 ?p3 ?p4; (case p1 => k_is); (case p2 => k_is); (case p3 => k_is); (case p4 => k_is))
    (case a4 => refine' FF.at_mk ?p1 ?p2 ?p3 ?p4; (case p1 => k_is); (case p2 => k_is); (case p3 => k_is); (case p4 => k_is))
    (case a5 => refine' FF.at_mk ?p1 ?p2 ?p3 ?p4; (case p1 => k_is); (case p2 => k_is); (case p3 => k_is); (case p4 => k_is))
    (case a6 => refine' FF.at_mk ?p1 ?p2 ?p3 ?p4; (case p1 => k_is); (case p2 => k_is); (case p3 => k_is); (case p4 => k_is))
    (case a7 => refine' FF.at_mk ?p1 ?p2 ?p3 ?p4; (case p1 => k_is); (case p2 => k_is); (case p3 => k_is); (case p4 => k_is))
    (case a8 => refine' FF.at_mk ?p1 ?p2 ?p3 ?p4; (case p1 => k_is); (case p2 => k_is); (case p3 => k_is); (case p4 => k_is))
    (case a9 => refine' FF.at_mk ?p1 ?p2 ?p3 ?p4; (case p1 => k_is); (case p2 => k_is); (case p3 => k_is); (case p4 => k_is))
    (case a10 => refine' FF.at_mk ?p1 ?p2 ?p3 ?p4; (case p1 => k_is); (case p2 => k_is); (case p3 => k_is); (case p4 => k_is))
    (case a11 => refine' FF.at_mk ?p1 ?p2 ?p3 ?p4; (case p1 => k_is); (case p2 => k_is); (case p3 => k_is); (case p4 => k_is))
    (case a12 => refine' FF.at_mk ?p1 ?p2 ?p3 ?p4; (case p1 => k_is); (case p2 => k_is); (case p3 => k_is); (case p4 => k_is))
    (case a13 => refine' FF.at_mk ?p1 ?p2 ?p3 ?p4; (case p1 => k_is); (case p2 => k_is); (case p3 => k_is); (case p4 => k_is))
    (case a14 => refine' FF.at_mk ?p1 ?p2 ?p3 ?p4; (case p1 => k_is); (case p2 => k_is); (case p3 => k_is); (case p4 => k_is))
    (case a15 => refine' FF.at_mk ?p1 ?p2 ?p3 ?p4; (case p1 => k_is); (case p2 => k_is); (case p3 => k_is); (case p4 => k_is))
    (case a16 => refine' FF.at_mk ?p1 ?p2 ?p3 ?p4; (case p1 => k_is); (case p2 => k_is); (case p3 => k_is); (case p4 => k_is))
    (case a17 => refine' FF.at_mk ?p1 ?p2 ?p3 ?p4; (case p1 => k_is); (case p2 => k_is); (case p3 => k_is); (case p4 => k_is))
    (case a18 => refine' FF.at_mk ?p1 ?p2 ?p3 ?p4; (case p1 => k_is); (case p2 => k_is); (case p3 => k_is); (case p4 => k_is))
    (case a19 => refine' FF.at_mk ?p1 ?p2 ?p3 ?p4; (case p1 => k_is); (case p2 => k_is); (case p3 => k_is); (case p4 => k_is))
    (case a20 => refine' FF.at_mk ?p1 ?p2 ?p3 ?p4; (case p1 => k_is); (case p2 => k_is); (case p3 => k_is); (case p4 => k_is))
    (case z0 => k_is)
    (case z1 => k_is)
    (case z2 => k_is)
    (case z3 => k_is)
    (case z4 => k_is)
    (case z5 => k_is)
    (case z6 => k_is)
    (case z7 => k_is)
    (case z8 => k_is)
    (case z9 => k_is)
    (case z10 => k_is)
    (case z11 => k_is)
    (case z12 => k_is)
    (case z13 => k_is)
