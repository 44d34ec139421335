import PyProof.Rows.All
import Wide.All
import OpenK.AllK
import Wide.FinOn
import HandS.ForMost
import HandS.IsInst
import HandS.TupAny
import HandS.TupLe
import HandS.Wide
import HandS.Style
import HandS.SortInts
import HandS.Conv
import HandS.More
import HandS.EndTab
import HandS.EndOwn
import HandS.AnyAll
import HandS.GenOver
import HandS.Evl
import HandS.Walk
import HandS.NoneIn
import HandS.Zip
import HandS.DictComp
import HandS.SetFor
import KE.GoesEnum
import HandS.TupMul
import HandS.Strs
import KE.DataMinMax
import HandS.ForExc
import HandS.ExcIs
import HandS.SetKeys
import KE.DatumOrd
import HandS.Remove
import PySem.Challenge.RW_friendfoe_k20_whole_no_ring_is_shorter
set_option Elab.async false
set_option linter.all false
set_option maxRecDepth 100000
namespace FF
open PySem PySem.Spec PyProof.Rows L2
/-! ### heaps: what is kept -/
/-- all that is tracked, but at d and c, is as it was -/
def Kp (d c : Addr) (H H' : Hp) : Prop := ∀ b o, b ≠ d → b ≠ c → H b = some o → H' b = some o
theorem Kp.refl {d c : Addr} {H : Hp} : Kp d c H H := fun _ _ _ _ h => h
theorem Kp.trans {d c : Addr} {H H1 H2 : Hp} (a : Kp d c H H1) (b : Kp d c H1 H2) : Kp d c H H2 := fun x o h1 h2 h => b x o h1 h2 (a x o h1 h2 h)
theorem Kp.at_d {d c : Addr} {H : Hp} {o : HO} : Kp d c H (upd H d o) := fun b u h1 _ h => by rw [upd_ne h1]; exact h
theorem Kp.at_c {d c : Addr} {H : Hp} {o : HO} : Kp d c H (upd H c o) := fun b u _ h2 h => by rw [upd_ne h2]; exact h
theorem Kp.new {d c p : Addr} {H : Hp} {o : HO} (hp : H p = none) : Kp d c H (upd H p o) := fun b u _ _ h => by rw [upd_ne (ne_of_none h hp)]; exact h
theorem same_new {H : Hp} {p : Addr} {o : HO} (h : H p = none) : Same H (upd H p o) := fun b x e => by
  rw [upd_ne (ne_of_none e h)]
  exact e
theorem Same.kp {d c : Addr} {H H' : Hp} (s : Same H H') : Kp d c H H' := fun b o _ _ h => s b o h
/-! ### defs as they are called -/
def Df (P : Program) (w : World) (K : PySem.W.Frag) (mg : Str → Option Value) (base : Heap) (k : Nat) (x : Str) (ps : List Str) (sp : Sp) : Prop :=
  ∃ (f : Addr) (fd : FuncData), FnOk P w K mg base CX0 k f fd ps sp ∧ mg x = some (.ref f) ∧ PySem.W.keepIn K (.ref f) = true ∧ Binds K fd ps []
/-- built-in names that the module has not taken -/
structure Free (mg : Str → Option Value) : Prop where
  len : mg "len" = none
  int : mg "int" = none
  bool : mg "bool" = none
  str : mg "str" = none
  list : mg "list" = none
  tuple : mg "tuple" = none
  range : mg "range" = none
  isinstance : mg "isinstance" = none
  sum : mg "sum" = none
/-! ### the well -/
structure Well (H : Hp) (d : Addr) (b : Nat) : Prop where
  ex : ∃ (g st : Int) (k : Nat), H d = some (.lst [.int g, .int st, .int k]) ∧ k ≤ b
theorem Well.same {H H' : Hp} {d : Addr} {b : Nat} (h : Well H d b) (s : Same H H') : Well H' d b := by
  obtain ⟨g, st, k, h1, h2⟩ := h
  exact ⟨g, st, k, s _ _ h1, h2⟩
theorem Well.mono {H : Hp} {d : Addr} {b b' : Nat} (h : Well H d b) (s : b ≤ b') : Well H d b' := by
  obtain ⟨g, st, k, h1, h2⟩ := h
  exact ⟨g, st, k, h1, Nat.le_trans h2 s⟩
theorem Well.mut {H : Hp} {d l : Addr} {o : HO} {b : Nat} (D : Well H d b) (h1 : l ≠ d) : Well (upd H l o) d b := by
  obtain ⟨g, st, k, e1, e2⟩ := D
  exact ⟨g, st, k, by rw [upd_ne (Ne.symm h1)]; exact e1, e2⟩
theorem Well.new {H : Hp} {d l : Addr} {o : HO} {b : Nat} (D : Well H d b) (h : H l = none) : Well (upd H l o) d b := D.same (same_new h)
theorem Well.ned {H : Hp} {d l : Addr} {b : Nat} (D : Well H d b) (h : H l = none) : l ≠ d := by
  obtain ⟨g, st, k, e1, e2⟩ := D
  exact (ne_of_none e1 h).symm
theorem mod_rng {a m : Int} (h : 0 < m) : 0 ≤ a % m ∧ a % m < m := ⟨Int.emod_nonneg a (by omega), Int.emod_lt_of_pos a h⟩
/-- a draw below m: any number from 0 on, less than m; one draw more -/
def spDraw : Sp := fun vs H Q _ => ∃ (d : Addr) (b : Nat) (m : Int), vs = [.ref d, .int m] ∧ Well H d b ∧ b < 2 ^ 60 ∧ 0 < m ∧ m.natAbs < 2 ^ 120 ∧
  ∀ v H', 0 ≤ v → v < m → Well H' d (b + 1) → Kp d d H H' → Q (.int v) H'
/-! ### a generator expression's own frame -/
/-- the context of a generator's turns: its frame cenv stands over the def's -/
abbrev gX (X : Cx) (s : Shared) (H : Hp) (A' : Around) (cenv : Env) (fp : List Addr) : Cx :=
  { X with A := A', s_0 := s, H_0 := H, env := cenv, outer := X.stack, stack := cenv :: X.stack, ex := fp, fn := fun _ => false, pn := [], xe := fun _ _ => False }
/-- what is asked of the expression's own scope -/
structure GnOk (scope : Scope) : Prop where
  co : scope.isCoroutine = false
  nocell : ∀ y ∈ scope.names, y.2 ≠ .cell
  dot : scope.names.lookup (".0" : Str) = some NameKind.local
section
variable {X : Cx} {pins : List (Addr × Obj)} {σ : L2.St} {H : Hp} {s : Shared}
theorem gen_start {scope : Scope} {own : List (Str × Nat)} {fp : List Addr} {A' : Around} {code : Value} {m0 : Str → Option Value} {h5 : Heap} {g5 : Array GenState} {t5 : Nat} {a : Addr} {go : Obj}
    (I : Inv X pins σ H s) (ok : BlkOk X.N X.env.scope scope own) (gk : GnOk scope) (hN : X.N.Nodup) (hfp : ∀ b ∈ fp, FpOk X pins H b ∧ b < s.heap.objs.size)
    (hA : A'.handled = none) (hF : A'.frames = some (genEnv scope (cloFrom X.env.cells scope.names []) s.heap.objs.size code builtinsNs X.env :: X.stack))
    (kp : ∀ b o, s.heap.get? b = some o → h5.get? b = some o) (hn : h5.Ns s.heap.objs.size m0) (hm0 : ∀ x, x ≠ (".0" : Str) → m0 x = none) (hdN : (".0" : Str) ∉ X.N) (hb5 : AllBare g5)
    (ha : s.heap.objs.size < a) (hgo : h5.get? a = some go) (hgd : ∀ v, go.data ≠ .cell v) :
    Inv (gX X s H A' (genEnv scope (cloFrom X.env.cells scope.names []) s.heap.objs.size code builtinsNs X.env) fp) [(a, go)] (wipe σ (own.map (·.2))) H { s with heap := h5, gens := g5, toks := t5 } := by
  have hfree : ∀ y ∈ scope.names, y.2 = .free → ∃ c, X.env.cells.lookup y.1 = some c := fun y hy e =>
    (ok.free y hy e).elim (fun k => I.ok.has _ (.inl k)) fun k => I.ok.has _ (.inr k)
  have cm : ∀ {y c}, (y, c) ∈ cloFrom X.env.cells scope.names [] → X.env.cells.lookup y = some c ∧ c < s.heap.objs.size := fun {y c} q => by
    rcases cloFrom_mem q with q | ⟨h1, e1⟩
    · cases q
    · obtain ⟨c1, hc1⟩ := hfree _ h1 rfl
      rw [hc1] at e1
      cases e1
      obtain ⟨w1, z1⟩ := I.cell _ _ hc1
      exact ⟨hc1, z1.lt⟩
  have cl : ∀ {y c}, (cloFrom X.env.cells scope.names []).lookup y = some c → X.env.cells.lookup y = some c ∧ c < s.heap.objs.size := fun {y c} e => cm (PySem.mem_of_lookup e)
  have look : ∀ {y}, scope.names.lookup y = some .free → ∃ c, (cloFrom X.env.cells scope.names []).lookup y = some c := fun {y} e =>
    mem_lookup (cloFrom_has (cells := X.env.cells) (acc := []) (PySem.mem_of_lookup e))
  generalize hce : genEnv scope (cloFrom X.env.cells scope.names []) s.heap.objs.size code builtinsNs X.env = ce at hF
  have cL : ce.locals = s.heap.objs.size := by rw [← hce]; rfl
  have cC : ce.cells = cloFrom X.env.cells scope.names [] := by rw [← hce]; rfl
  have cS : ce.scope = scope := by rw [← hce]; rfl
  have cF : ce.frame = some ce.locals := by rw [← hce]; rfl
  have okG : (gX X s H A' ce fp).Ok := by
    refine ⟨I.ok.mod, ?_, ?_, ?_, ?_, fun y z c e1 e2 => ?_, fun y hy => ?_, fun y c z e => ?_, fun _ => hA, hF, .inr ⟨rfl, cF⟩, fun b hb => ⟨?_, fun y c e z => ?_⟩, I.bs, Nat.le_trans I.ok.bsz I.sz, fun b o e hb => ?_, fun b hb z => ?_, I.stack, I.stkFree⟩
    · show ce.scope.kind = _
      rw [cS]
      exact ok.kind
    · show ce.globals = _
      rw [← hce]
      exact I.ok.glob
    · show ce.builtins = _
      rw [← hce]
      rfl
    · show s.heap.objs.size ≤ ce.locals
      rw [cL]
      exact Nat.le_refl _
    · have e1 : ce.cells.lookup y = some c := e1
      have e2 : ce.cells.lookup z = some c := e2
      rw [cC] at e1 e2
      exact I.ok.inj y z c (cl e1).1 (cl e2).1
    · show ∃ c, ce.cells.lookup y = some c
      rw [cC]
      have hy : scope.names.lookup y = some .cell ∨ scope.names.lookup y = some .free := by
        have hy' : ce.scope.names.lookup y = some .cell ∨ ce.scope.names.lookup y = some .free := hy
        rw [cS] at hy'
        exact hy'
      rcases hy with k | k
      · exact absurd rfl (gk.nocell _ (PySem.mem_of_lookup k))
      · exact look k
    · exact absurd (show false = true from z) Bool.false_ne_true
    · show b ≠ ce.locals
      rw [cL]
      exact Nat.ne_of_lt (hfp b hb).2
    · have e : ce.cells.lookup y = some c := e
      rw [cC] at e
      exact (hfp b hb).1.2.2.2.2.1 y c (cl e).1 z
    · rcases (hfp b hb).1.2.2.2.1 with q | q
      · exact I.ok.noex b o e q
      · exact absurd (Nat.lt_of_lt_of_le (Heap.lt_size e) (Nat.le_trans I.ok.bsz q)) (Nat.lt_irrefl _)
    · rcases List.mem_cons.mp (I.stkSub b z) with q | q
      · exact (hfp b hb).1.2.1 q
      · exact (hfp b hb).1.2.2.1 q
  refine ⟨okG, rfl, hb5, Un.kept kp, ⟨m0, ?_, fun i y av e1 e2 e3 => ?_⟩, fun y c e => ?_, ?_, fun y c e => ?_, fun p hp => ?_, I.hok.kept kp, by rw [wipe_length]; exact I.len⟩
  · show Heap.Ns _ ce.locals _
    rw [cL]
    exact hn
  · obtain ⟨e2, hne⟩ := wipe_some e2
    have e3 : Vis ce.scope y := e3
    rw [cS] at e3
    have hfr : scope.names.lookup y = some .free := by
      have no : ∀ k, scope.names.lookup y = some k → ¬ (k = .local ∨ k = .cell) := fun k hk hh => by
        rcases ok.own _ (PySem.mem_of_lookup hk) hh with q | q
        · obtain ⟨p, hp, hpy⟩ := List.mem_map.mp q
          have e4 := ok.ix p hp
          have hpy : p.1 = y := hpy
          rw [hpy] at e4
          exact hne (List.mem_map.mpr ⟨p, hp, nodup_ix hN e4 e1⟩)
        · exact q (List.mem_of_getElem? e1)
      rcases e3 with e3 | e3 | e3
      · exact absurd (.inl rfl) (no _ e3)
      · exact absurd (.inr rfl) (no _ e3)
      · exact e3
    obtain ⟨m, _, hl⟩ := I.loc
    have hvis : Vis X.env.scope y := (ok.free _ (PySem.mem_of_lookup hfr) rfl).elim (fun k => .inr (.inl k)) fun k => .inr (.inr k)
    obtain ⟨w1, r1, q1⟩ := hl i y av e1 e2 hvis
    obtain ⟨c, hc⟩ := look hfr
    refine ⟨w1, r1, .inr ⟨.inr (by show ce.scope.names.lookup y = _; rw [cS]; exact hfr), c, by show ce.cells.lookup y = _; rw [cC]; exact hc, ?_⟩⟩
    rcases q1 with ⟨k, _⟩ | ⟨_, c', e', z⟩
    · have k : X.env.scope.names.lookup y = some .local := k
      rcases ok.free _ (PySem.mem_of_lookup hfr) rfl with k' | k' <;> (have k' : X.env.scope.names.lookup y = _ := k'; rw [k'] at k; cases k)
    · rw [(cl hc).1] at e'
      cases e'
      exact z.keeps kp
  · have e : ce.cells.lookup y = some c := e
    rw [cC] at e
    obtain ⟨w1, z1⟩ := I.cell y c (cl e).1
    exact ⟨w1, z1.keeps kp⟩
  · show H ce.locals = none
    rw [cL]
    exact I.hok.fresh (Nat.le_refl _)
  · have e : ce.cells.lookup y = some c := e
    rw [cC] at e
    exact I.freeC y c (cl e).1
  · have hp : p = (a, go) := by simpa using hp
    subst hp
    refine ⟨hgo, I.hok.fresh (Nat.le_of_lt ha), ?_, fun z => ?_, hgd⟩
    · show a ≠ ce.locals
      rw [cL]
      exact Nat.ne_of_gt ha
    · have z : a ∈ frs X.stack := z
      obtain ⟨_, o, ho, _⟩ := I.stack.mem z
      exact absurd (Nat.lt_trans (Heap.lt_size ho) ha) (Nat.lt_irrefl _)
end
/-! ### all(..), any(..) of a generator, told by what each turn does -/
/-- between a yield and the next turn -/
structure Rs (s s' : Shared) : Prop where
  heap : s'.heap = s.heap
  os : s'.os = s.os
  bare : AllBare s'.gens
  size : s.gens.size ≤ s'.gens.size
theorem inv_gens {X : Cx} {pins : List (Addr × Obj)} {σ : L2.St} {H : Hp} {s s' : Shared} (I : Inv X pins σ H s) (h1 : s'.heap = s.heap) (h2 : s'.os = s.os) (h3 : AllBare s'.gens) : Inv X pins σ H s' := by
  obtain ⟨hh, g, d, t, o⟩ := s'
  have e1 : hh = s.heap := h1
  have e2 : o = s.os := h2
  subst e1 e2
  exact ⟨I.ok, I.os, h3, I.base, I.loc, I.cell, I.free, I.freeC, I.pin, I.hok, I.len⟩
theorem Rs.inv {X : Cx} {pins : List (Addr × Obj)} {σ : L2.St} {H : Hp} {s s' : Shared} (r : Rs s s') (I : Inv X pins σ H s) : Inv X pins σ H s' := by
  obtain ⟨h1, h2, h3, _⟩ := r
  obtain ⟨hh, g, d, t, o⟩ := s'
  have e1 : hh = s.heap := h1
  have e2 : o = s.os := h2
  subst e1 e2
  exact ⟨I.ok, I.os, h3, I.base, I.loc, I.cell, I.free, I.freeC, I.pin, I.hok, I.len⟩
theorem bare_set {gens : Array GenState} (h : AllBare gens) {g : Nat} {x : GenState} (hx : x.bare = true) : AllBare (gens.setIfInBounds g x) := fun y hy => by
  obtain ⟨i, hi, rfl⟩ := Array.mem_iff_getElem.mp hy
  rw [Array.size_setIfInBounds] at hi
  rw [Array.getElem_setIfInBounds hi]
  split
  · exact hx
  · exact h _ (Array.getElem_mem hi)
theorem Rs.set {s : Shared} (hb : AllBare s.gens) {g : Nat} {x : GenState} (hx : x.bare = true) : Rs s (s.setGen g x) :=
  ⟨rfl, rfl, bare_set hb hx, Nat.le_of_eq (GenW.setGen_size s g x).symm⟩
theorem Rs.trans {s s1 s2 : Shared} (a : Rs s s1) (b : Rs s1 s2) : Rs s s2 := ⟨b.heap.trans a.heap, b.os.trans a.os, b.bare, Nat.le_trans a.size b.size⟩
/-- the protocol of a generator whose items are truths: T b: what holds where b comes out -/
def gY (gi : Nat) (a : Addr) (stop : Bool) (Fin : Shared → Prop) : Protocol := fun n s₀ v s kap =>
  ∃ b, v = .bool b ∧ s.heap.IsGen a gi ∧ s.heap.NoLimit ∧ AllBare s.gens ∧ gi < s.gens.size ∧ (b = stop → Fin s) ∧ (b ≠ stop → ∀ s', Rs s s' → kap (.send .none) s')
def gR (End : Shared → Prop) : Nat → Shared → Shared → Prop := fun _ _ s => AllBare s.gens ∧ End s
/-- the generator waits -/
def Waits (prog : Program) (w : World) (A : Around) (gi : Nat) (a : Addr) (stop : Bool) (End Fin : Shared → Prop) (n : Nat) (s : Shared) : Prop :=
  s.heap.IsGen a gi ∧ s.heap.NoLimit ∧ AllBare s.gens ∧ ∃ gs, s.gens[gi]? = some gs ∧
    ∀ s', Rs s s' → gs.Goes (model prog w) A.in1 (fun n s₀ r s₁ => r = .ok .next ∧ gR End n s₀ s₁) (gY gi a stop Fin) n (.send .none) s'
section
variable {prog : Program} {w : World} {A : Around} {gi : Nat} {a : Addr} {stop : Bool} {End Fin : Shared → Prop}
theorem waits_next {n : Nat} {s : Shared} {Q : Option Value → Shared → Prop} {E : Value → Shared → Prop} (hh : A.handled = none) (hroom : A.depth < recursionLimit)
    (hE : ∀ s s' : Shared, End s → s'.os = s.os → AllBare s'.gens → (∀ b o, s.heap.get? b = some o → s'.heap.get? b = some o) → End s')
    (hF : ∀ s s' : Shared, Fin s → s'.os = s.os → AllBare s'.gens → (∀ b o, s.heap.get? b = some o → s'.heap.get? b = some o) → Fin s')
    (W : Waits prog w A gi a stop End Fin n s) (hN : ∀ s', End s' → Q none s') (hS : ∀ s', Fin s' → Q (some (.bool stop)) s')
    (hG : ∀ s' m, m < n → Waits prog w A gi a stop End Fin m s' → Q (some (.bool (!stop))) s') : wpAny (model prog w) A (pyNext (.ref a)) Q E s := by
  obtain ⟨hg, hl, hb, gs, hgs, hgo⟩ := W
  refine wpAny_pyNext_genexpQ (P := gR End) (Y := gY gi a stop Fin) hh hl hroom hg hgs (hgo _ (Rs.set hb rfl)) (fun v s₁ gs' hb' hv => ?_) fun s₁ hp h' hk => ?_
  · obtain ⟨b, rfl, g1, l1, b1, z1, f1, k1⟩ := hv
    by_cases e : b = stop
    · subst e
      exact hS _ (hF _ _ (f1 rfl) rfl (bare_set b1 hb') fun _ _ q => q)
    · have eb : b = !stop := by cases b <;> cases stop <;> first | rfl | exact absurd rfl e
      subst eb
      cases n with
      | zero => exact False.elim (k1 e s₁ ⟨rfl, rfl, b1, Nat.le_refl _⟩)
      | succ m =>
        refine hG _ m (Nat.lt_succ_self m) ⟨g1, l1, bare_set b1 hb', gs', ?_, fun s' r => k1 e s' ((Rs.set b1 hb').trans r)⟩
        show (s₁.gens.setIfInBounds gi gs')[gi]? = some gs'
        rw [Array.getElem?_setIfInBounds_self_of_lt z1]
  · obtain ⟨b1, e1⟩ := hp
    exact hN _ (hE _ _ e1 rfl (bare_set b1 rfl) fun b o q => hk b o q)
end
section
variable {prog : Program} {w : World} {A : Around} {gi : Nat} {a : Addr} {End Fin : Shared → Prop}
theorem all_loop (hh : A.handled = none) (hroom : A.depth < recursionLimit)
    (hE : ∀ s s' : Shared, End s → s'.os = s.os → AllBare s'.gens → (∀ b o, s.heap.get? b = some o → s'.heap.get? b = some o) → End s')
    (hF : ∀ s s' : Shared, Fin s → s'.os = s.os → AllBare s'.gens → (∀ b o, s.heap.get? b = some o → s'.heap.get? b = some o) → Fin s') :
    ∀ (n : Nat) (s : Shared), Waits prog w A.in1 gi a false End Fin n s →
      codeAny (model prog w) A (.builtin "all.loop" ⟨[.ref a], []⟩) (fun r s' => (r = .ok (.ret (.bool true)) ∧ End s') ∨ (r = .ok (.ret (.bool false)) ∧ Fin s')) s := by
  intro n
  induction n using Nat.strongRecOn with
  | ind n ih =>
    intro s W
    refine codeAny_builtin PySem.F.entry_all_loop ?_
    rw [Around.under_plainId PySem.F.plain_all_loop]
    show wpAny (model prog w) A.in1 (pyNext (.ref a) >>= _) _ _ s
    refine wpAny_bind (waits_next (A := A.in1) hh hroom hE hF W (fun s' e => ?_) (fun s' e => ?_) fun s' m hm W' => ?_)
    · exact wpAny_bind (wpAny_rule (wpAny_pure (.inl ⟨rfl, e⟩)))
    · refine wpAny_bind (wpAny_holding (wpAny_truthy_bool ?_))
      refine wpAny_bind (wpAny_letGo ?_)
      exact wpAny_bind (wpAny_rule (wpAny_pure (.inr ⟨rfl, e⟩)))
    · refine wpAny_bind (wpAny_holding (wpAny_truthy_bool ?_))
      refine wpAny_bind (wpAny_letGo ?_)
      exact wpAny_pure ⟨plainId_quiet PySem.F.plain_all_loop _, ih m hm s' W'⟩
end
/-! ### all(elt for target in iter) -/
/-- the reading: W by the turn and a measure; P: the def's table, which may grow -/
def tAll (P : Addr) (wi : TI) (g : TG) (te : TE) (vs : List Nat) : TE := fun σ H Q => wi σ H fun J H1 => GxR.TabG H1 P ∧ ∃ W : Nat → Nat → Hp → Prop, (∀ H2, GxR.Tabbed P H1 H2 → ∃ m, W 0 m H2) ∧ ∀ i m H, W i m H →
  (J.stop i H ∧ Q (.bl true) H) ∨ (J.go i H ∧ ∃ Nx : Hp → Prop, (∀ H', Nx H' → ∃ m', m' < m ∧ W (i + 1) m' H') ∧ ∀ x H', J.yld i H x H' → g x (wipe σ vs) H' fun σ2 H2 => wipe σ2 vs = wipe σ vs ∧
    te σ2 H2 fun y H3 => ∃ b, y = .bl b ∧ if b = true then Nx H3 else Q (.bl false) H3)
section
variable {X : Cx}
theorem pe_all {k : Nat} {c P : Addr} {elt tg iter : Expr} {scope : Scope} {own : List (Str × Nat)} {p pos gpos : Pos} {wi : TI} {g : TG} {te : TE}
    (hr : Room (k + 1) X.A) (TB : GxR.TabB X.base X.mg c P) (hcode : X.env.code = .ref c) (hc : X.calm = true) (hN : X.N.Nodup) (hG : Gl X "all") (hM : X.mg "all" = none) (hi : PI X tg iter wi) (ok : BlkOk X.N X.env.scope scope own) (gk : GnOk scope) (hdN : (".0" : Str) ∉ X.N)
    (hg : ∀ (s : Shared) (H : Hp) (A' : Around) (C : Addr) (cl : List (Str × Addr)) (code : Value) (fp : List Addr), PG (gX X s H A' (genEnv scope cl C code builtinsNs X.env) fp) tg g)
    (he : ∀ (s : Shared) (H : Hp) (A' : Around) (C : Addr) (cl : List (Str × Addr)) (code : Value) (fp : List Addr), Room k A' → PE (gX X s H A' (genEnv scope cl C code builtinsNs X.env) fp) elt te)
    (hs : ∀ v, genFold iter X.env v = pure v := by intro _; rfl)
    (hst : starEach [.GeneratorExp elt [⟨tg, iter, [], 0⟩] scope gpos] X.env = (false, eval (.GeneratorExp elt [⟨tg, iter, [], 0⟩] scope gpos) X.env) :: starEach [] X.env := by rfl) :
    PE X (.Call (.Name "all" p) [.GeneratorExp elt [⟨tg, iter, [], 0⟩] scope gpos] [] pos) (tAll P wi g te (own.map (·.2))) := by
  refine ⟨fun pins s σ H Q I h => ?_⟩
  have hh : X.A.handled = none := hr.hd
  refine wpAny_Call_Name_kw (ld_blt I hG hM PyProof.Rows.boot_all ?_)
  refine PyProof.Rows.callWith_builtin1 ?_ hst (by rfl)
  rw [hst]
  show wpAny _ _ (spliced ((false, eval (.GeneratorExp elt [⟨tg, iter, [], 0⟩] scope gpos) X.env) :: backTo pos (starEach [] X.env))) _ _ s
  have hfree : ∀ y ∈ scope.names, y.2 = .free → ∃ c, X.env.cells.lookup y.1 = some c := fun y hy e =>
    (ok.free y hy e).elim (fun k => I.ok.has _ (.inl k)) fun k => I.ok.has _ (.inr k)
  refine Calls.spliced_cons (wpAny_GeneratorExp_make gk.co (closure_ok hfree) gk.nocell gk.dot ok.kind (by have := hr.dp; omega) (thn (hi.run pins s σ H _ I h) fun xv s1 hx => thn hx fun itv s2 h2 => ?_) hs)
  obtain ⟨it, fp, tn, J, H2, e, I2, T, st2, f2, ⟨ps, hP, ht⟩, W, w0, turn⟩ := h2
  subst e
  refine ⟨I2.nolimit, ?_⟩
  have hPs : s2.heap.get? P = some { cls := .none, data := .fields ps } := I2.hok P _ hP
  have cd : PySem.W.CodeHd s2.heap c P := TB.code.keeps fun b u e => I2.bk b u e
  have sz2 : ∀ b ∈ fp, b < s2.heap.objs.size := fun b hb => by
    obtain ⟨o, e, _⟩ := T.obj _ _ st2 b hb
    exact Heap.lt_size e
  have nfP : ∀ b ∈ fp, b ≠ P := fun b hb z => by
    have q := (f2 b hb).1
    rw [z, hP] at q
    cases q
  -- behind the table
  have cont : ∀ (code : Value) (h3 : Heap) (tk : Nat) (more : Array Value), s2.heap.objs.size ≤ h3.objs.size → (∀ b o, b ≠ P → s2.heap.get? b = some o → h3.get? b = some o) → h3.get? P = some { cls := .none, data := .fields (ps ++ more) } → TriplesOk (ps ++ more).toList →
      wpAny (model X.prog X.w) X.A (builtinsFor X.env.globals X.env.builtins) (fun bi s4 => ∀ h', h'.Ns s4.heap.objs.size (fun y => if y = ".0" then some (.ref it) else none) → Heap.SameBut s4.heap.objs.size (s4.heap.push { cls := .type "frame", data := .dict #[] }) h' →
        wpAny (model X.prog X.w) X.A (spliced (backTo pos (starEach [] X.env))) (fun vs s5 => wpAny (model X.prog X.w) X.A (call (.builtin "all") (.ref h'.objs.size :: vs)) (EP X pins σ Q) X.xe s5) X.xe { s4 with
            gens := s4.gens.push (.fresh (.compStart (.GeneratorExp elt [⟨tg, iter, [], 0⟩] scope gpos) 0 (.ref it) .none (genEnv scope (cloFrom X.env.cells scope.names []) s4.heap.objs.size code bi X.env))), toks := s4.toks + 1 + 1 + 1,
            heap := h'.push { cls := .type "generator", data := .fields #[.int s4.gens.size 0, .str "<genexpr>" (s4.toks + 1), .str (X.env.qual ++ "<genexpr>") (s4.toks + 1 + 1)] } }) X.xe { s2 with heap := h3, toks := tk } := by
    intro code h3 tk more hle3 hk3 hP3 ht3
    have I3 : Inv X pins σ (upd H2 P (.tbl (ps ++ more))) { s2 with heap := h3, gens := s2.gens, drawn := s2.drawn, toks := tk } := GxR.inv_tab I2 hP hk3 hP3 I2.bare
    have tab3 : GxR.Tabbed P H2 (upd H2 P (.tbl (ps ++ more))) := ⟨⟨_, upd_same, ht3⟩, fun b hb => upd_ne hb⟩
    have st3 : tn 0 h3 := T.keep _ _ _ st2 fun b hb o e => hk3 b o (nfP b hb) e
    have f3 : ∀ b ∈ fp, FpOk X pins (upd H2 P (.tbl (ps ++ more))) b := fun b hb => ⟨by rw [upd_ne (nfP b hb)]; exact (f2 b hb).1, (f2 b hb).2⟩
    generalize upd H2 P (.tbl (ps ++ more)) = H3 at I3 tab3 f3
    obtain ⟨m0, hw0⟩ := w0 H3 tab3
    have sz3 : ∀ b ∈ fp, b < h3.objs.size := fun b hb => Nat.lt_of_lt_of_le (sz2 b hb) hle3
    have hs3 : ({ s2 with heap := h3, gens := s2.gens, drawn := s2.drawn, toks := tk } : Shared) = { s2 with heap := h3, toks := tk } := rfl
    rw [hs3] at I3
    generalize hsh : ({ s2 with heap := h3, toks := tk } : Shared) = s3 at I3 ⊢
    have eh : h3 = s3.heap := by rw [← hsh]
    rw [eh] at st3 sz3
    clear hsh hs3 eh hP3 hk3 hle3
    obtain ⟨bm, ob, e1, e2, e3, e4, e5, e6, e7, e8⟩ := TB.bm
    refine wpAny_builtinsFor (m := X.mg) (by rw [I3.ok.glob]; exact I3.mod.glob.keeps I3.bk) e1 e2 (I3.bk _ _ e5) e6 e7 e8 ?_
    intro h' hn' hs'
    refine Calls.spliced_nil ?_
    have hsz : h'.objs.size = s3.heap.objs.size + 1 := by rw [hs'.1, Heap.size_push]
    generalize hgo : ({ cls := .type "generator", data := .fields #[.int s3.gens.size 0, .str "<genexpr>" (s3.toks + 1), .str (X.env.qual ++ "<genexpr>") (s3.toks + 1 + 1)] } : Obj) = go
    have kp5 : ∀ b o, s3.heap.get? b = some o → (h'.push go).get? b = some o := fun b o e => Heap.get?_push_of_some _ (hs'.extBut b o (Nat.ne_of_lt (Heap.lt_size e)) (Heap.get?_push_of_some _ e))
    generalize hce : genEnv scope (cloFrom X.env.cells scope.names []) s3.heap.objs.size code builtinsNs X.env = ce
    have hhA : (X.A.in1.in1.over (.compLoop (.GeneratorExp elt [⟨tg, iter, [], 0⟩] scope gpos) 0 (.ref it) .none ce) []).handled = none := hh
    have hFr : (X.A.in1.in1.over (.compLoop (.GeneratorExp elt [⟨tg, iter, [], 0⟩] scope gpos) 0 (.ref it) .none ce) []).frames = some (ce :: X.stack) := by
      show pushEnvs [ce] (pushEnvs [] X.A.frames) = _
      rw [I3.ok.frames]
      rfl
    have hRm : Room k (X.A.in1.in1.over (.compLoop (.GeneratorExp elt [⟨tg, iter, [], 0⟩] scope gpos) 0 (.ref it) .none ce) []) := by
      have z1 := hr.dp
      have z2 := hr.un
      refine ⟨hhA, ?_, ?_⟩
      · show X.A.depth + 0 + 1 + 3 * k + 5 < recursionLimit
        omega
      · show X.A.units + 1 + 1 + 0 + 3 + 16 * k + 200 < cLine
        omega
    generalize hAg : X.A.in1.in1.over (.compLoop (.GeneratorExp elt [⟨tg, iter, [], 0⟩] scope gpos) 0 (.ref it) .none ce) [] = Ag at hhA hFr hRm
    have I5 : Inv (gX X s3 H3 Ag ce fp) [(h'.objs.size, go)] (wipe σ (own.map (·.2))) H3 { s3 with heap := h'.push go, gens := s3.gens.push (.fresh (.compStart (.GeneratorExp elt [⟨tg, iter, [], 0⟩] scope gpos) 0 (.ref it) .none ce)), toks := s3.toks + 1 + 1 + 1 } := by
      have q := gen_start (code := code) (A' := Ag) (h5 := h'.push go) (g5 := s3.gens.push (.fresh (.compStart (.GeneratorExp elt [⟨tg, iter, [], 0⟩] scope gpos) 0 (.ref it) .none ce))) (t5 := s3.toks + 1 + 1 + 1) (go := go) I3 ok gk hN (fun b hb => ⟨f3 b hb, sz3 b hb⟩) hhA (by rw [hce]; exact hFr) kp5 (hn'.push _)
        (fun x hx => if_neg hx) hdN (I3.bare.push rfl) (a := h'.objs.size) (by omega) (Heap.get?_push_size _ (by rw [← hgo]; rfl)) (by rw [← hgo]; intro v z; cases z)
      rw [hce] at q
      exact q
    have st5 : tn 0 (h'.push go) := T.keep _ _ _ st3 fun b _ o e => kp5 b o e
    have nfp : ∀ b ∈ fp, H3 b = none := fun b hb => (f3 b hb).1
    have pg := hg s3 H3 Ag s3.heap.objs.size (cloFrom X.env.cells scope.names []) code fp
    have pe := he s3 H3 Ag s3.heap.objs.size (cloFrom X.env.cells scope.names []) code fp hRm
    rw [hce] at pg pe
    have cCo : ce.scope.isCoroutine = false := by rw [← hce]; exact gk.co
    clear hn' hs' kp5 w0 hce
    -- back in the def's context
    have back : ∀ {σ' : L2.St} {H' : Hp} {s' : Shared} {pl : List (Addr × Obj)}, Inv (gX X s3 H3 Ag ce fp) pl σ' H' s' → Inv X pins σ H' s' := fun {σ' H' s' pl} J => I3.call' (ch := fp) J.os J.base J.hok J.bare fun b hb =>
      ⟨(f3 b hb).2.2.2.1, (f3 b hb).2.1, (f3 b hb).2.2.2.2.1, (f3 b hb).2.2.2.2.2⟩
    have stat : ∀ {σ' : L2.St} {H' : Hp} {s' : Shared}, Inv (gX X s3 H3 Ag ce fp) [(h'.objs.size, go)] σ' H' s' → (∀ b ∈ fp, H' b = none) → ∀ b ∈ fp, FpOk (gX X s3 H3 Ag ce fp) [(h'.objs.size, go)] H' b := fun {σ' H' s'} J hn b hb =>
      ⟨hn b hb, (J.ok.exf b hb).1, J.ok.exfs b hb, .inl hb, fun x c e => (J.ok.exf b hb).2 x c e, fun p hp => by
        have hp : p = (h'.objs.size, go) := by simpa using hp
        rw [hp]
        exact Nat.ne_of_gt (Nat.lt_trans (sz3 b hb) (by rw [hsz]; exact Nat.lt_succ_self _))⟩
    have gen : ∀ {σ' : L2.St} {H' : Hp} {s' : Shared} {pl : List (Addr × Obj)}, Inv (gX X s3 H3 Ag ce fp) ([(h'.objs.size, go)] ++ pl) σ' H' s' → s'.heap.IsGen h'.objs.size s3.gens.size := fun {σ' H' s' pl} J => by
      have q := (J.pin (h'.objs.size, go) (by simp)).1
      exact ⟨go, _, _, q, by rw [← hgo], by rw [← hgo], by rw [← hgo]⟩
    -- the turns
    have loop : ∀ (m n i : Nat) (s₀ s : Shared) (H : Hp), m < n → W i m H → Inv (gX X s3 H3 Ag ce fp) [(h'.objs.size, go)] (wipe σ (own.map (·.2))) H s → tn i s.heap → (∀ b ∈ fp, H b = none) → s3.gens.size + 1 ≤ s.gens.size →
        Seg (model X.prog X.w) X.A.in1.in1 (fun n s₀ r s₁ => r = .ok .next ∧ gR (fun s => ∃ H', Inv X pins σ H' s ∧ Q (.bl true) H') n s₀ s₁) (gY s3.gens.size h'.objs.size false fun s => ∃ H', Inv X pins σ H' s ∧ Q (.bl false) H') n s₀
          (.compLoop (.GeneratorExp elt [⟨tg, iter, [], 0⟩] scope gpos) 0 (.ref it) .none ce) ((model X.prog X.w).den (.compLoop (.GeneratorExp elt [⟨tg, iter, [], 0⟩] scope gpos) 0 (.ref it) .none ce)) [] s := by
      intro m
      induction m using Nat.strongRecOn with
      | ind m ih =>
        intro n i s₀ s H hmn w J st nf hz
        show Seg (model X.prog X.w) _ _ _ n s₀ _ ((compTurn (.GeneratorExp elt [⟨tg, iter, [], 0⟩] scope gpos) 0 (.ref it) .none ce).onRaise (leaving ce)) [] s
        rw [compTurn_gen]
        rw [Sem.onRaise_eq_wrap]
        refine seg_bind_wrap (wpAny_standAt (seg_bind_wrap ?_))
        rw [hAg]
        rcases turn i m H w with ⟨stp, qq⟩ | ⟨go', Nx, hNx, step⟩
        · refine thnF (T.done (gX X s3 H3 Ag ce fp) rfl rfl rfl hc i _ s _ H (fun _ _ => False) J (stat J nf) st stp) fun r s6 ⟨hr6, J6⟩ => ?_
          subst hr6
          exact seg_end (.ok .next) ⟨rfl, J6.bare, H, back J6, qq⟩
        · refine GenW.wpAny_gsz hz (thnF (T.item (gX X s3 H3 Ag ce fp) rfl rfl rfl hc i _ s _ H (fun _ _ => False) J (stat J nf) st go') fun r s6 ⟨u, hr6, h6⟩ hz6 => ?_)
          subst hr6
          refine seg_bind_wrap ?_
          rw [hAg]
          refine GenW.wpAny_gsz hz6 (thnF h6 fun _ s7 ⟨x, H7, J7, r7, y7, st7, n7⟩ hz7 => ?_)
          have J7' := J7.pinned (stat J7 n7) (T.obj _ _ st7)
          refine seg_bind_wrap ?_
          rw [hAg]
          refine GenW.wpAny_gsz hz7 (thnF (pg.run _ s7 _ H7 x u _ J7' r7 (step x H7 y7)) fun _ s8 ⟨σ8, H8, J8, hw8, q8⟩ hz8 => ?_)
          simp only [List.forIn_nil]
          refine seg_bind_wrap (wpAny_pure ?_)
          simp only [if_true]
          have hy : ∀ v, yieldOut ce v = yieldValue v := fun v => by simp only [yieldOut, cCo, Bool.false_eq_true, if_false]
          simp only [hy]
          rw [Sem.bind_eq_wrap', Sem.bind_eq_wrap']
          rw [Sem.wrap_wrap, Sem.wrap_wrap]
          refine seg_wrap ?_
          rw [hAg]
          refine GenW.wpAny_gsz hz8 (thnF (pe.run _ s8 σ8 H8 _ J8 q8) fun z s9 ⟨yv, H9, J9, r9, b, eb, qb⟩ hz9 => ?_)
          subst eb
          obtain rfl : z = Value.bool b := r9
          obtain ⟨n', rfl⟩ : ∃ n', n = n' + 1 := ⟨n - 1, by omega⟩
          refine seg_at (seg_yield rfl rfl rfl ⟨b, rfl, gen J9, J9.nolimit, J9.bare, hz9, fun e => ?_, fun e s' r => ?_⟩)
          · subst e
            exact ⟨H9, back J9, qb⟩
          · have e : b = true := by
              cases b with
              | true => rfl
              | false => exact absurd rfl e
            subst e
            rw [if_pos rfl] at qb
            obtain ⟨m', hm', w'⟩ := hNx H9 qb
            have pin' : ∀ b ∈ fp, ∀ o, s7.heap.get? b = some o → s9.heap.get? b = some o ∧ H9 b = none := fun b hb o e =>
              let z := J9.pin (b, o) (List.mem_append_right _ (List.mem_append_right _ (mem_pinsAt hb e)))
              ⟨z.1, z.2.1⟩
            have hl : (wipe σ (own.map (·.2))).length = σ8.length := by rw [← hw8, wipe_length]
            have K9 : Inv (gX X s3 H3 Ag ce fp) [(h'.objs.size, go)] (wipe σ (own.map (·.2))) H9 s9 := J9.unpinned.weak hl fun j v e => by
              rw [← hw8] at e
              exact (wipe_some e).1
            refine seg_again rfl (ih m' hm' n' (i + 1) s' s' H9 (by omega) w' (r.inv K9) ?_ (fun b hb => ?_) (Nat.le_trans hz9 r.size))
            · rw [r.heap]
              exact T.keep _ _ _ st7 fun b hb o e => (pin' b hb o e).1
            · obtain ⟨o, e, _⟩ := T.obj _ _ st7 b hb
              exact (pin' b hb o e).2
    have mono : ∀ (b : Bool) (s s' : Shared), (∃ H', Inv X pins σ H' s ∧ Q (.bl b) H') → s'.os = s.os → AllBare s'.gens → (∀ b o, s.heap.get? b = some o → s'.heap.get? b = some o) → ∃ H', Inv X pins σ H' s' ∧ Q (.bl b) H' := fun b s s' ⟨H', J, q⟩ h1 h2 h3 =>
      ⟨H', inv_gens (J.kept (t' := s'.toks) h3) rfl h1 h2, q⟩
    generalize hs5 : ({ s3 with heap := h'.push go, gens := s3.gens.push (.fresh (.compStart (.GeneratorExp elt [⟨tg, iter, [], 0⟩] scope gpos) 0 (.ref it) .none ce)), toks := s3.toks + 1 + 1 + 1 } : Shared) = s5 at I5
    have hg5 : s5.gens[s3.gens.size]? = some (.fresh (.compStart (.GeneratorExp elt [⟨tg, iter, [], 0⟩] scope gpos) 0 (.ref it) .none ce)) := by
      rw [← hs5]
      exact Array.getElem?_push_size ..
    have hz5 : s3.gens.size + 1 ≤ s5.gens.size := by
      rw [← hs5]
      exact Nat.le_of_eq (Array.size_push ..).symm
    have ht5 : tn 0 s5.heap := by rw [← hs5]; exact st5
    have wt : Waits X.prog X.w X.A.in1 s3.gens.size h'.objs.size false (fun s => ∃ H', Inv X pins σ H' s ∧ Q (.bl true) H') (fun s => ∃ H', Inv X pins σ H' s ∧ Q (.bl false) H') (m0 + 1) s5 := by
      refine ⟨gen (pl := []) I5, I5.nolimit, I5.bare, _, hg5, fun s' r => ⟨rfl, ?_⟩⟩
      have lp := loop m0 (m0 + 1) 0 s' s' H3 (Nat.lt_succ_self _) hw0 (r.inv I5) (by rw [r.heap]; exact ht5) nfp (Nat.le_trans hz5 r.size)
      show Seg (model X.prog X.w) _ _ _ _ s' _ ((compStart (.GeneratorExp elt [⟨tg, iter, [], 0⟩] scope gpos) 0 (.ref it) .none ce).onRaise (leaving ce)) [] s'
      unfold compStart
      rw [Sem.onRaise_eq_wrap]
      show Seg (model X.prog X.w) _ _ _ _ s' _ ((ask >>= _).wrap _ _ _ _) [] s'
      refine seg_bind_wrap (wpAny_askSetting ?_)
      have ts : tn 0 s'.heap := by rw [r.heap]; exact ht5
      split
      · exact seg_again rfl lp
      · first
          | exact seg_bind_wrap (wpAny_rule (seg_bind_wrap (wpAny_standAt (seg_bind_wrap (T.self _ 0 s' _ _ ts (seg_again rfl lp))))))
          | (refine seg_bind_wrap (wpAny_rule ?_); show Seg (model X.prog X.w) _ _ _ _ s' _ ((standAt iter.pos >>= _).wrap _ _ _ _) [] s'; exact seg_bind_wrap (wpAny_standAt (seg_bind_wrap (T.self _ 0 s' _ _ ts (seg_again rfl lp)))))
    refine call_function_tree PySem.F.kind_all PySem.F.plain_all PySem.F.entry_all (PySem.F.args_all1 _) ?_
    unfold Builtin.«all»
    refine wpAny_bind (m := oneArg "all" _) (wpAny_pure ?_)
    refine wpAny_bind (wpAny_pyIter_gen (gen (pl := []) I5) ?_)
    refine wpAny_pure ⟨plainId_quiet PySem.F.plain_all_loop _, codeAny_mono (all_loop hh hr.depth (mono true) (mono false) (m0 + 1) s5 wt) fun r s' hq => ?_⟩
    rcases hq with ⟨rfl, H', J, q⟩ | ⟨rfl, H', J, q⟩
    · exact ⟨.bl true, H', J, rfl, q⟩
    · exact ⟨.bl false, H', J, rfl, q⟩
  cases hf : codeAmong gpos ps.toList with
  | none =>
    refine wpAny_genexprCodeX hcode (cd.code hPs ht) (cd.tab hPs) hf fun c' h' tk hx hge hlt hco' _ htab' _ => ?_
    obtain ⟨o1, vs, f1, tf, fl, tg1, inF, tx, tt, op, _, _, _, _, _, _, _, _, _, htr, _⟩ := hco'
    exact cont _ h' tk _ (Nat.le_trans hge (Nat.le_of_lt hlt)) (fun b o hb e => hx b o hb e) htab'.2 htr
  | some cv =>
    refine wpAny_genexprCode_hit hcode (cd.code hPs ht) hf ?_
    have := cont cv s2.heap s2.toks #[] (Nat.le_refl _) (fun _ _ _ e => e) (by rw [hPs]; simp) (by simpa using ht)
    exact this
end
def topS (i : Nat) : Stmt := PySem.Challenge.pw_friendfoe_k20_whole_no_ring_is_shorter.main.body.getD i (.Pass ⟨0, 0, 0, 0⟩)
abbrev s_is_whole : Stmt := topS 1
abbrev N_is_whole : List Str := ["thing"]
theorem sc_is_whole : FnScope N_is_whole ["thing"] (defScope s_is_whole) := ⟨rfl, rfl, rfl, by decide +kernel, rfl, by decide +kernel, by decide +kernel⟩
abbrev s_is_whole_from : Stmt := topS 2
abbrev N_is_whole_from : List Str := ["low", "thing"]
theorem sc_is_whole_from : FnScope N_is_whole_from ["low", "thing"] (defScope s_is_whole_from) := ⟨rfl, rfl, rfl, by decide +kernel, rfl, by decide +kernel, by decide +kernel⟩
abbrev s_is_tuple_of : Stmt := topS 3
abbrev N_is_tuple_of : List Str := ["length", "thing"]
theorem sc_is_tuple_of : FnScope N_is_tuple_of ["length", "thing"] (defScope s_is_tuple_of) := ⟨rfl, rfl, rfl, by decide +kernel, rfl, by decide +kernel, by decide +kernel⟩
abbrev s_is_row : Stmt := topS 5
abbrev N_is_row : List Str := ["many", "thing", "number"]
theorem sc_is_row : FnScope N_is_row ["many", "thing"] (defScope s_is_row) := ⟨rfl, rfl, rfl, by decide +kernel, rfl, by decide +kernel, by decide +kernel⟩
abbrev s_are_near : Stmt := topS 6
abbrev N_are_near : List Str := ["one", "other"]
theorem sc_are_near : FnScope N_are_near ["one", "other"] (defScope s_are_near) := ⟨rfl, rfl, rfl, by decide +kernel, rfl, by decide +kernel, by decide +kernel⟩
abbrev s_near_along : Stmt := topS 7
abbrev N_near_along : List Str := ["row", "tie", "one", "other", "kind", "swap"]
theorem sc_near_along : FnScope N_near_along ["row", "tie"] (defScope s_near_along) := ⟨rfl, rfl, rfl, by decide +kernel, rfl, by decide +kernel, by decide +kernel⟩
abbrev s_row_holds : Stmt := topS 8
abbrev N_row_holds : List Str := ["web", "number", "start", "thing", "tie"]
theorem sc_row_holds : FnScope N_row_holds ["web", "number", "start", "thing"] (defScope s_row_holds) := ⟨rfl, rfl, rfl, by decide +kernel, rfl, by decide +kernel, by decide +kernel⟩
abbrev s_layers_hold : Stmt := topS 9
abbrev N_layers_hold : List Str := ["web", "number", "thing", "start", "row"]
theorem sc_layers_hold : FnScope N_layers_hold ["web", "number", "thing"] (defScope s_layers_hold) := ⟨rfl, rfl, rfl, by decide +kernel, rfl, by decide +kernel, by decide +kernel⟩
abbrev s_ties_around : Stmt := topS 11
abbrev N_ties_around : List Str := ["web", "numbers", "around", "number", "one", "other", "kind"]
theorem sc_ties_around : FnScope N_ties_around ["web", "numbers"] (defScope s_ties_around) := ⟨rfl, rfl, rfl, by decide +kernel, rfl, by decide +kernel, by decide +kernel⟩
abbrev s_walk_from : Stmt := topS 12
abbrev N_walk_from : List Str := ["start", "around", "walk", "reached", "steps", "following", "place", "other", "number"]
theorem sc_walk_from : FnScope N_walk_from ["start", "around"] (defScope s_walk_from) := ⟨rfl, rfl, rfl, by decide +kernel, rfl, by decide +kernel, by decide +kernel⟩
abbrev s_way_to : Stmt := topS 13
abbrev N_way_to : List Str := ["end", "walk", "places", "numbers", "steps", "ahead", "number"]
theorem sc_way_to : FnScope N_way_to ["end", "walk"] (defScope s_way_to) := ⟨rfl, rfl, rfl, by decide +kernel, rfl, by decide +kernel, by decide +kernel⟩
abbrev s_doubled : Stmt := topS 15
abbrev N_doubled : List Str := ["web", "ties", "one", "other", "kind", "swap"]
theorem sc_doubled : FnScope N_doubled ["web"] (defScope s_doubled) := ⟨rfl, rfl, rfl, by decide +kernel, rfl, by decide +kernel, by decide +kernel⟩
abbrev s_halved : Stmt := topS 16
abbrev N_halved : List Str := ["way", "places", "ties", "place", "tie"]
theorem sc_halved : FnScope N_halved ["way"] (defScope s_halved) := ⟨rfl, rfl, rfl, by decide +kernel, rfl, by decide +kernel, by decide +kernel⟩
abbrev s_row_of : Stmt := topS 17
abbrev N_row_of : List Str := ["many", "walk", "far", "place"]
theorem sc_row_of : FnScope N_row_of ["many", "walk", "far"] (defScope s_row_of) := ⟨rfl, rfl, rfl, by decide +kernel, rfl, by decide +kernel, by decide +kernel⟩
abbrev s_shortest_odd : Stmt := topS 18
abbrev N_shortest_odd : List Str := ["web", "double", "around", "walks", "place", "lengths", "walk", "length", "start", "ring"]
theorem sc_shortest_odd : FnScope N_shortest_odd ["web"] (defScope s_shortest_odd) := ⟨rfl, rfl, rfl, by decide +kernel, rfl, by decide +kernel, by decide +kernel⟩
abbrev s_l_well : Stmt := topS 20
abbrev N_l_well : List Str := ["_law_script", "_law_k", "_law_cell", "_law_great"]
theorem sc_l_well : FnScope N_l_well ["_law_script", "_law_k"] (defScope s_l_well) := ⟨rfl, rfl, rfl, by decide +kernel, rfl, by decide +kernel, by decide +kernel⟩
abbrev s_l_draw : Stmt := topS 21
abbrev N_l_draw : List Str := ["_law_well_here", "_law_many", "_law_digit", "_law_number"]
theorem sc_l_draw : FnScope N_l_draw ["_law_well_here", "_law_many"] (defScope s_l_draw) := ⟨rfl, rfl, rfl, by decide +kernel, rfl, by decide +kernel, by decide +kernel⟩
abbrev s_l_web : Stmt := topS 22
abbrev N_l_web : List Str := ["_law_well_here", "_law_many", "_law_way", "_law_sides", "_law_place", "_law_ties", "_law_k", "_law_one", "_law_other", "_law_kind", "_law_at"]
theorem sc_l_web : FnScope N_l_web ["_law_well_here"] (defScope s_l_web) := ⟨rfl, rfl, rfl, by decide +kernel, rfl, by decide +kernel, by decide +kernel⟩
abbrev s_l_is_round : Stmt := topS 23
abbrev N_l_is_round : List Str := ["_law_some", "_law_meet", "_law_one", "_law_other", "_law_kind", "_law_place", "_law_seen", "_law_turn"]
theorem sc_l_is_round : FnScope N_l_is_round ["_law_some"] (defScope s_l_is_round) := ⟨rfl, rfl, rfl, by decide +kernel, rfl, by decide +kernel, by decide +kernel⟩
abbrev s_l_odd_sizes : Stmt := topS 24
abbrev N_l_odd_sizes : List Str := ["_law_web_here", "_law_ties", "_law_sizes", "_law_choice", "_law_some", "_law_k", "_law_foes", "_law_tie"]
theorem sc_l_odd_sizes : FnScope N_l_odd_sizes ["_law_web_here"] (defScope s_l_odd_sizes) := ⟨rfl, rfl, rfl, by decide +kernel, rfl, by decide +kernel, by decide +kernel⟩
abbrev s_l_far : Stmt := topS 25
abbrev N_l_far : List Str := ["_law_web_here", "_law_place", "_law_beside", "_law_spot", "_law_one", "_law_other", "_law_kind", "_law_far_here", "_law_line", "_law_turn", "_law_here", "_law_odd", "_law_there", "_law_foe"]
theorem sc_l_far : FnScope N_l_far ["_law_web_here", "_law_place"] (defScope s_l_far) := ⟨rfl, rfl, rfl, by decide +kernel, rfl, by decide +kernel, by decide +kernel⟩
abbrev s_l_row : Stmt := topS 26
abbrev N_l_row : List Str := ["_law_web_here", "_law_place", "_law_beyond", "_law_cap", "_law_half", "_law_far_here", "_law_row_here", "_law_spot", "_law_odd", "_law_number"]
theorem sc_l_row : FnScope N_l_row ["_law_web_here", "_law_place", "_law_beyond", "_law_cap", "_law_half"] (defScope s_l_row) := ⟨rfl, rfl, rfl, by decide +kernel, rfl, by decide +kernel, by decide +kernel⟩
abbrev s_l_layers : Stmt := topS 27
abbrev N_l_layers : List Str := ["_law_well_here", "_law_web_here", "_law_rows", "_law_place", "_law_way", "_law_beyond", "_law_cap"]
theorem sc_l_layers : FnScope N_l_layers ["_law_well_here", "_law_web_here"] (defScope s_l_layers) := ⟨rfl, rfl, rfl, by decide +kernel, rfl, by decide +kernel, by decide +kernel⟩
abbrev s_l_bent : Stmt := topS 28
abbrev N_l_bent : List Str := ["_law_well_here", "_law_layers_here", "_law_rows", "_law_row_here", "_law_k", "_law_place", "_law_at"]
theorem sc_l_bent : FnScope N_l_bent ["_law_well_here", "_law_layers_here"] (defScope s_l_bent) := ⟨rfl, rfl, rfl, by decide +kernel, rfl, by decide +kernel, by decide +kernel⟩
abbrev s_l_right : Stmt := topS 29
abbrev N_l_right : List Str := ["_law_well_here", "_law_web_here", "_law_sizes", "_law_told", "_law_least", "_law_k", "_law_layers_here", "_law_number", "_law_found"]
theorem sc_l_right : FnScope N_l_right ["_law_well_here", "_law_web_here"] (defScope s_l_right) := ⟨rfl, rfl, rfl, by decide +kernel, rfl, by decide +kernel, by decide +kernel⟩
abbrev s_law : Stmt := topS 30
abbrev N_law : List Str := ["_law_script", "_law_k", "_law_well_here"]
theorem sc_law : FnScope N_law ["_law_script"] (defScope s_law) := ⟨rfl, rfl, rfl, by decide +kernel, rfl, by decide +kernel, by decide +kernel⟩
/-! ### own rules: a list against [] -/
section
variable {X : Cx}
def rEqE (K : PySem.W.Frag) : R2 := fun x y H Q => ∃ (a b : Addr) (xs : List V), x = .ref a ∧ y = .ref b ∧ SqL K H a xs ∧ SqL K H b [] ∧ Q (.bl xs.isEmpty) H
def rNeE (K : PySem.W.Frag) : R2 := fun x y H Q => ∃ (a b : Addr) (xs : List V), x = .ref a ∧ y = .ref b ∧ SqL K H a xs ∧ SqL K H b [] ∧ Q (.bl (!xs.isEmpty)) H
theorem op_eqE (hu : X.A.units < cLine) : OpR X (compareOp .Eq) (rEqE X.K) := by
  intro pins s σ H x y v u Q I rx ry h
  obtain ⟨a, b, xs, rfl, rfl, ha, hb, q⟩ := h
  obtain rfl : v = Value.ref a := rx
  obtain rfl : u = Value.ref b := ry
  obtain ⟨its, r1, p1, _⟩ := I.list ha
  obtain ⟨its2, r2, p2, _⟩ := I.list hb
  cases r2
  cases xs with
  | nil =>
    cases r1
    exact SeqAt.eq_listAt (e := fun _ => true) p1.isList p2.isList rfl hu (fun j h1 _ => absurd h1 (by simp)) ⟨.bl true, H, I, rfl, q⟩
  | cons z zs =>
    cases r1 with
    | cons r t => exact SeqAt.eq_list_lengthsAt p1.isList p2.isList (by simp) hu ⟨.bl false, H, I, rfl, q⟩
theorem op_neE (hu : X.A.units < cLine) : OpR X (compareOp .NotEq) (rNeE X.K) := by
  intro pins s σ H x y v u Q I rx ry h
  obtain ⟨a, b, xs, rfl, rfl, ha, hb, q⟩ := h
  obtain rfl : v = Value.ref a := rx
  obtain rfl : u = Value.ref b := ry
  obtain ⟨its, r1, p1, _⟩ := I.list ha
  obtain ⟨its2, r2, p2, _⟩ := I.list hb
  cases r2
  cases xs with
  | nil =>
    cases r1
    exact SeqAt.RcNeAt.lists (e := fun _ => true) p1.isList p2.isList rfl hu (fun j h1 _ => absurd h1 (by simp)) _ _ _ _ ⟨.bl false, H, I, rfl, q⟩
  | cons z zs =>
    cases r1 with
    | cons r t => exact SeqAt.RcNeAt.lists_lengths p1.isList p2.isList (by simp) hu _ _ _ _ ⟨.bl true, H, I, rfl, q⟩
end
section
variable {P : Program} {w : World} {K : PySem.W.Frag} {mg : Str → Option Value} {base : Heap}
/-! ### webs -/
structure Tie where
  one : Int
  other : Int
  foe : Bool
def kindS : Bool → Str
  | true => "foe"
  | false => "friend"
def TieV (H : Hp) (v : V) (t : Tie) : Prop := ∃ a, v = .ref a ∧ H a = some (.tup [.int t.one, .int t.other, .str (kindS t.foe)])
def TieOk (n : Int) (t : Tie) : Prop := 0 ≤ t.one ∧ t.one < n ∧ 0 ≤ t.other ∧ t.other < n ∧ t.one ≠ t.other
def WebAt (H : Hp) (v : V) (n : Int) (ts : List Tie) : Prop := ∃ a b vs, v = .ref a ∧ H a = some (.tup [.int n, .ref b]) ∧ H b = some (.tup vs) ∧ Paired (TieV H) vs ts
structure WebOk (n : Int) (ts : List Tie) : Prop where
  lo : 1 ≤ n
  hi : n ≤ 40
  few : ts.length ≤ 120
  ok : ∀ t ∈ ts, TieOk n t
/-- tuples stay -/
def Tk (H H' : Hp) : Prop := ∀ b xs, H b = some (.tup xs) → H' b = some (.tup xs)
theorem Tk.trans {H H1 H2 : Hp} (a : Tk H H1) (b : Tk H1 H2) : Tk H H2 := fun x xs h => b x xs (a x xs h)
theorem Same.tk {H H' : Hp} (s : Same H H') : Tk H H' := fun b xs h => s b _ h
theorem tk_lst {H : Hp} {l : Addr} {xs ys : List V} (h : H l = some (.lst xs)) : Tk H (upd H l (.lst ys)) := fun b zs e => by
  rw [upd_ne (ne_of e h (by intro z; cases z))]
  exact e
theorem TieV.tk {H H' : Hp} (k : Tk H H') {v : V} {t : Tie} (h : TieV H v t) : TieV H' v t := by
  obtain ⟨a, rfl, e⟩ := h
  exact ⟨a, rfl, k _ _ e⟩
theorem ties_tk {H H' : Hp} (k : Tk H H') {vs : List V} {ts : List Tie} (h : Paired (TieV H) vs ts) : Paired (TieV H') vs ts := Paired.mono (fun _ _ x => x.tk k) h
theorem WebAt.tk {H H' : Hp} (k : Tk H H') {v : V} {n : Int} {ts : List Tie} (h : WebAt H v n ts) : WebAt H' v n ts := by
  obtain ⟨a, b, vs, rfl, h1, h2, h3⟩ := h
  exact ⟨a, b, vs, rfl, k _ _ h1, k _ _ h2, ties_tk k h3⟩
theorem Kp.tk {d : Addr} {b : Nat} {H H' : Hp} (k : Kp d d H H') (D : Well H d b) : Tk H H' := fun c xs e => by
  obtain ⟨g, st, n, h1, h2⟩ := D
  have ne := ne_of e h1 (by intro z; cases z)
  exact k c _ ne ne e
theorem Kp.mut {d c l : Addr} {H H' : Hp} {o : HO} (k : Kp d c H H') (h : H l = none) : Kp d c H (upd H' l o) := fun b u h1 h2 e => by
  rw [upd_ne (ne_of_none e h)]
  exact k b u h1 h2 e
theorem Paired.at {α β : Type} {F : α → β → Prop} : ∀ {l : List α} {m : List β} {i : Nat} {a : α}, Paired F l m → l[i]? = some a → ∃ b, m[i]? = some b ∧ F a b
  | _, _, _, _, .nil, e => by simp at e
  | _, _, 0, _, .cons r _, e => by simp at e; subst e; exact ⟨_, rfl, r⟩
  | _, _, i + 1, a, .cons _ t, e => by
    obtain ⟨u, h1, h2⟩ := Paired.at (i := i) (a := a) t (by simpa using e)
    exact ⟨u, by simpa using h1, h2⟩
theorem Paired.at' {α β : Type} {F : α → β → Prop} : ∀ {l : List α} {m : List β} {i : Nat} {b : β}, Paired F l m → m[i]? = some b → ∃ a, l[i]? = some a ∧ F a b
  | _, _, _, _, .nil, e => by simp at e
  | _, _, 0, _, .cons r _, e => by simp at e; subst e; exact ⟨_, rfl, r⟩
  | _, _, i + 1, b, .cons _ t, e => by
    obtain ⟨u, h1, h2⟩ := Paired.at' (i := i) (b := b) t (by simpa using e)
    exact ⟨u, by simpa using h1, h2⟩
theorem getI {α : Type} {xs : List α} {i : Int} (h0 : 0 ≤ i) (h1 : i < (xs.length : Int)) : ∃ v, atI xs i = some v ∧ xs[i.toNat]? = some v := by
  obtain ⟨j, rfl⟩ : ∃ j : Nat, i = (j : Int) := ⟨i.toNat, by omega⟩
  have h2 : j < xs.length := by omega
  exact ⟨xs[j], atI_nat (List.getElem?_eq_getElem h2), by rw [Int.toNat_natCast]; exact List.getElem?_eq_getElem h2⟩
theorem other_ne {n a b : Int} (h0 : 0 ≤ a) (h1 : a < n) (g0 : 0 ≤ b) (g1 : b < n - 1) : a ≠ (a + 1 + b) % n := by
  by_cases h : a + 1 + b < n
  · rw [Int.emod_eq_of_lt (by omega) h]
    omega
  · have e : a + 1 + b = (a + 1 + b - n) + 1 * n := by omega
    rw [e, Int.add_mul_emod_self_right, Int.emod_eq_of_lt (by omega) (by omega)]
    omega
theorem pick2 {α : Type} (a b : α) (k : Bool) : atI [a, b] (if k then 1 else 0) = some (if k then b else a) := by
  cases k <;> rfl
def spWeb : Sp := fun vs H Q _ => ∃ (d : Addr) (b : Nat), vs = [.ref d] ∧ Well H d b ∧ b < 2 ^ 50 ∧
  ∀ v n ts H', WebAt H' v n ts → WebOk n ts → Well H' d (b + 1000) → Kp d d H H' → Q v H'
theorem Kp.free {d c l : Addr} {H H' : Hp} (k : Kp d c H H') (h : H' l = none) (h1 : l ≠ d) (h2 : l ≠ c) : H l = none := by
  cases e : H l with
  | none => rfl
  | some o =>
    rw [k l o h1 h2 e] at h
    cases h
theorem atI_of {xs : List V} {i : Int} {v : V} (h0 : 0 ≤ i) (e : xs[i.toNat]? = some v) : atI xs i = some v := by
  obtain ⟨j, rfl⟩ : ∃ j : Nat, i = (j : Int) := ⟨i.toNat, by omega⟩
  exact atI_nat (by rw [Int.toNat_natCast] at e; exact e)
theorem atI_ints {xs : List Int} {i : Int} (h0 : 0 ≤ i) (h1 : i < xs.length) : ∃ x ∈ xs, xs[i.toNat]? = some x ∧ atI (xs.map V.int) i = some (.int x) := by
  have h : i.toNat < xs.length := by omega
  exact ⟨xs[i.toNat], List.getElem_mem h, List.getElem?_eq_getElem h, atI_of h0 (by rw [List.getElem?_map, List.getElem?_eq_getElem h]; rfl)⟩
theorem at0 {α : Type} (x : α) (xs : List α) : atI (x :: xs) 0 = some x := atI_nat (j := 0) rfl
theorem ix0 (n : Nat) : ixN (n + 1) 0 = some 0 := by
  unfold ixN
  rw [if_pos (by decide), if_pos (by omega)]
  rfl
/-! ### a draw -/
theorem ok_l_draw {f : Addr} {fd : FuncData} (F : Fun K "_law_draw" "_law_draw" s_l_draw f fd)  : FnOk P w K mg base CX0 1 f fd ["_law_well_here", "_law_many"] spDraw := by
  refine F.ok sc_l_draw (fun vs H Q E h => ?_) (fun cdv A outer s H vs Q E hr h => ?_)
  · obtain ⟨d, b, m, rfl, _⟩ := h
    rfl
  · obtain ⟨d, b, m, rfl, hD, hB, hm, hb, q⟩ := h
    refine ⟨_, (pss_cons (ps_if (pt_cmpR op_gt (pe_ix ix_list (pv 0) pe_int (fun _ _ => rfl)) pe_int (nomark _))
        (pss_cons (ps_set (i := 2) sc_l_draw.nd rfl (.inl rfl) (pe_op op_mod (pe_ix ix_list (pv 0) pe_int (fun _ _ => rfl)) (pv 1)))
        (pss_cons (ps_asg (pe_op op_fdivW (pe_ix ix_list (pv 0) pe_int (fun _ _ => rfl)) (pv 1)) (pg_sub (pv 0) pe_int set_list))
        (pss_one (ps_ret (pv 2)))))
        pss_nil)
      (pss_cons (ps_asg (pe_op op_add (pe_ix ix_list (pv 0) pe_int (fun _ _ => rfl)) pe_int) (pg_sub (pv 0) pe_int set_list))
      (Evl.pss_cut (ps_set (i := 3) sc_l_draw.nd rfl (.inl rfl) (pe_op op_mod (pe_op op_add (pe_ix ix_list (pv 0) pe_int (fun _ _ => rfl)) (pe_op op_mul pe_int (pe_ix ix_list (pv 0) pe_int (fun _ _ => rfl)))) pe_int))
      (Evl.pss_cut (ps_set (i := 3) sc_l_draw.nd rfl (.inl rfl) (pe_op op_mod (pe_op op_add (pe_op op_add (pe_op op_mul (pv 3) (pv 3)) (pe_op op_mul pe_int (pv 3))) (pe_op op_mul pe_int (pe_ix ix_list (pv 0) pe_int (fun _ _ => rfl)))) pe_int))
      (Evl.pss_cut (ps_set (i := 3) sc_l_draw.nd rfl (.inl rfl) (pe_op op_mod (pe_op op_add (pe_op op_add (pe_op op_mul (pv 3) (pv 3)) (pe_op op_mul pe_int (pv 3))) pe_int) pe_int))
      (pss_one (ps_ret (pe_op op_mod (pe_op op_fdiv (pv 3) pe_int) (pv 1))))))))), ?_⟩
    obtain ⟨g, st, n, hd, hn⟩ := hD
    refine ⟨.ref d, rfl, d, _, 0, .int g, rfl, rfl, SqL.of hd, rfl, g, 0, rfl, rfl, _, rfl, ite2 (fun _ => ?_) (fun _ => ?_)⟩
    · refine ⟨.ref d, rfl, d, _, 0, .int g, rfl, rfl, SqL.of hd, rfl, .int m, rfl, g, m, rfl, rfl, hm, ?_⟩
      refine ⟨.ref d, rfl, d, _, 0, .int g, rfl, rfl, SqL.of hd, rfl, .int m, rfl, g, m, rfl, rfl, wide_div hm hb (by decide) (by decide), .ref d, rfl, d, _, 0, 0, rfl, rfl, hd, rfl, ?_⟩
      exact ⟨.int (g % m), rfl, q _ _ (mod_rng hm).1 (mod_rng hm).2 ⟨g / m, st, n, by rw [upd_same]; rfl, by omega⟩ Kp.at_d⟩
    · refine ⟨.ref d, rfl, d, _, 2, .int n, rfl, rfl, SqL.of hd, rfl, n, 1, rfl, rfl, .ref d, rfl, d, _, 2, 2, rfl, rfl, hd, rfl, ?_⟩
      have hd2 : (upd H d (.lst ([V.int g, V.int st, V.int n].set 2 (.int (n + 1))))) d = some (.lst [.int g, .int st, .int ((n + 1 : Nat) : Int)]) := by rw [upd_same]; rfl
      have k2 : Kp d d H (upd H d (.lst ([V.int g, V.int st, V.int n].set 2 (.int (n + 1))))) := Kp.at_d
      generalize upd H d (.lst ([V.int g, V.int st, V.int n].set 2 (.int (n + 1)))) = H2 at hd2 k2
      refine ⟨fun σ' H5 => ∃ N : Int, σ' = [some (.ref d), some (.int m), none, some (.int N)] ∧ 0 ≤ N ∧ N < 2147483647 ∧ H5 = H2, ?_, ?_⟩
      · exact ⟨.ref d, rfl, d, _, 1, .int st, rfl, rfl, SqL.of hd2, rfl, .ref d, rfl, d, _, 2, _, rfl, rfl, SqL.of hd2, rfl, 48271, _, rfl, rfl, .inl ⟨by decide, by decide⟩, _, _, rfl, rfl, _, 2147483647, rfl, rfl, show (0 : Int) < 2147483647 by decide, _, rfl, (mod_rng (by decide)).1, (mod_rng (by decide)).2, rfl⟩
      rintro σ' H5 ⟨N, rfl, hN0, hN1, rfl⟩
      refine ⟨fun σ' H6 => ∃ M : Int, σ' = [some (.ref d), some (.int m), none, some (.int M)] ∧ 0 ≤ M ∧ M < 2147483629 ∧ H6 = H5, ?_, ?_⟩
      · exact ⟨.int N, rfl, .int N, rfl, N, N, rfl, rfl, .inl ⟨by omega, by omega⟩, .int N, rfl, 69621, N, rfl, rfl, .inl ⟨by decide, by decide⟩, _, _, rfl, rfl, .ref d, rfl, d, _, 2, _, rfl, rfl, SqL.of hd2, rfl, 5, _, rfl, rfl, .inl ⟨by decide, by decide⟩, _, _, rfl, rfl, _, 2147483629, rfl, rfl, show (0 : Int) < 2147483629 by decide, _, rfl, (mod_rng (by decide)).1, (mod_rng (by decide)).2, rfl⟩
      rintro σ' H6 ⟨M, rfl, hM0, hM1, rfl⟩
      refine ⟨fun σ' H7 => ∃ M : Int, σ' = [some (.ref d), some (.int m), none, some (.int M)] ∧ H7 = H6, ?_, ?_⟩
      · exact ⟨.int M, rfl, .int M, rfl, M, M, rfl, rfl, .inl ⟨by omega, by omega⟩, .int M, rfl, 16807, M, rfl, rfl, .inl ⟨by decide, by decide⟩, _, _, rfl, rfl, _, 11, rfl, rfl, _, 2147483587, rfl, rfl, show (0 : Int) < 2147483587 by decide, _, rfl, rfl⟩
      rintro σ' H7 ⟨M2, rfl, rfl⟩
      refine ⟨.int M2, rfl, _, 64, rfl, rfl, ⟨by decide, by decide⟩, .int m, rfl, _, m, rfl, rfl, hm, ?_⟩
      exact q _ _ (mod_rng hm).1 (mod_rng hm).2 ⟨g, st, n + 1, hd2, by omega⟩ k2
/-! ### the well is laid -/
def spWell (K : PySem.W.Frag) : Sp := fun vs H Q _ => ∃ (a : Addr) (ns : List Int) (k : Nat), vs = [.ref a, .int k] ∧ SqL K H a (ns.map V.int) ∧ k < 1000 ∧
  ∀ d H', Same H H' → H d = none → Well H' d 3 → Q (.ref d) H'
theorem ok_l_well {f : Addr} {fd : FuncData} (F : Fun K "_law_well" "_law_well" s_l_well f fd) (M : Free mg) (m_abs : mg "abs" = none) : FnOk P w K mg base CX0 1 f fd ["_law_script", "_law_k"] (spWell K) := by
  refine F.ok sc_l_well (fun vs H Q E h => ?_) (fun cdv A outer s H vs Q E hr h => ?_)
  · obtain ⟨a, ns, k, rfl, _⟩ := h
    rfl
  · obtain ⟨a, ns, k, rfl, hS, hk, q⟩ := h
    refine ⟨_, (pss_cons (ps_set (i := 2) sc_l_well.nd rfl (.inl rfl) (pe_op op_add (pe_op op_mul pe_int (pv 1)) pe_int))
      (Evl.pss_cut (ps_if (pt_cmpR (op_neE hr.units0) (pv 0) (pe_lst pa_nil) (nomark _))
        (pss_one (ps_set (i := 2) sc_l_well.nd rfl (.inl rfl) (pe_op op_add (pe_op op_mul (pe_op op_mod (pe_ix ix_list (pv 0) pe_int (fun _ _ => rfl)) pe_int) (pe_op op_add (pv 1) pe_int)) (pe_op op_mul pe_int (pv 1)))))
        pss_nil)
      (Evl.pss_cut (ps_if (pt_cmpR op_lt (pv 1) (pe_callB call_len_seq (by rfl) M.len PySem.boot_len (pa_cons (pv 0) pa_nil)) (nomark _))
        (pss_one (ps_set (i := 2) sc_l_well.nd rfl (.inl rfl) (pe_ix ix_list (pv 0) (pv 1) (fun _ _ => rfl))))
        pss_nil)
      (pss_cons (ps_set (i := 3) sc_l_well.nd rfl (.inl rfl) pe_int)
      (Evl.pss_cut (ps_if (pt_cmpR op_ge (pe_callB call_abs (by rfl) m_abs (by decide +kernel) (pa_cons (pv 2) pa_nil)) (pe_op op_pow pe_int pe_int) (nomark _))
        (pss_one (ps_set (i := 3) sc_l_well.nd rfl (.inl rfl) (pe_callB call_abs (by rfl) m_abs (by decide +kernel) (pa_cons (pv 2) pa_nil))))
        pss_nil)
      (pss_one (ps_ret (pe_lst (pa_cons (pv 3) (pa_cons (pe_op op_mod (pv 2) pe_int) (pa_cons pe_int pa_nil))))))))))), ?_⟩
    refine ⟨.int k, rfl, 7919, k, rfl, rfl, .inl ⟨by decide, by decide⟩, _, 3, rfl, rfl, ?_⟩
    refine ⟨fun σ' H' => ∃ x : Int, σ' = [some (.ref a), some (.int k), some (.int x), none] ∧ Same H H', ?_, ?_⟩
    · refine ⟨.ref a, rfl, Nat.zero_le _, fun Z nZ => ⟨a, Z, _, rfl, rfl, (same_new nZ).seq hS, SqL.of upd_same, _, rfl, ?_⟩⟩
      have sZ := same_new (o := .lst []) nZ
      by_cases hn : ns = []
      · subst hn
        exact ⟨_, rfl, sZ⟩
      · rw [show (!(ns.map V.int).isEmpty) = true from by cases ns; exact absurd rfl hn; rfl]
        have hpos : 0 < ns.length := List.length_pos_iff.mpr hn
        obtain ⟨x, _, _, hx⟩ := atI_ints (xs := ns) (i := 0) (by omega) (by omega)
        exact ⟨.ref a, rfl, a, _, 0, _, rfl, rfl, sZ.seq hS, hx, x, 1000003, rfl, rfl, (show (0 : Int) < 1000003 by decide), .int k, rfl, k, 2, rfl, rfl, _, _, rfl, rfl, .inr ⟨by omega, by omega⟩, .int k, rfl, 7919, k, rfl, rfl, .inl ⟨by decide, by decide⟩, _, _, rfl, rfl, _, rfl, sZ⟩
    rintro σ' H1 ⟨x0, rfl, s1⟩
    refine ⟨fun σ' H' => ∃ x : Int, σ' = [some (.ref a), some (.int k), some (.int x), none] ∧ Same H H', ?_, ?_⟩
    · refine ⟨.int k, rfl, .ref a, rfl, a, _, rfl, .inl (s1.seq hS), k, _, rfl, rfl, _, rfl, ite2 (fun e => ?_) (fun e => ?_)⟩
      · have hlt := of_decide_eq_true e
        rw [List.length_map] at hlt
        obtain ⟨x, _, _, hx⟩ := atI_ints (xs := ns) (i := k) (by omega) (by omega)
        exact ⟨.ref a, rfl, .int k, rfl, a, _, k, _, rfl, rfl, s1.seq hS, hx, x, rfl, s1⟩
      · exact ⟨_, rfl, s1⟩
    rintro σ' H2 ⟨x, rfl, s2⟩
    refine ⟨fun σ' H' => ∃ y : Int, σ' = [some (.ref a), some (.int k), some (.int x), some (.int y)] ∧ H' = H2, ?_, ?_⟩
    · refine ⟨.int x, rfl, x, rfl, 10, 18, rfl, rfl, ⟨by decide, by decide, by decide⟩, _, _, rfl, rfl, _, rfl, ite2 (fun _ => ?_) (fun _ => ?_)⟩
      · exact ⟨.int x, rfl, x, rfl, _, rfl, rfl⟩
      · exact ⟨0, rfl, rfl⟩
    rintro σ' H3 ⟨y, rfl, rfl⟩
    refine ⟨.int y, rfl, .int x, rfl, _, 2147483647, rfl, rfl, show (0 : Int) < 2147483647 by decide, by show 3 ≤ sizeLine; decide, fun d nd => ?_⟩
    exact q d _ (s2.trans (same_new nd)) (s2.free nd) ⟨y, _, 2, upd_same, by decide⟩
end
/-! ### tuples cut and put together -/
section
variable {X : Cx}
theorem cutV_whole {xs : List V} {lo hi : Option Int} (h : HT.sIx xs.length 0 lo = 0 ∧ HT.sIx xs.length xs.length hi = xs.length) : cutV xs lo hi = xs := by
  unfold cutV
  rw [h.1, h.2]
  simp
def rSlU : V → Option Int → Option Int → Hp → VK → Prop := fun x lo hi H Q => ∃ a xs, x = .ref a ∧ H a = some (.tup xs) ∧ ∀ r H', Same H H' → H' r = some (.tup (cutV xs lo hi)) → Q (.ref r) H'
theorem sl_tupU : SlR X rSlU := by
  intro pins s σ H x v vl vu lo hi sl Q I rx hs pl pu h
  obtain ⟨a, xs, rfl, hx, q⟩ := h
  refine sl_tupA pins s σ H _ v vl vu lo hi sl Q I rx hs pl pu ⟨a, xs, rfl, SqT.of hx, fun hw => ?_, fun _ p np => ?_⟩
  · exact q a H (Same.refl H) (by rw [cutV_whole hw]; exact hx)
  · exact q p _ (same_new np) upd_same
def rCatU : R2 := fun x y H Q => ∃ a b xs ys, x = .ref a ∧ y = .ref b ∧ H a = some (.tup xs) ∧ H b = some (.tup ys) ∧ xs.length + ys.length ≤ 100000 ∧ ∀ r H', Same H H' → H' r = some (.tup (xs ++ ys)) → Q (.ref r) H'
theorem op_catU : OpR X (binaryOp .Add) rCatU := by
  intro pins s σ H x y v u Q I rx ry h
  obtain ⟨a, b, xs, ys, rfl, rfl, ha, hb, hz, q⟩ := h
  refine op_catA pins s σ H _ _ v u Q I rx ry ⟨a, b, xs, ys, rfl, rfl, SqT.of ha, SqT.of hb, Evl.sz_of hz, fun e => ?_, fun _ e => ?_, fun _ _ p np => ?_⟩
  · subst e
    exact q b H (Same.refl H) hb
  · subst e
    exact q a H (Same.refl H) (by rw [List.append_nil]; exact ha)
  · exact q p _ (same_new np) upd_same
end
/-! ### things of any kind -/
/-- its kind is known -/
def Kn (H : Hp) : V → Prop
  | .non => True
  | .bl _ => True
  | .int _ => True
  | .str _ => True
  | .ref a => (∃ xs, H a = some (.lst xs)) ∨ (∃ xs, H a = some (.tup xs)) ∨ ∃ kvs, H a = some (.dK kvs)
  | _ => False
def isI : V → Bool
  | .int _ => true
  | .bl _ => true
  | _ => false
def isB : V → Bool
  | .bl _ => true
  | _ => false
def isW : V → Bool
  | .int _ => true
  | _ => false
def isT (H : Hp) : V → Bool
  | .ref a => match H a with
    | some (.tup _) => true
    | _ => false
  | _ => false
section
variable {K : PySem.W.Frag} {H : Hp}
theorem kn_int {v : V} (h : Kn H v) : ∃ t, TyX K H v t ∧ PySem.W.kitOne K t (.type "int") = some (isI v) := by
  cases v with
  | non => exact ⟨_, .base .non, kit_ty (r := false) (by decide +kernel)⟩
  | bl b => exact ⟨_, .base (.bl b), kit_ty (r := true) (by decide +kernel)⟩
  | int i => exact ⟨_, .base (.int i), kit_ty (r := true) (by decide +kernel)⟩
  | str x => exact ⟨_, .base (.str x), kit_ty (r := false) (by decide +kernel)⟩
  | ref a =>
    rcases h with ⟨xs, h⟩ | ⟨xs, h⟩ | ⟨xs, h⟩
    · exact ⟨_, .base (.lst h), kit_ty (r := false) (by decide +kernel)⟩
    · exact ⟨_, .base (.tup h), kit_ty (r := false) (by decide +kernel)⟩
    · exact ⟨_, .base (.dK h), kit_ty (r := false) (by decide +kernel)⟩
  | byt b => exact h.elim
  | flt b => exact h.elim
  | ty n => exact h.elim
theorem kn_bool {v : V} (h : Kn H v) : ∃ t, TyX K H v t ∧ PySem.W.kitOne K t (.type "bool") = some (isB v) := by
  cases v with
  | non => exact ⟨_, .base .non, kit_ty (r := false) (by decide +kernel)⟩
  | bl b => exact ⟨_, .base (.bl b), kit_ty (r := true) (by decide +kernel)⟩
  | int i => exact ⟨_, .base (.int i), kit_ty (r := false) (by decide +kernel)⟩
  | str x => exact ⟨_, .base (.str x), kit_ty (r := false) (by decide +kernel)⟩
  | ref a =>
    rcases h with ⟨xs, h⟩ | ⟨xs, h⟩ | ⟨xs, h⟩
    · exact ⟨_, .base (.lst h), kit_ty (r := false) (by decide +kernel)⟩
    · exact ⟨_, .base (.tup h), kit_ty (r := false) (by decide +kernel)⟩
    · exact ⟨_, .base (.dK h), kit_ty (r := false) (by decide +kernel)⟩
  | byt b => exact h.elim
  | flt b => exact h.elim
  | ty n => exact h.elim
theorem kn_tup {v : V} (h : Kn H v) : ∃ t, TyX K H v t ∧ PySem.W.kitOne K t (.type "tuple") = some (isT H v) := by
  cases v with
  | non => exact ⟨_, .base .non, kit_ty (r := false) (by decide +kernel)⟩
  | bl b => exact ⟨_, .base (.bl b), kit_ty (r := false) (by decide +kernel)⟩
  | int i => exact ⟨_, .base (.int i), kit_ty (r := false) (by decide +kernel)⟩
  | str x => exact ⟨_, .base (.str x), kit_ty (r := false) (by decide +kernel)⟩
  | ref a =>
    unfold isT
    rcases h with ⟨xs, h⟩ | ⟨xs, h⟩ | ⟨xs, h⟩
    · exact ⟨_, .base (.lst h), by simp only [h]; exact kit_ty (r := false) (by decide +kernel)⟩
    · exact ⟨_, .base (.tup h), by simp only [h]; exact kit_ty (r := true) (by decide +kernel)⟩
    · exact ⟨_, .base (.dK h), by simp only [h]; exact kit_ty (r := false) (by decide +kernel)⟩
  | byt b => exact h.elim
  | flt b => exact h.elim
  | ty n => exact h.elim
theorem isT_at {v : V} (h : isT H v = true) : ∃ a xs, v = .ref a ∧ H a = some (.tup xs) := by
  cases v with
  | ref a =>
    unfold isT at h
    cases e : H a with
    | none => simp only [e] at h; cases h
    | some o =>
      cases o with
      | tup xs => exact ⟨a, xs, rfl, e⟩
      | _ => simp only [e] at h; cases h
  | _ => cases h
theorem isT_of {a : Addr} {xs : List V} (h : H a = some (.tup xs)) : isT H (.ref a) = true := by
  unfold isT
  simp only [h]
end
section
variable {P : Program} {w : World} {K : PySem.W.Frag} {mg : Str → Option Value} {base : Heap}
def spWhole : Sp := fun vs H Q _ => ∃ v, vs = [v] ∧ Kn H v ∧ Q (.bl (isW v)) H
theorem and_whole {v : V} : (isI v && !isB v) = isW v := by cases v <;> rfl
theorem ok_is_whole {f : Addr} {fd : FuncData} (F : Fun K "is_whole" "is_whole" s_is_whole f fd) (M : Free mg) : FnOk P w K mg base CX0 1 f fd ["thing"] spWhole := by
  refine F.ok sc_is_whole (fun vs H Q E h => ?_) (fun cdv A outer s H vs Q E hr h => ?_)
  · obtain ⟨v, rfl, _⟩ := h
    rfl
  · obtain ⟨v, rfl, hk, q⟩ := h
    refine ⟨_, (pss_one (ps_ret (pe_and (pe_callB call_isi (by rfl) M.isinstance (by decide +kernel) (pa_cons (pv 0) (pa_cons (pe_bltn (v := .ty "int") (by rfl) M.int (by decide +kernel) rfl) pa_nil))) (pe_one (pe_not (pe_callB call_isi (by rfl) M.isinstance (by decide +kernel) (pa_cons (pv 0) (pa_cons (pe_bltn (v := .ty "bool") (by rfl) M.bool (by decide +kernel) rfl) pa_nil)))))))), ?_⟩
    obtain ⟨t1, h1, e1⟩ := kn_int (K := K) hk
    obtain ⟨t2, h2, e2⟩ := kn_bool (K := K) hk
    refine ⟨v, rfl, v, _, t1, _, _, rfl, .ty "int", h1, e1, _, rfl, ?_⟩
    rw [← and_whole] at q
    cases hi : isI v with
    | false =>
      rw [hi] at q
      exact q
    | true =>
      rw [hi] at q
      exact ⟨v, rfl, v, _, t2, _, _, rfl, .ty "bool", h2, e2, _, rfl, q⟩
def wfrom (lo : Int) : V → Bool
  | .int i => decide (lo ≤ i)
  | _ => false
def spFrom : Sp := fun vs H Q _ => ∃ lo v, vs = [.int lo, v] ∧ Kn H v ∧ Q (.bl (wfrom lo v)) H
theorem ok_is_whole_from {f : Addr} {fd : FuncData} (F : Fun K "is_whole_from" "is_whole_from" s_is_whole_from f fd) (Dw : Df P w K mg base 1 "is_whole" ["thing"] spWhole) : FnOk P w K mg base CX0 2 f fd ["low", "thing"] spFrom := by
  obtain ⟨fW, fdW, GW, gW, kW, bW⟩ := Dw
  refine F.ok sc_is_whole_from (fun vs H Q E h => ?_) (fun cdv A outer s H vs Q E hr h => ?_)
  · obtain ⟨lo, v, rfl, _⟩ := h
    rfl
  · obtain ⟨lo, v, rfl, hk, q⟩ := h
    refine ⟨_, (pss_one (ps_ret (pe_and (pe_call GW hr (by rfl) gW kW bW .nil pass0 (pa_cons (pv 1) pa_nil)) (pe_one (pe_cmpR op_ge (pv 1) (pv 0) (nomark _)))))), ?_⟩
    refine ⟨v, rfl, v, rfl, hk, _, rfl, ?_⟩
    cases v with
    | int i => exact ⟨.int i, rfl, .int lo, rfl, i, lo, rfl, rfl, q⟩
    | _ => exact q
/-- the parts of a tuple -/
def parts (H : Hp) : V → Option (List V)
  | .ref a => match H a with
    | some (.tup xs) => some xs
    | _ => none
  | _ => none
theorem parts_of' {H : Hp} {a : Addr} {xs : List V} (h : H a = some (.tup xs)) : parts H (.ref a) = some xs := by
  unfold parts
  simp only [h]
theorem parts_none {H : Hp} {v : V} (h : isT H v = false) : parts H v = none := by
  cases v with
  | ref a =>
    unfold isT at h
    unfold parts
    cases e : H a with
    | none => simp only [e]
    | some o =>
      cases o with
      | tup xs => simp only [e] at h; cases h
      | _ => simp only [e]
  | _ => rfl
def lenIs (H : Hp) (v : V) (n : Int) : Bool := match parts H v with
  | some xs => decide ((xs.length : Int) = n)
  | none => false
def spTupleOf : Sp := fun vs H Q _ => ∃ n v, vs = [.int n, v] ∧ Kn H v ∧ Q (.bl (lenIs H v n)) H
theorem dec_int (a b : Int) : decide (V.int a = V.int b) = decide (a = b) := by
  by_cases h : a = b
  · rw [decide_eq_true h, h, decide_eq_true rfl]
  · rw [decide_eq_false h, decide_eq_false (fun z => h (V.int.inj z))]
theorem ok_is_tuple_of {f : Addr} {fd : FuncData} (F : Fun K "is_tuple_of" "is_tuple_of" s_is_tuple_of f fd) (M : Free mg) : FnOk P w K mg base CX0 1 f fd ["length", "thing"] spTupleOf := by
  refine F.ok sc_is_tuple_of (fun vs H Q E h => ?_) (fun cdv A outer s H vs Q E hr h => ?_)
  · obtain ⟨n, v, rfl, _⟩ := h
    rfl
  · obtain ⟨n, v, rfl, hk, q⟩ := h
    refine ⟨_, (pss_one (ps_ret (pe_and (pe_callB call_isi (by rfl) M.isinstance (by decide +kernel) (pa_cons (pv 1) (pa_cons (pe_bltn (v := .ty "tuple") (by rfl) M.tuple (by decide +kernel) rfl) pa_nil))) (pe_one (pe_cmpR op_eq (pe_callB call_len_seq (by rfl) M.len PySem.boot_len (pa_cons (pv 1) pa_nil)) (pv 0) (nomark _)))))), ?_⟩
    obtain ⟨t1, h1, e1⟩ := kn_tup (K := K) hk
    refine ⟨v, rfl, v, _, t1, _, _, rfl, .ty "tuple", h1, e1, _, rfl, ?_⟩
    unfold lenIs at q
    cases hi : isT H v with
    | false =>
      rw [parts_none hi] at q
      exact q
    | true =>
      obtain ⟨a, xs, rfl, e⟩ := isT_at hi
      rw [parts_of' e] at q
      refine ⟨.ref a, rfl, a, xs, rfl, .inr (SqT.of e), .int n, rfl, rfl, ?_⟩
      rw [dec_int]
      exact q
/-! ### a def whose code object stands at c: its own table is at Pt -/
structure FunC (K : PySem.W.Frag) (x qual : Str) (st : Stmt) (f : Addr) (fd : FuncData) (c : Addr) : Prop where
  ex : ∃ (oc : Value) (od : Option Addr) (kV doc pm : Value) (an : Option Addr) (ct : Value) (osl : Array (Option Value)),
    fd = PySem.W.fnOf x qual (defArgs st) (defBody st) (defScope st) .none kV doc pm an (.ref c) ct ∧ K.lookup f = some ⟨oc, od, .func fd, osl⟩ ∧ PySem.W.codeIn K (.ref c) qual = true
  kp : PySem.W.keepIn K (.ref f) = true
theorem FunC.ok {x qual : Str} {st : Stmt} {f c : Addr} {fd : FuncData} {N ps : List Str} {k : Nat} {sp : Sp} (F : FunC K x qual st f fd c) (S : FnScope N ps (defScope st)) (len : ∀ vs H Q E, sp vs H Q E → vs.length = ps.length)
    (hbody : ∀ (A : Around) (outer : List Env) (s : Shared) (H : Hp) (vs : List V) (Q : VK) (E : XK), Room k (A.deeper (envOfC qual (defScope st) s.heap.objs.size f (.ref c))) → sp vs H Q E →
      ∃ t, PSs (cxOf CX0 P w K mg base N qual (defScope st) f (.ref c) A outer s H E).nox (defBody st) t ∧ t { nx := fun _ H' => Q .non H', rt := Q } (start N vs) H) : FnOk P w K mg base CX0 (k + 1) f fd ps sp := by
  obtain ⟨oc, od, kV, doc, pm, an, ct, osl, rfl, lk, hcd⟩ := F.ex
  refine fn_of lk hcd S len fun A outer s H vs Q E hr hsp => ?_
  obtain ⟨t, h, q⟩ := hbody A outer s H vs Q E hr hsp
  exact ⟨t, h.nox, q⟩
theorem FunC.fn {x qual : Str} {st : Stmt} {f c : Addr} {fd : FuncData} (F : FunC K x qual st f fd c) : Fun K x qual st f fd := by
  obtain ⟨oc, od, kV, doc, pm, an, ct, osl, rfl, lk, hcd⟩ := F.ex
  exact ⟨⟨oc, od, kV, doc, pm, an, _, ct, osl, rfl, lk, hcd⟩, F.kp⟩
end
/-! ### all but the tables is kept -/
structure Kt (Ps : List Addr) (H H' : Hp) : Prop where
  tab : ∀ P ∈ Ps, GxR.TabG H' P
  keep : ∀ b o, b ∉ Ps → H b = some o → H' b = some o
def Tabs (Ps : List Addr) (H : Hp) : Prop := ∀ P ∈ Ps, GxR.TabG H P
theorem Kt.refl {Ps : List Addr} {H : Hp} (h : Tabs Ps H) : Kt Ps H H := ⟨h, fun _ _ _ e => e⟩
theorem Kt.trans {Ps : List Addr} {H H1 H2 : Hp} (a : Kt Ps H H1) (b : Kt Ps H1 H2) : Kt Ps H H2 := ⟨b.tab, fun x o h e => b.keep x o h (a.keep x o h e)⟩
theorem Kt.same {Ps : List Addr} {H H' : Hp} (h : Tabs Ps H) (s : Same H H') : Kt Ps H H' := ⟨fun P hP => by obtain ⟨ps, e, t⟩ := h P hP; exact ⟨ps, s _ _ e, t⟩, fun b o _ e => s b o e⟩
theorem Kt.tabbed {Ps : List Addr} {P : Addr} {H H' : Hp} (h : Tabs Ps H) (hP : P ∈ Ps) (t : GxR.Tabbed P H H') : Kt Ps H H' := by
  refine ⟨fun Q hQ => ?_, fun b o hb e => ?_⟩
  · by_cases e : Q = P
    · rw [e]
      exact t.1
    · obtain ⟨ps, e1, t1⟩ := h Q hQ
      exact ⟨ps, by rw [t.2 Q e]; exact e1, t1⟩
  · rw [t.2 b (fun z => hb (by rw [z]; exact hP))]
    exact e
theorem Tabs.out {Ps : List Addr} {H : Hp} {a : Addr} {o : HO} (t : Tabs Ps H) (h : H a = some o) (no : ∀ ps, o ≠ .tbl ps) : a ∉ Ps := fun z => by
  obtain ⟨ps, e, _⟩ := t a z
  rw [e] at h
  cases h
  exact no _ rfl
theorem Kt.tup {Ps : List Addr} {a : Addr} {H H' : Hp} {xs : List V} (k : Kt Ps H H') (t : Tabs Ps H) (h : H a = some (.tup xs)) : H' a = some (.tup xs) := k.keep a _ (t.out h fun _ z => by cases z) h
theorem Kt.lst {Ps : List Addr} {a : Addr} {H H' : Hp} {xs : List V} (k : Kt Ps H H') (t : Tabs Ps H) (h : H a = some (.lst xs)) : H' a = some (.lst xs) := k.keep a _ (t.out h fun _ z => by cases z) h
theorem Kt.dct {Ps : List Addr} {a : Addr} {H H' : Hp} {xs : List (Key × V)} (k : Kt Ps H H') (t : Tabs Ps H) (h : H a = some (.dK xs)) : H' a = some (.dK xs) := k.keep a _ (t.out h fun _ z => by cases z) h
theorem Kt.tk {Ps : List Addr} {H H' : Hp} (k : Kt Ps H H') (t : Tabs Ps H) : Tk H H' := fun _ _ e => k.tup t e
theorem Kt.kn {Ps : List Addr} {H H' : Hp} (k : Kt Ps H H') (t : Tabs Ps H) {v : V} (h : Kn H v) : Kn H' v := by
  cases v with
  | ref a =>
    rcases h with ⟨xs, h⟩ | ⟨xs, h⟩ | ⟨xs, h⟩
    · exact .inl ⟨xs, k.lst t h⟩
    · exact .inr (.inl ⟨xs, k.tup t h⟩)
    · exact .inr (.inr ⟨xs, k.dct t h⟩)
  | _ => exact h
theorem Kt.well {Ps : List Addr} {d : Addr} {b : Nat} {H H' : Hp} (k : Kt Ps H H') (t : Tabs Ps H) (D : Well H d b) : Well H' d b := by
  obtain ⟨g, st, n, e1, e2⟩ := D
  exact ⟨g, st, n, k.lst t e1, e2⟩
theorem Tabs.kp {Ps : List Addr} {d : Addr} {b : Nat} {H H' : Hp} (t : Tabs Ps H) (k : Kp d d H H') (D : Well H d b) : Tabs Ps H' := fun P hP => by
  obtain ⟨ps, e, x⟩ := t P hP
  obtain ⟨g, st, n, e1, e2⟩ := D
  have ne : P ≠ d := ne_of e e1 (by intro z; cases z)
  exact ⟨ps, k _ _ ne ne e, x⟩
theorem Tabs.same {Ps : List Addr} {H H' : Hp} (t : Tabs Ps H) (s : Same H H') : Tabs Ps H' := (Kt.same t s).tab
theorem Tabs.new {Ps : List Addr} {H : Hp} {a : Addr} {o : HO} (t : Tabs Ps H) (h : H a = none) : Tabs Ps (upd H a o) := t.same (same_new h)
/-! ### x in t of data of any depth -/
def rInT (K : PySem.W.Frag) : R2 := fun x y H Q => ∃ d ds, Dp K H x d ∧ Dp K H y (.tuple ds) ∧ SeqAt.shaped d = true ∧ SeqAt.shaped (.tuple ds) = true ∧ Q (.bl (ds.any fun z => PyData.eqv z d)) H
theorem op_inTup {X : Cx} (hu : X.A.units + 65 < cLine) : OpR X (compareOp .In) (rInT X.K) := by
  intro pins s σ H x y v u Q I rx ry want
  obtain ⟨d, ds, hd, he, sd, se, q⟩ := want
  obtain ⟨as, r1⟩ := Dp.reads I d x v hd rx
  obtain ⟨bs, r2⟩ := Dp.reads I (.tuple ds) y u he ry
  have lay : PyData.canLayAll0 ds = true := by
    have z := SeqAt.canLay_of_shaped se
    rw [PyData.canLay0] at z
    exact z
  have deep := SeqAt.depth_of_shaped sd
  exact SeqAt.in_tuple_reads r2 r1 lay (SeqAt.canLay_of_shaped sd) (by omega) ⟨.bl _, H, I, rfl, q⟩
/-! ### ties, walks, parts: the mathematics -/
def Adj (ts : List Tie) (a b : Int) (foe : Bool) : Prop := ∃ t ∈ ts, t.foe = foe ∧ ((t.one = a ∧ t.other = b) ∨ (t.one = b ∧ t.other = a))
theorem Adj.symm {ts : List Tie} {a b : Int} {k : Bool} (h : Adj ts a b k) : Adj ts b a k := by
  obtain ⟨t, ht, e, h⟩ := h
  exact ⟨t, ht, e, h.symm⟩
/-- a walk with so many foes, even or odd -/
inductive RP (ts : List Tie) (a : Int) : Int → Bool → Prop
  | nil : RP ts a a false
  | step {b c : Int} {p k : Bool} : RP ts a b p → Adj ts b c k → RP ts a c (p ^^ k)
def Rch (ts : List Tie) (a b : Int) : Prop := ∃ p, RP ts a b p
theorem RP.trans {ts : List Tie} {a b c : Int} {p q : Bool} (h : RP ts a b p) (g : RP ts b c q) : RP ts a c (p ^^ q) := by
  induction g with
  | nil =>
    rw [Bool.xor_false]
    exact h
  | step _ k ih =>
    rw [← Bool.xor_assoc]
    exact ih.step k
theorem RP.one {ts : List Tie} {a b : Int} {k : Bool} (h : Adj ts a b k) : RP ts a b k := by
  have q := RP.nil.step h
  rw [Bool.false_xor] at q
  exact q
theorem RP.symm {ts : List Tie} {a b : Int} {p : Bool} (h : RP ts a b p) : RP ts b a p := by
  induction h with
  | nil => exact .nil
  | step _ k ih =>
    have q := (RP.one k.symm).trans ih
    rw [Bool.xor_comm] at q
    exact q
theorem Rch.refl {ts : List Tie} {a : Int} : Rch ts a a := ⟨_, .nil⟩
theorem Rch.symm {ts : List Tie} {a b : Int} (h : Rch ts a b) : Rch ts b a := by
  obtain ⟨p, h⟩ := h
  exact ⟨p, h.symm⟩
theorem Rch.trans {ts : List Tie} {a b c : Int} (h : Rch ts a b) (g : Rch ts b c) : Rch ts a c := by
  obtain ⟨p, h⟩ := h
  obtain ⟨q, g⟩ := g
  exact ⟨_, h.trans g⟩
theorem Rch.adj {ts : List Tie} {a b : Int} {k : Bool} (h : Adj ts a b k) : Rch ts a b := ⟨_, RP.one h⟩
theorem Rch.ind {ts : List Tie} {a b : Int} (C : Int → Prop) (h : Rch ts a b) (h0 : C a) (hs : ∀ x y k, C x → Adj ts x y k → C y) : C b := by
  obtain ⟨p, h⟩ := h
  induction h with
  | nil => exact h0
  | step _ k ih => exact hs _ _ _ ih k
theorem Adj.rng {ts : List Tie} {n a b : Int} {k : Bool} (ok : ∀ t ∈ ts, TieOk n t) (h : Adj ts a b k) : 0 ≤ b ∧ b < n := by
  obtain ⟨t, ht, _, h⟩ := h
  obtain ⟨h1, h2, h3, h4, _⟩ := ok t ht
  rcases h with ⟨e1, e2⟩ | ⟨e1, e2⟩
  · omega
  · omega
theorem Rch.rng {ts : List Tie} {n a b : Int} (ok : ∀ t ∈ ts, TieOk n t) (ha : 0 ≤ a ∧ a < n) (h : Rch ts a b) : 0 ≤ b ∧ b < n := h.ind (fun x => 0 ≤ x ∧ x < n) ha fun _ _ _ _ k => k.rng ok
def leader (ts : List Tie) (s : Int) : Prop := ∀ q, Rch ts s q → s ≤ q
/-- rising lists of the same numbers are one -/
theorem rising_ext : ∀ {xs ys : List Int}, xs.Pairwise (· < ·) → ys.Pairwise (· < ·) → (∀ z, z ∈ xs ↔ z ∈ ys) → xs = ys
  | [], [], _, _, _ => rfl
  | [], y :: ys, _, _, h => by have := (h y).mpr (by simp); simp at this
  | x :: xs, [], _, _, h => by have := (h x).mp (by simp); simp at this
  | x :: xs, y :: ys, hx, hy, h => by
    rw [List.pairwise_cons] at hx hy
    have e : x = y := by
      have h1 := (h x).mp (by simp)
      have h2 := (h y).mpr (by simp)
      rcases List.mem_cons.mp h1 with e | e
      · exact e
      · rcases List.mem_cons.mp h2 with e' | e'
        · exact e'.symm
        · have := hx.1 y e'
          have := hy.1 x e
          omega
    subst e
    rw [rising_ext hx.2 hy.2 fun z => ?_]
    constructor
    · intro hz
      rcases List.mem_cons.mp ((h z).mp (List.mem_cons_of_mem _ hz)) with e | e
      · have := hx.1 z hz
        omega
      · exact e
    · intro hz
      rcases List.mem_cons.mp ((h z).mpr (List.mem_cons_of_mem _ hz)) with e | e
      · have := hy.1 z hz
        omega
      · exact e
/-- 0, 1, .., n - 1 -/
def rng (n : Nat) : List Int := (List.range n).map fun (i : Nat) => (i : Int)
theorem mem_rng {n : Nat} {z : Int} : z ∈ rng n ↔ 0 ≤ z ∧ z < n := by
  unfold rng
  rw [List.mem_map]
  constructor
  · rintro ⟨i, hi, rfl⟩
    have := List.mem_range.mp hi
    omega
  · rintro ⟨h1, h2⟩
    exact ⟨z.toNat, List.mem_range.mpr (by omega), by omega⟩
theorem rng_rising (n : Nat) : (rng n).Pairwise (· < ·) := by
  unfold rng
  rw [List.pairwise_map]
  exact List.pairwise_lt_range.imp (by intro a b h; omega)
theorem rng_succ (n : Nat) : rng (n + 1) = rng n ++ [(n : Int)] := by
  unfold rng
  rw [List.range_succ, List.map_append]
  rfl
theorem rng_length (n : Nat) : (rng n).length = n := by
  unfold rng
  rw [List.length_map, List.length_range]
open Classical in
/-- the part of s -/
noncomputable def partOf (ts : List Tie) (n : Nat) (s : Int) : List Int := (rng n).filter fun p => decide (Rch ts s p)
open Classical in
/-- the parts by their first places, below i -/
noncomputable def partsTo (ts : List Tie) (n i : Nat) : List (List Int) := ((rng i).filter fun s => decide (leader ts s)).map (partOf ts n)
open Classical in
theorem partsTo_succ (ts : List Tie) (n i : Nat) : partsTo ts n (i + 1) = partsTo ts n i ++ (if leader ts i then [partOf ts n i] else []) := by
  unfold partsTo
  rw [rng_succ, List.filter_append, List.map_append]
  congr 1
  by_cases h : leader ts (i : Int)
  · rw [if_pos h, List.filter_cons, if_pos (decide_eq_true h)]
    rfl
  · rw [if_neg h, List.filter_cons, if_neg (by simpa using h)]
    rfl
theorem part_rising (ts : List Tie) (n : Nat) (s : Int) : (partOf ts n s).Pairwise (· < ·) := (rng_rising n).filter _
theorem mem_part {ts : List Tie} {n : Nat} {s z : Int} : z ∈ partOf ts n s ↔ (0 ≤ z ∧ z < n) ∧ Rch ts s z := by
  unfold partOf
  rw [List.mem_filter, mem_rng]
  simp
/-! ### the least place that each comes to, gone over again and again -/
def relax (f : Int → Int) (t : Tie) : Int → Int := fun x => if x = t.one ∨ x = t.other then min (f t.one) (f t.other) else f x
def rounds (ts : List Tie) : Nat → Int → Int
  | 0 => fun x => x
  | r + 1 => ts.foldl relax (rounds ts r)
theorem relax_le (f : Int → Int) (t : Tie) (x : Int) : relax f t x ≤ f x := by
  unfold relax
  split
  · rename_i h
    rcases h with rfl | rfl <;> omega
  · exact Int.le_refl _
theorem fold_le : ∀ (l : List Tie) (f : Int → Int) (x : Int), l.foldl relax f x ≤ f x
  | [], _, _ => Int.le_refl _
  | t :: l, f, x => Int.le_trans (fold_le l (relax f t) x) (relax_le f t x)
theorem fold_tie : ∀ (l : List Tie) (f : Int → Int) (t : Tie), t ∈ l → l.foldl relax f t.one ≤ min (f t.one) (f t.other) ∧ l.foldl relax f t.other ≤ min (f t.one) (f t.other)
  | t' :: l, f, t, h => by
    rcases List.mem_cons.mp h with e | e
    · subst e
      have h1 := fold_le l (relax f t) t.one
      have h2 := fold_le l (relax f t) t.other
      have e1 : relax f t t.one = min (f t.one) (f t.other) := by unfold relax; rw [if_pos (.inl rfl)]
      have e2 : relax f t t.other = min (f t.one) (f t.other) := by unfold relax; rw [if_pos (.inr rfl)]
      rw [e1] at h1
      rw [e2] at h2
      exact ⟨h1, h2⟩
    · have ih := fold_tie l (relax f t') t e
      have h1 := relax_le f t' t.one
      have h2 := relax_le f t' t.other
      exact ⟨Int.le_trans ih.1 (by omega), Int.le_trans ih.2 (by omega)⟩
theorem fold_rch {ts : List Tie} : ∀ (l : List Tie) (f : Int → Int), (∀ t ∈ l, t ∈ ts) → (∀ x, Rch ts x (f x)) → ∀ x, Rch ts x (l.foldl relax f x)
  | [], _, _, h => h
  | t :: l, f, hl, h => fold_rch l (relax f t) (fun t' ht => hl t' (List.mem_cons_of_mem _ ht)) fun x => by
    have ad : Rch ts t.one t.other := Rch.adj (k := t.foe) ⟨t, hl t (by simp), rfl, .inl ⟨rfl, rfl⟩⟩
    unfold relax
    split
    · rename_i hx
      have key : Rch ts x t.one ∧ Rch ts x t.other := by
        rcases hx with e | e <;> subst e
        · exact ⟨Rch.refl, ad⟩
        · exact ⟨ad.symm, Rch.refl⟩
      rcases Int.le_total (f t.one) (f t.other) with q | q
      · rw [Int.min_eq_left q]
        exact key.1.trans (h _)
      · rw [Int.min_eq_right q]
        exact key.2.trans (h _)
    · exact h x
theorem rounds_rch (ts : List Tie) : ∀ (r : Nat) (x : Int), Rch ts x (rounds ts r x)
  | 0, _ => Rch.refl
  | r + 1, x => fold_rch ts _ (fun _ h => h) (rounds_rch ts r) x
theorem filter_lt {p q : Int → Bool} : ∀ {l : List Int}, (∀ x ∈ l, q x = true → p x = true) → (∃ x ∈ l, p x = true ∧ q x = false) → (l.filter q).length < (l.filter p).length
  | [], _, ⟨x, hx, _⟩ => by simp at hx
  | y :: l, hi, ⟨x, hx, hp, hq⟩ => by
    have mono : (l.filter q).length ≤ (l.filter p).length := by
      have hi' : ∀ x ∈ l, q x = true → p x = true := fun x h => hi x (List.mem_cons_of_mem _ h)
      clear hi hx hp hq
      induction l with
      | nil => exact Nat.le_refl _
      | cons z l ih =>
        have ih := ih fun x h => hi' x (List.mem_cons_of_mem _ h)
        rw [List.filter_cons, List.filter_cons]
        have hz := hi' z (by simp)
        cases h1 : q z <;> cases h2 : p z <;> simp_all <;> omega
    rw [List.filter_cons, List.filter_cons]
    rcases List.mem_cons.mp hx with e | e
    · subst e
      rw [hq, hp]
      simp
      omega
    · have ih := filter_lt (l := l) (fun x h => hi x (List.mem_cons_of_mem _ h)) ⟨x, e, hp, hq⟩
      have hy := hi y (by simp)
      cases h1 : q y <;> cases h2 : p y <;> simp_all <;> omega
open Classical in
/-- behind as many rounds as there are places each has its part's least place -/
theorem rounds_least {ts : List Tie} {n : Nat} (ok : ∀ t ∈ ts, TieOk n t) {m p : Int} (hm : leader ts m) (h0 : 0 ≤ m ∧ m < n) (hp : Rch ts m p) : rounds ts n p = m := by
  have ge : ∀ r x, Rch ts m x → m ≤ rounds ts r x := fun r x hx => hm _ (hx.trans (rounds_rch ts r x))
  have mono : ∀ r x, rounds ts (r + 1) x ≤ rounds ts r x := fun r x => fold_le ts _ x
  have atm : ∀ r, rounds ts r m = m := fun r => by
    have h1 := ge r m Rch.refl
    have h2 : rounds ts r m ≤ m := by
      induction r with
      | zero => exact Int.le_refl _
      | succ r ih => exact Int.le_trans (mono r m) (ih (ge r m Rch.refl))
    omega
  have cnt : ∀ r, ((rng n).filter fun x => decide (Rch ts m x ∧ rounds ts r x ≠ m)).length ≤ n - r := fun r => by
    induction r with
    | zero =>
      refine Nat.le_trans (List.length_filter_le _ _) ?_
      rw [rng_length]
      omega
    | succ r ih =>
      by_cases hex : ∃ x, Rch ts m x ∧ rounds ts r x ≠ m
      · obtain ⟨x, hx, hne⟩ := hex
        -- an edge over which it comes
        have edge : ∃ a b k, Rch ts m a ∧ rounds ts r a = m ∧ Adj ts a b k ∧ rounds ts r b ≠ m := by
          by_cases hn : ∃ a b k, Rch ts m a ∧ rounds ts r a = m ∧ Adj ts a b k ∧ rounds ts r b ≠ m
          · exact hn
          · exfalso
            refine hne (hx.ind (fun y => Rch ts m y ∧ rounds ts r y = m) ⟨Rch.refl, atm r⟩ fun a b k ha k' => ⟨ha.1.trans (Rch.adj k'), ?_⟩).2
            by_cases hb : rounds ts r b = m
            · exact hb
            · exact absurd ⟨a, b, k, ha.1, ha.2, k', hb⟩ hn
        obtain ⟨a, b, k, ha, ha2, hab, hb⟩ := edge
        have hmb : Rch ts m b := ha.trans (Rch.adj hab)
        have hb' : rounds ts (r + 1) b = m := by
          have h1 := ge (r + 1) b hmb
          obtain ⟨t, ht, _, h⟩ := hab
          have ft := fold_tie ts (rounds ts r) t ht
          have h2 : rounds ts (r + 1) b ≤ m := by
            rcases h with ⟨e1, e2⟩ | ⟨e1, e2⟩
            · have q := ft.2
              rw [e1, e2, ha2] at q
              exact Int.le_trans q (by omega)
            · have q := ft.1
              rw [e1, e2, ha2] at q
              exact Int.le_trans q (by omega)
          omega
        have lt := filter_lt (p := fun x => decide (Rch ts m x ∧ rounds ts r x ≠ m)) (q := fun x => decide (Rch ts m x ∧ rounds ts (r + 1) x ≠ m)) (l := rng n) (fun x _ hq => by
          have hq := of_decide_eq_true hq
          refine decide_eq_true ⟨hq.1, fun z => hq.2 ?_⟩
          have h1 := ge (r + 1) x hq.1
          have h2 := mono r x
          omega) ⟨b, mem_rng.mpr (hmb.rng ok h0), decide_eq_true ⟨hmb, hb⟩, decide_eq_false fun z => z.2 hb'⟩
        omega
      · have e : (rng n).filter (fun x => decide (Rch ts m x ∧ rounds ts (r + 1) x ≠ m)) = [] := by
          rw [List.filter_eq_nil_iff]
          intro x _ hq
          have hq := of_decide_eq_true hq
          refine hex ⟨x, hq.1, fun z => hq.2 ?_⟩
          have h1 := ge (r + 1) x hq.1
          have h2 := mono r x
          omega
        rw [e]
        exact Nat.zero_le _
  have c := cnt n
  rw [Nat.sub_self] at c
  have e := List.eq_nil_of_length_eq_zero (Nat.le_zero.mp c)
  by_cases hne : rounds ts n p = m
  · exact hne
  · rw [List.filter_eq_nil_iff] at e
    exact absurd (decide_eq_true ⟨hp, hne⟩) (e p (mem_rng.mpr (hp.rng ok h0)))
open Classical in
/-- each has a least place -/
theorem has_leader {ts : List Tie} {n : Nat} (ok : ∀ t ∈ ts, TieOk n t) {p : Int} (h0 : 0 ≤ p ∧ p < n) : ∃ m, leader ts m ∧ (0 ≤ m ∧ m < n) ∧ Rch ts m p := by
  have key : ∀ (k : Nat) (x : Int), x = k → Rch ts p x → ∃ m, leader ts m ∧ (0 ≤ m ∧ m < n) ∧ Rch ts m p := by
    intro k
    induction k using Nat.strongRecOn with
    | ind k ih =>
      intro x hx hr
      have hxr := hr.rng ok h0
      by_cases hl : leader ts x
      · exact ⟨x, hl, hxr, hr.symm⟩
      · have hl' : ∃ q, Rch ts x q ∧ q < x := by
          by_cases h : ∃ q, Rch ts x q ∧ q < x
          · exact h
          · exfalso
            refine hl fun q hq => ?_
            by_cases h' : q < x
            · exact absurd ⟨q, hq, h'⟩ h
            · omega
        obtain ⟨q, hq, hlt⟩ := hl'
        have hqr := hq.rng ok hxr
        exact ih q.toNat (by omega) q (by omega) (hr.trans hq)
  exact key p.toNat p (by omega) Rch.refl
/-! ### tuples that are known to have no dict: their methods -/
def NoD (H : Hp) (p : Addr) (xs : List V) : Prop := ∃ o : Obj, o.dict = none ∧ H p = some (.frz o (.tup xs))
theorem NoD.same {H H' : Hp} {p : Addr} {xs : List V} (h : NoD H p xs) (s : Same H H') : NoD H' p xs := by
  obtain ⟨o, h1, h2⟩ := h
  exact ⟨o, h1, s _ _ h2⟩
theorem NoD.sq {K : PySem.W.Frag} {H : Hp} {p : Addr} {xs : List V} (h : NoD H p xs) : SqT K H p xs := by
  obtain ⟨o, h1, h2⟩ := h
  exact .inl (.inr ⟨o, h2⟩)
theorem NoD.kp {H H' : Hp} {d p : Addr} {b : Nat} {xs : List V} (h : NoD H p xs) (k : Kp d d H H') (D : Well H d b) : NoD H' p xs := by
  obtain ⟨o, h1, h2⟩ := h
  obtain ⟨g, st, n, e1, _⟩ := D
  have ne : p ≠ d := ne_of h2 e1 (by intro z; cases z)
  exact ⟨o, h1, k _ _ ne ne h2⟩
section
variable {X : Cx}
theorem call_tuple_ofZ : CallR X (.type "tuple") (fun xs H Q => ∃ p ys, xs = [.ref p] ∧ SqL X.K H p ys ∧ ∀ l o, o.dict = none → H l = none → Q (.ref l) (upd H l (.frz o (.tup ys)))) := by
  intro pins s σ H xs us Q I r h
  obtain ⟨p, ys, rfl, hq, q⟩ := h
  obtain ⟨u, rfl, rx⟩ := vals1 r
  cases rx
  obtain ⟨its, r', pl, hz⟩ := I.list hq
  have hlen := r'.length
  refine call_tuple_list pl.isList (fun h' kp => ?_) (by simp only [List.size_toArray] <;> omega)
  have I1 : Inv X pins σ H { s with heap := h' } := I.kept (t' := s.toks) kp
  have I2 : Inv X pins σ (upd H h'.objs.size (.frz { cls := .type "tuple", data := .seq its.toArray } (.tup ys))) { s with heap := h'.push { cls := .type "tuple", data := .seq its.toArray } } :=
    I1.laid (t' := s.toks) (fun b o e => Heap.get?_push_of_some _ e) (Nat.le_refl _) (show ObjOk X.prog X.w _ _ _ (.frz { cls := .type "tuple", data := .seq its.toArray } (.tup ys)) from ⟨Heap.get?_push_size _ rfl, hz, its, r', IsTup.new _ _⟩)
  exact ⟨.ref h'.objs.size, _, I2, rfl, q _ _ rfl (I1.hok.fresh (Nat.le_refl _))⟩
def tTupRgZ (te : L2.St → Hp → (Int → Int → Hp → Prop) → Prop) : TE := fun σ H Q => te σ H fun a b H1 => RgOk a b ∧ ∀ q o, o.dict = none → H1 q = none → Q (.ref q) (upd H1 q (.frz o (.tup (rgV a b))))
theorem pe_tupRgZ {e : Expr} {te : L2.St → Hp → (Int → Int → Hp → Prop) → Prop} {p pos : Pos} (hc : X.calm = true) (hg : Gl X "tuple") (hm : X.mg "tuple" = none) (he : PRg X e te) (na : starEach [e] X.env = (false, eval e X.env) :: starEach [] X.env := by rfl) : PE X (.Call (.Name "tuple" p) [e] [] pos) (tTupRgZ te) := by
  refine ⟨fun pins s σ H Q I h => ?_⟩
  refine Call_ (ld_blt I hg hm boot_tuple (PyProof.Rows.callWith_type1 (args_cons (thn (he pins s σ H _ I h) fun x s1 ⟨r, a, b, t, u, v, H1, ex, hr, I1, ok, q⟩ => args_nil ?_) na) na))
  subst ex
  obtain ⟨b1, b2, b3, b4, b5⟩ := ok
  refine call_tuple_range (n := (b - a).toNat) (I1.ok.hd hc) hr (small_one b1 b2 b3 b4) (rangeSize_nat a b) b5 fun h' tk acc hk hi => ?_
  have I2 : Inv X pins σ H1 { s1 with heap := h', toks := tk } := I1.kept hk
  refine ⟨.ref h'.objs.size, upd H1 h'.objs.size (.frz { cls := .type "tuple", data := .seq acc } (.tup (rgV a b))), I2.laid (t' := tk) (fun c o e => Heap.get?_push_of_some _ e) (Nat.le_refl _) (show ObjOk X.prog X.w _ _ _ (.frz { cls := .type "tuple", data := .seq acc } (.tup (rgV a b))) from ⟨Heap.get?_push_size _ rfl, ?_, acc.toList, vals_rg hi, ?_⟩), rfl, q _ _ rfl (I2.hok.fresh (Nat.le_refl _))⟩
  · rw [rgV_length, sizeLine_eq]; omega
  · rw [Array.toArray_toList]; exact IsTup.new _ _
/-- a method of such a tuple -/
def tBMT (r : V → List V → Hp → VK → Prop) (to : TE) (t : TA) : TE := fun σ H Q => to σ H fun x H1 => (∃ p xs, x = .ref p ∧ NoD H1 p xs) ∧ t σ H1 fun xs H2 => r x xs H2 Q
theorem pe_bmT {o e : Expr} {es : List Expr} {to : TE} {t : TA} {name : Str} {apos cpos : Pos} {id : String} {r : V → List V → Hp → VK → Prop} (slot : Slot "tuple" name id) (hty : typeOf (.builtin id) = pure (.type "method_descriptor")) (hm : MtR X id r) (ho : PE X o to) (ha : PA X (e :: es) t)
    (hbase : attributeBase o name X.env (eval o X.env) = eval o X.env := by rfl)
    (hfew : ((backTo cpos (starEach (e :: es) X.env)).all (fun x => !x.1) && (backToKw cpos (keywordEach [] X.env)).all (fun x => x.1.isSome)
      && decide ((e :: es).length + ([] : List Keyword).length + (if ([] : List Keyword).isEmpty then 0 else 1) < 30)) = true := by rfl)
    (hline : (apos.endLine == cpos.line) = true := by rfl) (hs : starEach (e :: es) X.env = (false, eval e X.env) :: starEach es X.env := by rfl) (hplain : (backTo cpos (starEach es X.env)).any (·.1) = false := by rfl) :
    PE X (.Call (.Attribute o name apos) (e :: es) [] cpos) (tBMT r to t) := by
  refine ⟨fun pins s σ H Q I h => ?_⟩
  refine wpAny_Call_method_late hbase hfew hline rfl (thn (ho.run pins s σ H _ I h) fun v s1 ⟨x, H1, I1, r1, ⟨p, xs, ex, ob, od, hp⟩, q1⟩ => ?_)
  subst ex
  obtain rfl : v = Value.ref p := r1
  obtain ⟨e1, hz, its, rv, o2, e2, c2, n2, d2⟩ := (show ObjOk X.prog X.w H1 s1.heap p (.frz ob (.tup xs)) from I1.hok p _ hp)
  rw [e1] at e2
  cases e2
  refine ⟨"tuple", id, PySem.F.plainAttrs_tuple, slot, hty, ⟨ob, e1, c2⟩, fun a ea => ?_, ?_⟩
  · cases ea
    exact ⟨ob, e1, od⟩
  have hA := ha.run cpos pins s1 σ H1 _ I1 q1
  rw [hs] at hA ⊢
  refine Calls.callWith_builtin (by show (false || (backTo cpos (starEach es X.env)).any (·.1)) = false; rw [hplain] <;> rfl) (Calls.evalArgs_plain ?_)
  exact thn hA fun us s2 ⟨vs, H2, I2, r2, q2⟩ => hm pins s2 σ H2 (.ref p) vs (.ref p) us Q I2 rfl r2 q2
def rCntT (K : PySem.W.Frag) : V → List V → Hp → VK → Prop := fun x xs H Q => ∃ (p : Addr) (ns : List Int) (k : Int), x = .ref p ∧ xs = [.int k] ∧ SqT K H p (ns.map V.int) ∧ Q (.int (ns.count k : Nat)) H
theorem mt_tcount : MtR X "tuple.count" (rCntT X.K) := by
  intro pins s σ H x xs v us Q I rx rxs h
  obtain ⟨p, ns, k, rfl, rfl, hs, q⟩ := h
  cases rx
  obtain ⟨u, rfl, ru⟩ := rxs.one
  obtain ⟨t, rfl⟩ := ru
  obtain ⟨its, rv, ⟨⟨cls, dd, data, sl⟩, ho, hc, n, hd⟩, hlen⟩ := I.tuple hs
  simp only at hc hd
  subst hc hd
  have hi := ints_of_vals rv
  refine call_meets PySem.F.slot_tuple_count ⟨_, ho, rfl⟩ PySem.F.entry_tuple_count (PySem.F.args_tuple_count_2 _ _)
    (SeqAt.tuple_countAt p its.toArray n dd sl (.int k t) (eqk k)) ⟨ho, fun y hy => (eqk_gives hi y (by simpa using hy)).at _ _, ?_⟩
  have ec : its.toArray.toList.countP (eqk k) = ns.count k := eqk_count hi
  refine ⟨.int (ns.count k : Nat), H, I.tok _, ⟨s.toks, ?_⟩, q⟩
  show Value.int ((its.toArray.toList.countP (eqk k) : Nat) : Int) s.toks = Value.int ((ns.count k : Nat) : Int) s.toks
  rw [ec]
end
/-! ### zip of two tuples -/
theorem walk_zipT {K : PySem.W.Frag} {a b : Addr} {xs ys : List V} {n : Nat} (hn : n = min xs.length ys.length) : Walk (RZ.ItzT K a b) n (fun H => SqT K H a xs ∧ SqT K H b ys) (YPair (fun i => xs[i]?) (fun i => ys[i]?)) := by
  subst hn
  refine ⟨fun i _ hi q => ?_, fun _ q => ⟨xs, ys, q.1, q.2, by omega⟩, fun i H v H' _ q y => ?_⟩
  · have h1 : i < xs.length := by omega
    have h2 : i < ys.length := by omega
    exact ⟨xs, ys, xs[i], ys[i], q.1, q.2, by simp [h1], by simp [h2]⟩
  · obtain ⟨T, x, z, h1, h2, h3, h4, h5⟩ := y
    exact ⟨T, x, z, h1, h2, h3, h4 xs q.1, h5 ys q.2⟩
/-! ### rows of numbers as data -/
def IntsV (H : Hp) (v : V) (xs : List Int) : Prop := ∃ b, v = .ref b ∧ H b = some (.tup (xs.map V.int))
theorem IntsV.tk {H H' : Hp} (k : Tk H H') {v : V} {xs : List Int} (h : IntsV H v xs) : IntsV H' v xs := by
  obtain ⟨a, rfl, e⟩ := h
  exact ⟨a, rfl, k _ _ e⟩
def intsD (xs : List Int) : PyData := .tuple (xs.map PyData.int)
section
variable {K : PySem.W.Frag} {H : Hp}
theorem dp_ints : ∀ (xs : List Int), DpAll K H (xs.map V.int) (xs.map PyData.int)
  | [] => .nil
  | x :: xs => .cons (.int x) (dp_ints xs)
theorem IntsV.dp {v : V} {xs : List Int} (h : IntsV H v xs) : Dp K H v (intsD xs) := by
  obtain ⟨b, rfl, e⟩ := h
  exact .tup (SqT.of e) (dp_ints xs)
end
theorem lay_ints : ∀ xs : List Int, PyData.canLayAll0 (xs.map PyData.int) = true
  | [] => by simp [PyData.canLayAll0]
  | x :: xs => by simp [PyData.canLayAll0, PyData.canLay0, lay_ints xs]
theorem deep_ints : ∀ xs : List Int, PyData.depthAll (xs.map PyData.int) = 0
  | [] => by simp [PyData.depthAll]
  | x :: xs => by simp [PyData.depthAll, PyData.depth, deep_ints xs]
theorem lay_intsD (xs : List Int) : (intsD xs).canLay0 = true := by
  unfold intsD
  rw [PyData.canLay0]
  exact lay_ints xs
theorem deep_intsD (xs : List Int) : (intsD xs).depth = 1 := by
  unfold intsD
  rw [PyData.depth, deep_ints]
theorem shaped_intsD (xs : List Int) : SeqAt.shaped (intsD xs) = true := by
  unfold SeqAt.shaped
  rw [lay_intsD, deep_intsD]
  rfl
theorem eqv_nil (xs : List Int) : PyData.eqv (intsD xs) (intsD []) = xs.isEmpty := by
  unfold intsD
  rw [PyData.eqv]
  cases xs <;> rfl
/-! ### enumerate of a tuple -/
set_option maxHeartbeats 1000000 in
theorem meets_enumOne {v : Value} {o : Obj} {S : Heap → Prop} (B : Begins v o S) : Meets (Builtin.«enumerate.__new__» ⟨[.type "enumerate", v], []⟩) (fun _ R s => S s.heap ∧
      R (.ok (.ret (.ref (s.heap.push o).objs.size))) { s with heap := (s.heap.push o).push { cls := .type "enumerate", data := .fields #[.none, .bool false, .ref s.heap.objs.size, rawInt 0, .none, .none] } }) :=
  .of_wp fun prog w A R s h => by
    obtain ⟨hp, g, d, tk, os⟩ := s
    obtain ⟨h1, h⟩ := h
    have sub0 := sub_enumerate
    have begun : ∀ {A' : PySem.Around} {E : Value → Shared → Prop} {Q : Value → Shared → Prop}, Q (.ref hp.objs.size) ⟨hp.push o, g, d, tk, os⟩ → wpAny (model prog w) A' (pyIter v) Q E ⟨hp, g, d, tk, os⟩ := fun q => B.iter prog w _ _ ⟨hp, g, d, tk, os⟩ _ h1 q
    wp_walk using begun
    refine wpAny_stack_any fun st => wpAny_pure ?_
    split
    · rename_i c _ _ _ _ _
      cases (c == Value.type "enumerate")
      all_goals
        wp_walk using begun
        exact ⟨_, rfl, h⟩
    · wp_walk using begun
      exact ⟨_, rfl, h⟩
theorem call_enumT {P : Program} {w : World} {A : PySem.Around} {E : Value → Shared → Prop} {s : Shared} {t : Addr} {items : Array Value} {Q : Value → Shared → Prop} (ht : s.heap.IsTuple t items)
    (h : ∀ h', IsEnum h' (s.heap.objs.size + 1) s.heap.objs.size 0 .none → h'.IsTupleIter s.heap.objs.size t 0 → (∀ b o, s.heap.get? b = some o → h'.get? b = some o) → Q (.ref (s.heap.objs.size + 1)) { s with heap := h' }) : wpAny (model P w) A (call (.type "enumerate") [.ref t]) Q E s := by
  refine callType_new PySem.F.called_enumerate (by decide) (PySem.F.typeCall_enumerate_1 _) (PySem.F.newCall_enumerate_1 _) (fun ob => PySem.F.args_object_init_2 ob _) PySem.F.entry_enumerate_new (meets_enumOne (begins_tuple t items)) ⟨ht, ?_⟩
  have size1 := Heap.size_push s.heap { cls := .type "tuple_iterator", data := .fields #[.ref t, .int 0 0] }
  have en := Heap.get?_push_size (s.heap.push { cls := .type "tuple_iterator", data := .fields #[.ref t, .int 0 0] }) (o := { cls := .type "enumerate", data := .fields #[.none, .bool false, .ref s.heap.objs.size, rawInt 0, .none, .none] }) rfl
  rw [size1] at en
  show _ ∧ _
  rw [size1]
  exact ⟨⟨_, en, rfl⟩, h _ en ⟨_, Heap.get?_push_of_some _ (Heap.get?_push_size _ rfl), rfl, rfl⟩ fun b o e => Heap.get?_push_of_some _ (Heap.get?_push_of_some _ e)⟩
/-- the turns: a new pair each, of the number and the part -/
def ItN (K : PySem.W.Frag) (a : Addr) : It where
  go := fun i H => ∃ (xs : List V) (x : V), SqT K H a xs ∧ xs[i]? = some x
  yld := fun i H v H' => ∃ T x, v = .ref T ∧ H T = none ∧ H' = upd H T (.tup [.int (i : Nat), x]) ∧ ∀ xs, SqT K H a xs → xs[i]? = some x
  stop := fun i H => ∃ xs : List V, SqT K H a xs ∧ xs.length ≤ i
theorem turn_enumT {P : Program} {w : World} {K : PySem.W.Frag} {elts : List Expr} {kk : Nat} {tpos : Pos} (a e it : Addr) (n1 : e ≠ it) (n2 : a ≠ it) (n3 : e ≠ a) :
    Turn P w K (.Tuple elts kk tpos) (ItN K a) [e, it] e (fun i h => (∃ old, IsEnum h e it ((i : Nat) : Int) old) ∧ h.IsTupleIter it a i) where
  mem := List.mem_cons_self
  obj := by
    rintro i h ⟨⟨old, he⟩, o, ho, hc, hd⟩ b hb
    rcases List.mem_cons.mp hb with rfl | hb
    · exact ⟨_, he, fun v q => nomatch q⟩
    · rw [List.mem_singleton.mp hb]
      exact ⟨o, ho, fun v q => by rw [hd] at q; cases q⟩
  keep := by
    rintro i h h' ⟨⟨old, he⟩, hit⟩ kp
    exact ⟨⟨old, kp e (by simp) _ he⟩, hit.at fun o q => kp it (by simp) o q⟩
  item := by
    intro X hP hw hK hc i pins s σ H E I hf st hg
    subst hP hw hK
    obtain ⟨⟨old, he⟩, hit⟩ := st
    obtain ⟨xs, x, hq, hx⟩ := hg
    obtain ⟨its, rv, tup, _⟩ := I.tuple hq
    obtain ⟨u, hu, ru⟩ := rv.get hx
    have le := Heap.lt_size he
    have li : it < s.heap.objs.size := let ⟨_, q, _⟩ := hit; Heap.lt_size q
    have lt : i < its.toArray.size := by simpa using (List.getElem?_eq_some_iff.mp hu).1
    refine wpAny_pyNext_enum_itemD (Draws.tuple (A := X.A.in1) (I.ok.hd hc) it a n2 its.toArray) he ⟨hit, tup⟩ lt n1 (by simp [n1, n3]) fun x' h' tk ex out st' new _ kp => ?_
    obtain rfl : u = x' := Option.some.inj (((by simpa using hu) : its.toArray[i]? = some u).symm.trans ex)
    refine ⟨_, rfl, wpAny_letOwnedTupleGo_enum (s := { s with heap := h', toks := tk + 1 }) out fun h2 he2 sb => ?_⟩
    have new2 : h2.get? s.heap.objs.size = some { cls := .type "tuple", data := .seq #[.int i tk, u] } := (sb.2 _ (Nat.ne_of_gt le)).trans new
    have objT : ObjOk X.prog X.w (upd H s.heap.objs.size (.tup [.int (i : Nat), x])) h2 s.heap.objs.size (.tup [.int (i : Nat), x]) := ⟨by show 2 ≤ sizeLine; decide, [.int i tk, u], .cons ⟨_, rfl⟩ (.cons ru .nil), ⟨_, new2, rfl, _, rfl⟩⟩
    have J : Inv X pins σ (upd H s.heap.objs.size (.tup [.int (i : Nat), x])) { s with heap := h2, toks := tk + 1 } := I.turnedNew (ch := [e, it]) (fun b ob hb q => by
      simp only [List.mem_cons, List.not_mem_nil, or_false, not_or] at hb
      exact (sb.2 b hb.1).trans (kp b ob hb.1 hb.2 q)) hf (Nat.le_refl _) objT
    refine ⟨.ref s.heap.objs.size, _, J, rfl, ⟨_, x, rfl, I.hok.fresh (Nat.le_refl _), rfl, fun ys hy => by rw [I.tuple_inj hy hq]; exact hx⟩, ⟨⟨u, ?_⟩, st'.1.at fun o q => (sb.2 it (Ne.symm n1)).trans q⟩, fun b hb => ?_⟩
    · rw [show ((i + 1 : Nat) : Int) = (i : Int) + 1 from by omega]
      exact he2
    · have lb : b < s.heap.objs.size := by
        rcases List.mem_cons.mp hb with rfl | hb
        · exact le
        · rw [List.mem_singleton.mp hb]
          exact li
      rw [upd_ne (Nat.ne_of_lt lb)]
      exact (hf b hb).1
  done := by
    intro X hP hw hK hc i pins s σ H E I hf st hg
    subst hP hw hK
    obtain ⟨⟨old, he⟩, hit⟩ := st
    obtain ⟨xs, hq, hx⟩ := hg
    obtain ⟨its, rv, tup, _⟩ := I.tuple hq
    have hl := rv.length
    obtain ⟨f0, f1, f2, f3, f4, f5⟩ := hf it (by simp)
    have D : Draws X.prog X.w X.A.in1 it [it, a] i (fun _ _ => False) (fun j h => j = i ∧ h.IsTupleIter it a i ∧ h.IsTuple a its.toArray) := {
      live := fun j h z => let ⟨_, ⟨o, q, _⟩, _⟩ := z; ⟨o, q⟩
      frame := fun j h h' z kp => ⟨z.1, z.2.1.at fun o q => kp it (by simp) o q, z.2.2.at fun o q => kp a (by simp) o q⟩
      item := fun j s' Q E' hj z => absurd z.1 (Nat.ne_of_lt hj)
      done := fun s' Q E' z fin => wpAny_nextOf_tuple_end (I.ok.hd hc) z.2.1 z.2.2 (by simp; omega) fin }
    exact wpAny_pyNext_enum_endD D he ⟨rfl, hit, tup⟩ fun h' eb => ⟨rfl, I.turned (t' := s.toks) (fun b o hb q => eb b o hb q) f0 f1 f3 f4 f5⟩
  self := fun A i s Q E st h => let ⟨⟨_, he⟩, _⟩ := st; wpAny_pyIter_enum he h
def iEnT (K : PySem.W.Frag) (ta : TA) : TI := fun σ H R => ta σ H fun vs H1 => ∃ a xs, vs = [.ref a] ∧ SqT K H1 a xs ∧ R (ItN K a) H1
theorem pi_enumT {X : Cx} {e : Expr} {ta : TA} {p pos tpos : Pos} {elts : List Expr} {kk : Nat} (hg : Gl X "enumerate") (hm : X.mg "enumerate" = none) (ha : PA X [e] ta) (hs : starEach [e] X.env = [(false, eval e X.env)] := by rfl) :
    PI X (.Tuple elts kk tpos) (.Call (.Name "enumerate" p) [e] [] pos) (iEnT X.K ta) := by
  refine ⟨fun pins s σ H R I want => Call_ (ld_blt I hg hm boot_enumerate (PyProof.Rows.callWith_type1 (thn (ha.run pos pins s σ H _ I want) fun us s1 got => ?_) hs rfl))⟩
  obtain ⟨vs, H1, J, rel, a, xs, ex, hq, q⟩ := got
  subst ex
  obtain ⟨u, eu, r1⟩ := vals1 rel
  subst eu
  obtain rfl : u = Value.ref a := r1
  obtain ⟨its, rv, tup, _⟩ := J.tuple hq
  have la : a < s1.heap.objs.size := let ⟨_, q, _⟩ := tup; Heap.lt_size q
  refine call_enumT (items := its.toArray) tup fun h' he hit kp => wpAny_pyIter_enum he ?_
  have J2 : Inv X pins σ H1 { s1 with heap := h' } := J.kept (t' := s1.toks) kp
  refine ⟨s1.heap.objs.size + 1, [s1.heap.objs.size + 1, s1.heap.objs.size], _, _, H1, rfl, J2, turn_enumT a (s1.heap.objs.size + 1) s1.heap.objs.size (Nat.succ_ne_self _) (Nat.ne_of_lt la) (Nat.ne_of_gt (Nat.lt_succ_of_lt la)), ⟨⟨.none, he⟩, hit⟩, fun b hb => ?_, q⟩
  have lb : s1.heap.objs.size ≤ b := by
    rcases List.mem_cons.mp hb with rfl | hb
    · exact Nat.le_succ _
    · rw [List.mem_singleton.mp hb]
      exact Nat.le_refl _
  exact J.fpOk lb (J.hok.fresh lb)
theorem walk_enumT {K : PySem.W.Frag} {a : Addr} {xs : List V} : Walk (ItN K a) xs.length (fun H => SqT K H a xs) (YPair (fun i => some (.int (i : Nat))) (fun i => xs[i]?)) :=
  ⟨fun i H hi h => ⟨xs, xs[i], h, List.getElem?_eq_getElem hi⟩, fun H h => ⟨xs, h, Nat.le_refl _⟩, fun i H x H' hi h y => by
    obtain ⟨T, z, e1, e2, e3, e4⟩ := y
    exact ⟨T, _, z, e1, e2, e3, rfl, e4 xs h⟩⟩
/-! ### the law: the least place that each comes to -/
def lf (f : Int → Int) (n : Nat) : List V := (rng n).map fun i => V.int (f i)
theorem lf_len (f : Int → Int) (n : Nat) : (lf f n).length = n := by unfold lf; rw [List.length_map, rng_length]
theorem lf_get? (f : Int → Int) {n j : Nat} (h : j < n) : (lf f n)[j]? = some (.int (f j)) := by
  unfold lf rng
  rw [List.map_map, List.getElem?_map, List.getElem?_range h]
  rfl
theorem lf_at (f : Int → Int) {n : Nat} {i : Int} (h0 : 0 ≤ i) (h1 : i < n) : atI (lf f n) i = some (.int (f i)) := by
  have e : ((i.toNat : Nat) : Int) = i := by omega
  refine atI_of h0 ?_
  rw [lf_get? f (by omega), e]
theorem lf_set (f : Int → Int) {n : Nat} {i y : Int} (h0 : 0 ≤ i) (h1 : i < n) : (lf f n).set i.toNat (.int y) = lf (fun x => if x = i then y else f x) n := by
  refine List.ext_getElem? fun j => ?_
  rw [List.getElem?_set]
  by_cases hj : j < n
  · by_cases e : i.toNat = j
    · rw [if_pos e, if_pos (by rw [lf_len]; omega), lf_get? _ hj, if_pos (by omega)]
    · rw [if_neg e, lf_get? _ hj, lf_get? _ hj, if_neg (by omega)]
  · have e : i.toNat ≠ j := by omega
    rw [if_neg e, List.getElem?_eq_none (by rw [lf_len]; omega), List.getElem?_eq_none (by rw [lf_len]; omega)]
theorem ixN_of {n : Nat} {i : Int} (h0 : 0 ≤ i) (h1 : i < n) : ixN n i = some i.toNat := by
  unfold ixN
  rw [if_pos (by omega), if_pos (by omega)]
/-! ### stems (mathematics) -/
theorem Rch.mono {ts ts' : List Tie} (h : ∀ t ∈ ts, t ∈ ts') {a b : Int} (r : Rch ts a b) : Rch ts' a b :=
  r.ind (fun x => Rch ts' a x) .refl fun x y k hx ad => by
    obtain ⟨t, ht, e⟩ := ad
    exact hx.trans (Rch.adj (k := k) ⟨t, h t ht, e⟩)
theorem rch_pq {ts : List Tie} {t : Tie} {p q : Int} (h : (p = t.one ∧ q = t.other) ∨ (p = t.other ∧ q = t.one)) : Rch (ts ++ [t]) p q := by
  refine Rch.adj (k := t.foe) ⟨t, List.mem_append_right _ (by simp), rfl, ?_⟩
  rcases h with ⟨h1, h2⟩ | ⟨h1, h2⟩
  · exact .inl ⟨h1.symm, h2.symm⟩
  · exact .inr ⟨h2.symm, h1.symm⟩
theorem rch_snoc {ts : List Tie} {t : Tie} {p q : Int} (h : (p = t.one ∧ q = t.other) ∨ (p = t.other ∧ q = t.one)) {a b : Int} : Rch (ts ++ [t]) a b ↔ Rch ts a b ∨ (Rch ts a p ∧ Rch ts q b) ∨ (Rch ts a q ∧ Rch ts p b) := by
  have up : ∀ {x y : Int}, Rch ts x y → Rch (ts ++ [t]) x y := fun r => r.mono fun t ht => List.mem_append_left _ ht
  constructor
  · intro r
    refine r.ind (fun x => Rch ts a x ∨ (Rch ts a p ∧ Rch ts q x) ∨ (Rch ts a q ∧ Rch ts p x)) (.inl .refl) fun x y k hx ad => ?_
    obtain ⟨t', ht, e1, e2⟩ := ad
    rcases List.mem_append.mp ht with ht | ht
    · have st : Rch ts x y := Rch.adj (k := k) ⟨t', ht, e1, e2⟩
      rcases hx with h1 | ⟨h1, h2⟩ | ⟨h1, h2⟩
      · exact .inl (h1.trans st)
      · exact .inr (.inl ⟨h1, h2.trans st⟩)
      · exact .inr (.inr ⟨h1, h2.trans st⟩)
    · rw [List.mem_singleton] at ht
      subst ht
      have xy : (x = p ∧ y = q) ∨ (x = q ∧ y = p) := by
        rcases e2 with ⟨e2, e3⟩ | ⟨e2, e3⟩ <;> rcases h with ⟨h1, h2⟩ | ⟨h1, h2⟩
        · exact .inl ⟨by omega, by omega⟩
        · exact .inr ⟨by omega, by omega⟩
        · exact .inr ⟨by omega, by omega⟩
        · exact .inl ⟨by omega, by omega⟩
      rcases xy with ⟨rfl, rfl⟩ | ⟨rfl, rfl⟩
      · rcases hx with h1 | ⟨h1, h2⟩ | ⟨h1, h2⟩
        · exact .inr (.inl ⟨h1, .refl⟩)
        · exact .inr (.inl ⟨h1, .refl⟩)
        · exact .inl h1
      · rcases hx with h1 | ⟨h1, h2⟩ | ⟨h1, h2⟩
        · exact .inr (.inr ⟨h1, .refl⟩)
        · exact .inl h1
        · exact .inr (.inr ⟨h1, .refl⟩)
  · rintro (h1 | ⟨h1, h2⟩ | ⟨h1, h2⟩)
    · exact up h1
    · exact (up h1).trans ((rch_pq h).trans (up h2))
    · exact (up h1).trans ((rch_pq h).symm.trans (up h2))
theorem rch_nil {a b : Int} (h : Rch [] a b) : a = b := h.ind (fun x => a = x) rfl fun x y k _ ad => by
  obtain ⟨t, ht, _⟩ := ad
  simp at ht
def tieN (ts : List Tie) (k : Nat) : Tie := ts.getD k ⟨0, 0, false⟩
theorem tieN_of {ts : List Tie} {k : Nat} {t : Tie} (h : ts[k]? = some t) : tieN ts k = t := by
  unfold tieN
  rw [List.getD_eq_getElem?_getD, h]
  rfl
open Classical in
noncomputable def stemB (ts : List Tie) (k : Nat) : Bool := decide (¬ Rch (ts.take k) (tieN ts k).one (tieN ts k).other)
noncomputable def stemsTo (ts : List Tie) (k : Nat) : List Int := (rng k).filter fun i => stemB ts i.toNat
theorem stemsTo_succ (ts : List Tie) (k : Nat) : stemsTo ts (k + 1) = stemsTo ts k ++ (if stemB ts k = true then [(k : Int)] else []) := by
  unfold stemsTo
  rw [rng_succ, List.filter_append, List.filter_cons, Int.toNat_natCast]
  rfl
theorem stemsTo_len (ts : List Tie) (k : Nat) : (stemsTo ts k).length ≤ k := by
  unfold stemsTo
  have := List.length_filter_le (fun i => stemB ts i.toNat) (rng k)
  rw [rng_length] at this
  exact this
open Classical in
theorem stem_iff {ts : List Tie} {k : Nat} {t : Tie} (h : ts[k]? = some t) : stemB ts k = true ↔ ¬ Rch (ts.take k) t.one t.other := by
  unfold stemB
  rw [tieN_of h]
  exact decide_eq_true_iff
theorem take_snoc {α : Type} {ts : List α} {k : Nat} {t : α} (h : ts[k]? = some t) : ts.take (k + 1) = ts.take k ++ [t] := by
  rw [List.take_add_one, h]
  rfl
/-- labels: alike just where ties lead -/
def Lab (ts : List Tie) (n : Nat) (g : Int → Int) : Prop := ∀ i j : Int, 0 ≤ i → i < n → 0 ≤ j → j < n → (g i = g j ↔ Rch ts i j)
def mrg (g : Int → Int) (old new : Int) : Int → Int := fun x => if g x = old then new else g x
theorem lab_nil (n : Nat) : Lab [] n (fun i => i) := fun i j _ _ _ _ => ⟨fun h => by rw [show i = j from h]; exact .refl, fun h => rch_nil h⟩
theorem lab_same {ts : List Tie} {n : Nat} {g : Int → Int} {t : Tie} (h : Lab ts n g) (ok : TieOk n t) (e : g t.one = g t.other) : Lab (ts ++ [t]) n g := fun i j i0 i1 j0 j1 => by
  obtain ⟨o1, o2, o3, o4, _⟩ := ok
  have r : Rch ts t.one t.other := (h _ _ o1 o2 o3 o4).mp e
  rw [rch_snoc (.inl ⟨rfl, rfl⟩), h i j i0 i1 j0 j1]
  constructor
  · exact .inl
  · rintro (h1 | ⟨h1, h2⟩ | ⟨h1, h2⟩)
    · exact h1
    · exact h1.trans (r.trans h2)
    · exact h1.trans (r.symm.trans h2)
theorem lab_step {ts : List Tie} {n : Nat} {g : Int → Int} {t : Tie} {p q : Int} (h : Lab ts n g) (ok : TieOk n t) (e : (p = t.one ∧ q = t.other) ∨ (p = t.other ∧ q = t.one)) : Lab (ts ++ [t]) n (mrg g (g p) (g q)) := fun i j i0 i1 j0 j1 => by
  have pr : (0 ≤ p ∧ p < n) ∧ (0 ≤ q ∧ q < n) := by
    obtain ⟨o1, o2, o3, o4, _⟩ := ok
    rcases e with ⟨rfl, rfl⟩ | ⟨rfl, rfl⟩
    · exact ⟨⟨o1, o2⟩, o3, o4⟩
    · exact ⟨⟨o3, o4⟩, o1, o2⟩
  obtain ⟨⟨p0, p1⟩, q0, q1⟩ := pr
  rw [rch_snoc e]
  unfold mrg
  have ip := h i p i0 i1 p0 p1
  have jp := h j p j0 j1 p0 p1
  have iq := h i q i0 i1 q0 q1
  have jq := h j q j0 j1 q0 q1
  have ij := h i j i0 i1 j0 j1
  by_cases hi : g i = g p <;> by_cases hj : g j = g p
  · rw [if_pos hi, if_pos hj]
    exact ⟨fun _ => .inl (ij.mp (hi.trans hj.symm)), fun _ => rfl⟩
  · rw [if_pos hi, if_neg hj]
    constructor
    · intro z
      exact .inr (.inl ⟨ip.mp hi, (jq.mp z.symm).symm⟩)
    · rintro (z | ⟨_, z⟩ | ⟨_, z⟩)
      · exact absurd ((ij.mpr z).symm.trans hi) hj
      · exact (jq.mpr z.symm).symm
      · exact absurd (jp.mpr z.symm) hj
  · rw [if_neg hi, if_pos hj]
    constructor
    · intro z
      exact .inr (.inr ⟨iq.mp z, (jp.mp hj).symm⟩)
    · rintro (z | ⟨z, _⟩ | ⟨z, _⟩)
      · exact absurd ((ij.mpr z).trans hj) hi
      · exact absurd (ip.mpr z) hi
      · exact iq.mpr z
  · rw [if_neg hi, if_neg hj]
    constructor
    · intro z
      exact .inl (ij.mp z)
    · rintro (z | ⟨z, _⟩ | ⟨_, z⟩)
      · exact ij.mpr z
      · exact absurd (ip.mpr z) hi
      · exact absurd (jp.mpr z.symm) hj
/-- heads: labels that are places of their own; how many -/
structure Heads (ts : List Tie) (n i : Nat) (g : Int → Int) : Prop where
  lab : Lab (ts.take i) n g
  rng : ∀ x : Int, 0 ≤ x → x < n → 0 ≤ g x ∧ g x < n
  idem : ∀ x : Int, 0 ≤ x → x < n → g (g x) = g x
  cnt : ((FF.rng n).filter fun x => decide (g x = x)).length + (stemsTo ts i).length = n
theorem heads_nil (ts : List Tie) (n : Nat) : Heads ts n 0 (fun i => i) := by
  refine ⟨by rw [List.take_zero]; exact lab_nil n, fun x h0 h1 => ⟨h0, h1⟩, fun x _ _ => rfl, ?_⟩
  have e : ((FF.rng n).filter fun x => decide (x = x)) = FF.rng n := by
    rw [List.filter_eq_self]
    intro x _
    exact decide_eq_true rfl
  show ((FF.rng n).filter fun x => decide (x = x)).length + 0 = n
  rw [e, rng_length, Nat.add_zero]
theorem filter_drop {p q : Int → Bool} {h : Int} : ∀ {l : List Int}, l.Nodup → h ∈ l → p h = true → (∀ x ∈ l, q x = (p x && decide (x ≠ h))) → (l.filter q).length + 1 = (l.filter p).length
  | x :: l, nd, hm, hp, hq => by
    rw [List.nodup_cons] at nd
    have hx := hq x (by simp)
    rw [List.filter_cons, List.filter_cons, hx]
    by_cases e : x = h
    · subst e
      have same : l.filter q = l.filter p := List.filter_congr fun y hy => by
        rw [hq y (List.mem_cons_of_mem _ hy), decide_eq_true (show y ≠ x from fun z => nd.1 (by rw [← z]; exact hy)), Bool.and_true]
      rw [same, hp]
      simp
    · have hm' : h ∈ l := (List.mem_cons.mp hm).elim (fun z => absurd z.symm e) id
      have ih := filter_drop (l := l) nd.2 hm' hp fun y hy => hq y (List.mem_cons_of_mem _ hy)
      rw [decide_eq_true (show x ≠ h from e), Bool.and_true]
      cases p x
      · simpa using ih
      · simp
        omega
theorem heads_same {ts : List Tie} {n i : Nat} {g : Int → Int} {t : Tie} (h : Heads ts n i g) (et : ts[i]? = some t) (ok : TieOk n t) (e : g t.one = g t.other) : Heads ts n (i + 1) g := by
  refine ⟨by rw [take_snoc et]; exact lab_same h.lab ok e, h.rng, h.idem, ?_⟩
  have no : ¬ stemB ts i = true := fun z => (stem_iff et).mp z ((h.lab _ _ ok.1 ok.2.1 ok.2.2.1 ok.2.2.2.1).mp e)
  rw [stemsTo_succ, if_neg no, List.append_nil]
  exact h.cnt
theorem heads_step {ts : List Tie} {n i : Nat} {g : Int → Int} {t : Tie} {p q : Int} (h : Heads ts n i g) (et : ts[i]? = some t) (ok : TieOk n t) (e : (p = t.one ∧ q = t.other) ∨ (p = t.other ∧ q = t.one)) (ne : g p ≠ g q) : Heads ts n (i + 1) (mrg g (g p) (g q)) := by
  have pr : (0 ≤ p ∧ p < n) ∧ (0 ≤ q ∧ q < n) := by
    obtain ⟨o1, o2, o3, o4, _⟩ := ok
    rcases e with ⟨rfl, rfl⟩ | ⟨rfl, rfl⟩
    · exact ⟨⟨o1, o2⟩, o3, o4⟩
    · exact ⟨⟨o3, o4⟩, o1, o2⟩
  obtain ⟨⟨p0, p1⟩, q0, q1⟩ := pr
  have gp := h.rng p p0 p1
  have gq := h.rng q q0 q1
  have ip := h.idem p p0 p1
  have iq := h.idem q q0 q1
  refine ⟨by rw [take_snoc et]; exact lab_step h.lab ok e, fun x x0 x1 => ?_, fun x x0 x1 => ?_, ?_⟩
  · unfold mrg
    split
    · exact gq
    · exact h.rng x x0 x1
  · have ix := h.idem x x0 x1
    by_cases hx : g x = g p
    · have e1 : mrg g (g p) (g q) x = g q := if_pos hx
      rw [e1]
      show (if g (g q) = g p then g q else g (g q)) = g q
      rw [iq, if_neg (Ne.symm ne)]
    · have e1 : mrg g (g p) (g q) x = g x := if_neg hx
      rw [e1]
      show (if g (g x) = g p then g q else g (g x)) = g x
      rw [ix, if_neg hx]
  · have yes : stemB ts i = true := (stem_iff et).mpr fun z => by
      have hl := (h.lab _ _ ok.1 ok.2.1 ok.2.2.1 ok.2.2.2.1).mpr z
      rcases e with ⟨rfl, rfl⟩ | ⟨rfl, rfl⟩
      · exact ne hl
      · exact ne hl.symm
    have drop := filter_drop (p := fun x => decide (g x = x)) (q := fun x => decide (mrg g (g p) (g q) x = x)) (h := g p) (l := FF.rng n) ((rng_rising n).imp fun h => by omega) (mem_rng.mpr gp) (decide_eq_true ip) (fun x hx => ?_)
    · rw [stemsTo_succ, if_pos yes, List.length_append]
      have := h.cnt
      simp only [List.length_cons, List.length_nil]
      omega
    · have xr := mem_rng.mp hx
      rw [Bool.eq_iff_iff, Bool.and_eq_true, decide_eq_true_iff, decide_eq_true_iff, decide_eq_true_iff]
      show (if g x = g p then g q else g x) = x ↔ _
      by_cases hx : g x = g p
      · rw [if_pos hx]
        constructor
        · intro z
          exact absurd (by rw [← z, iq] at hx; exact hx.symm) ne
        · rintro ⟨z1, z2⟩
          exact absurd (z1.symm.trans hx) z2
      · rw [if_neg hx]
        exact ⟨fun z => ⟨z, fun y => hx (by rw [y]; exact ip)⟩, fun z => z.1⟩
/-- stems are told by the places of the ties alone -/
theorem rch_frames : ∀ {ts us : List Tie}, ts.length = us.length → (∀ (i : Nat) t u, ts[i]? = some t → us[i]? = some u → (u.one = t.one ∧ u.other = t.other) ∨ (u.one = t.other ∧ u.other = t.one)) → ∀ {a b : Int}, Rch ts a b → Rch us a b := by
  intro ts us hl h a b r
  refine r.ind (fun x => Rch us a x) .refl fun x y k hx ad => ?_
  obtain ⟨t, ht, _, e⟩ := ad
  obtain ⟨i, hi, rfl⟩ := List.getElem_of_mem ht
  have hu : us[i]? = some us[i] := List.getElem?_eq_getElem (by omega)
  have w := h i _ _ (List.getElem?_eq_getElem hi) hu
  refine hx.trans (Rch.adj (k := us[i].foe) ⟨us[i], List.getElem_mem _, rfl, ?_⟩)
  rcases w with ⟨w1, w2⟩ | ⟨w1, w2⟩ <;> rcases e with ⟨e1, e2⟩ | ⟨e1, e2⟩
  · exact .inl ⟨by omega, by omega⟩
  · exact .inr ⟨by omega, by omega⟩
  · exact .inr ⟨by omega, by omega⟩
  · exact .inl ⟨by omega, by omega⟩
def Framed (ts us : List Tie) : Prop := ts.length = us.length ∧ ∀ (i : Nat) t u, ts[i]? = some t → us[i]? = some u → (u.one = t.one ∧ u.other = t.other) ∨ (u.one = t.other ∧ u.other = t.one)
theorem Framed.symm {ts us : List Tie} (h : Framed ts us) : Framed us ts := ⟨h.1.symm, fun i u t e1 e2 => by
  rcases h.2 i t u e2 e1 with ⟨w1, w2⟩ | ⟨w1, w2⟩
  · exact .inl ⟨w1.symm, w2.symm⟩
  · exact .inr ⟨w2.symm, w1.symm⟩⟩
theorem Framed.take {ts us : List Tie} (h : Framed ts us) (k : Nat) : Framed (ts.take k) (us.take k) := by
  refine ⟨by rw [List.length_take, List.length_take, h.1], fun i t u e1 e2 => ?_⟩
  by_cases hk : i < k
  · rw [List.getElem?_take_of_lt hk] at e1 e2
    exact h.2 i t u e1 e2
  · rw [List.getElem?_take] at e1
    rw [if_neg hk] at e1
    cases e1
theorem Framed.map {ts : List Tie} {f : Tie → Tie} (h : ∀ t ∈ ts, ((f t).one = t.one ∧ (f t).other = t.other) ∨ ((f t).one = t.other ∧ (f t).other = t.one)) : Framed ts (ts.map f) := by
  refine ⟨by rw [List.length_map], fun i t u e1 e2 => ?_⟩
  rw [List.getElem?_map, e1] at e2
  cases e2
  exact h t (List.mem_of_getElem? e1)
theorem stems_framed {ts us : List Tie} (h : Framed ts us) : stemsTo us us.length = stemsTo ts ts.length := by
  unfold stemsTo
  rw [← h.1]
  refine List.filter_congr fun i hi => ?_
  have ir := mem_rng.mp hi
  have e1 : ts[i.toNat]? = some ts[i.toNat] := List.getElem?_eq_getElem (by omega)
  have l := h.1
  have e2 : us[i.toNat]? = some us[i.toNat] := List.getElem?_eq_getElem (by omega)
  have ht := h.take i.toNat
  rw [Bool.eq_iff_iff, stem_iff e1, stem_iff e2]
  have both : ∀ a b : Int, Rch (ts.take i.toNat) a b ↔ Rch (us.take i.toNat) a b := fun a b => ⟨fun r => rch_frames ht.1 ht.2 r, fun r => rch_frames ht.symm.1 ht.symm.2 r⟩
  rcases h.2 _ _ _ e1 e2 with ⟨w1, w2⟩ | ⟨w1, w2⟩
  · rw [w1, w2, both]
  · rw [w1, w2, both]
    exact ⟨fun z y => z y.symm, fun z y => z y.symm⟩
theorem stemsTo_rising (ts : List Tie) (k : Nat) : (stemsTo ts k).Pairwise (· < ·) := (rng_rising k).filter _
theorem stemsTo_mem {ts : List Tie} {k : Nat} {i : Int} : i ∈ stemsTo ts k ↔ (0 ≤ i ∧ i < k) ∧ stemB ts i.toNat = true := by
  unfold stemsTo
  rw [List.mem_filter, mem_rng]
theorem stems_own (ts : List Tie) : stemsTo ((stemsTo ts ts.length).map fun i => tieN ts i.toNat) (stemsTo ts ts.length).length = rng (stemsTo ts ts.length).length := by
  generalize hS : stemsTo ts ts.length = S
  unfold stemsTo
  rw [List.filter_eq_self]
  intro j hj
  have jr := mem_rng.mp hj
  have hjl : j.toNat < S.length := by omega
  have ej : (S.map fun i => tieN ts i.toNat)[j.toNat]? = some (tieN ts S[j.toNat].toNat) := by
    rw [List.getElem?_map, List.getElem?_eq_getElem hjl]
    rfl
  have hm : S[j.toNat] ∈ stemsTo ts ts.length := by rw [hS]; exact List.getElem_mem _
  obtain ⟨⟨m0, m1⟩, mb⟩ := stemsTo_mem.mp hm
  have et : ts[S[j.toNat].toNat]? = some (tieN ts S[j.toNat].toNat) := by
    have h : S[j.toNat].toNat < ts.length := by omega
    rw [List.getElem?_eq_getElem h, tieN_of (List.getElem?_eq_getElem h)]
  rw [stem_iff ej]
  rw [stem_iff et] at mb
  refine fun r => mb (r.mono fun t ht => ?_)
  rw [← List.map_take, List.mem_map] at ht
  obtain ⟨x, hx, rfl⟩ := ht
  obtain ⟨a, ha, rfl⟩ := List.getElem_of_mem hx
  rw [List.length_take] at ha
  rw [List.getElem_take]
  have hx' : S[a] ∈ stemsTo ts ts.length := by rw [hS]; exact List.getElem_mem _
  obtain ⟨⟨x0, x1⟩, _⟩ := stemsTo_mem.mp hx'
  have rise : S.Pairwise (· < ·) := by rw [← hS]; exact stemsTo_rising _ _
  have lt : S[a] < S[j.toNat] := List.pairwise_iff_getElem.mp rise a j.toNat (by omega) hjl (by omega)
  have h : S[a].toNat < ts.length := by omega
  rw [tieN_of (List.getElem?_eq_getElem h)]
  rw [List.mem_iff_getElem]
  exact ⟨S[a].toNat, by rw [List.length_take]; omega, by rw [List.getElem_take]⟩
theorem Same.mut {H H' : Hp} {a : Addr} {o : HO} (s : Same H H') (h : H a = none) : Same H (upd H' a o) := fun b x e => by
  rw [upd_ne (ne_of_none e h)]
  exact s b x e
theorem paired_set {α β : Type} {F : α → β → Prop} : ∀ {l : List α} {m : List β} {j : Nat} {x : α} {y : β}, Paired F l m → F x y → Paired F (l.set j x) (m.set j y)
  | _, _, _, _, _, .nil, _ => by simp; exact .nil
  | _, _, 0, _, _, .cons _ t, h => .cons h t
  | _, _, j + 1, _, _, .cons r t, h => .cons r (paired_set (j := j) t h)
/-! ### how far places are, even and odd (mathematics) -/
theorem pigeon' : ∀ (n : Nat) (xs : List Int), xs.Nodup → (∀ x ∈ xs, 0 ≤ x ∧ x < n) → xs.length ≤ n
  | 0, xs, _, h => by
    cases xs with
    | nil => exact Nat.le_refl _
    | cons x xs => have := h x (by simp); omega
  | n + 1, xs, nd, h => by
    have h1 := pigeon' n (xs.erase (n : Int)) (nd.erase _) fun x hx => by
      have a := h x (List.mem_of_mem_erase hx)
      have b : x ≠ (n : Int) := fun z => by
        subst z
        exact (List.Nodup.not_mem_erase nd) hx
      omega
    by_cases hm : (n : Int) ∈ xs
    · rw [List.length_erase_of_mem hm] at h1
      omega
    · rw [List.erase_of_not_mem hm] at h1
      omega
def bI (b : Bool) : Int := if b = true then 1 else 0
def nb1 (t : Tie) (x : Int) : List (Int × Int) := (if x = t.one then [(t.other, bI t.foe)] else []) ++ (if x = t.other then [(t.one, bI t.foe)] else [])
def nb (ts : List Tie) (x : Int) : List (Int × Int) := ts.flatMap fun t => nb1 t x
theorem nb_snoc (ts : List Tie) (t : Tie) (x : Int) : nb (ts ++ [t]) x = nb ts x ++ nb1 t x := by
  unfold nb
  rw [List.flatMap_append]
  simp
theorem mem_nb {ts : List Tie} {x : Int} {q : Int × Int} : q ∈ nb ts x ↔ ∃ t ∈ ts, ((x = t.one ∧ q.1 = t.other) ∨ (x = t.other ∧ q.1 = t.one)) ∧ q.2 = bI t.foe := by
  unfold nb nb1
  rw [List.mem_flatMap]
  constructor
  · rintro ⟨t, ht, h⟩
    refine ⟨t, ht, ?_⟩
    rcases List.mem_append.mp h with h | h
    · split at h
      · rename_i e
        rw [List.mem_singleton] at h
        subst h
        exact ⟨.inl ⟨e, rfl⟩, rfl⟩
      · simp at h
    · split at h
      · rename_i e
        rw [List.mem_singleton] at h
        subst h
        exact ⟨.inr ⟨e, rfl⟩, rfl⟩
      · simp at h
  · rintro ⟨t, ht, h, h2⟩
    refine ⟨t, ht, List.mem_append.mpr ?_⟩
    obtain ⟨q1, q2⟩ := q
    simp only at h h2
    rcases h with ⟨e1, e2⟩ | ⟨e1, e2⟩
    · left
      rw [if_pos e1, List.mem_singleton, e2, h2]
    · right
      rw [if_pos e1, List.mem_singleton, e2, h2]
theorem nb_len (ts : List Tie) (x : Int) : (nb ts x).length ≤ 2 * ts.length := by
  induction ts with
  | nil => simp [nb]
  | cons t ts ih =>
    have h : (nb1 t x).length ≤ 2 := by
      unfold nb1
      rw [List.length_append]
      split <;> split <;> simp
    unfold nb at ih ⊢
    rw [List.flatMap_cons, List.length_append, List.length_cons]
    omega
abbrev Sp3 := Int × Int × Int
def key2 (e : Sp3) : Int × Int := (e.1, e.2.1)
def kv3 (es : List Sp3) : List (List Key × V) := es.map fun e => ([Sum.inl e.1, Sum.inl e.2.1], V.int e.2.2)
theorem kv3_none {x o : Int} : ∀ {es : List Sp3}, (x, o) ∉ es.map key2 → valV (kv3 es) [Sum.inl x, Sum.inl o] = none
  | [], _ => rfl
  | e :: es, h => by
    rw [List.map_cons, List.mem_cons, not_or] at h
    have := kv3_none (es := es) h.2
    unfold kv3 at this ⊢
    rw [List.map_cons, valV_neg (fun z => h.1 (by injection z with z1 z2; injection z2 with z2 _; exact (Prod.ext (Sum.inl.inj z1).symm (Sum.inl.inj z2).symm)))]
    exact this
theorem kv3_some {x o v : Int} : ∀ {es : List Sp3}, (es.map key2).Nodup → (x, o, v) ∈ es → valV (kv3 es) [Sum.inl x, Sum.inl o] = some (.int v)
  | e :: es, nd, h => by
    rw [List.map_cons, List.nodup_cons] at nd
    rcases List.mem_cons.mp h with z | z
    · subst z
      unfold kv3
      rw [List.map_cons, valV_pos rfl]
    · have q := kv3_some (es := es) nd.2 z
      have ne : key2 e ≠ (x, o) := fun y => nd.1 (by rw [y]; exact List.mem_map.mpr ⟨_, z, rfl⟩)
      unfold kv3 at q ⊢
      rw [List.map_cons, valV_neg (fun y => ne (by injection y with y1 y2; injection y2 with y2 _; exact (Prod.ext (Sum.inl.inj y1) (Sum.inl.inj y2))))]
      exact q
theorem kv3_put {x o v : Int} {es : List Sp3} (h : (x, o) ∉ es.map key2) : putK (kv3 es) [Sum.inl x, Sum.inl o] (.int v) = kv3 (es ++ [(x, o, v)]) := by
  unfold putK
  rw [valV_any, kv3_none h]
  unfold kv3
  rw [List.map_append]
  rfl
theorem kv3_len (es : List Sp3) : (kv3 es).length = es.length := by unfold kv3; rw [List.length_map]
theorem key_in {es : List Sp3} {x o : Int} (h : (x, o) ∈ es.map key2) : ∃ v, (x, o, v) ∈ es := by
  obtain ⟨⟨a, b, c⟩, he, e⟩ := List.mem_map.mp h
  cases e
  exact ⟨c, he⟩
theorem key_one {es : List Sp3} (nd : (es.map key2).Nodup) {x o v v' : Int} (h : (x, o, v) ∈ es) (h' : (x, o, v') ∈ es) : v = v' := by
  have a := kv3_some nd h
  rw [kv3_some nd h'] at a
  exact (V.int.inj (Option.some.inj a)).symm
structure SpOk (n : Nat) (e : Sp3) : Prop where
  x : 0 ≤ e.1 ∧ e.1 < n
  o : e.2.1 = 0 ∨ e.2.1 = 1
  v : 0 ≤ e.2.2
structure Bq (N : Int → List (Int × Int)) (s : Int) (n : Nat) (es : List Sp3) (i : Nat) : Prop where
  nd : (es.map key2).Nodup
  root : (s, 0, 0) ∈ es
  ok : ∀ e ∈ es, SpOk n e
  mono : es.Pairwise fun a b => a.2.2 ≤ b.2.2
  near : ∀ c, es[i]? = some c → ∀ e ∈ es, e.2.2 ≤ c.2.2 + 1
  done : ∀ j e, j < i → es[j]? = some e → ∀ q ∈ N e.1, ∃ v, (q.1, (e.2.1 + q.2) % 2, v) ∈ es ∧ v ≤ e.2.2 + 1
  par : ∀ e ∈ es, e = (s, 0, 0) ∨ ∃ c ∈ es, ∃ q ∈ N c.1, e = (q.1, (c.2.1 + q.2) % 2, c.2.2 + 1)
theorem few2 {n : Nat} {es : List Sp3} (nd : (es.map key2).Nodup) (ok : ∀ e ∈ es, SpOk n e) : es.length ≤ 2 * n := by
  have := pigeon' (2 * n) (es.map fun e => 2 * e.1 + e.2.1) ?_ ?_
  · rw [List.length_map] at this
    exact this
  · unfold List.Nodup at nd ⊢
    rw [List.pairwise_map] at nd ⊢
    refine List.Pairwise.imp_of_mem (fun {a b} ha hb ne z => ne ?_) nd
    have a1 := (ok a ha).o
    have b1 := (ok b hb).o
    exact Prod.ext (by show a.1 = b.1; omega) (by show a.2.1 = b.2.1; omega)
  · intro x hx
    obtain ⟨e, he, rfl⟩ := List.mem_map.mp hx
    have := (ok e he).x
    have := (ok e he).o
    omega
theorem Bq.few {N : Int → List (Int × Int)} {s : Int} {n : Nat} {es : List Sp3} {i : Nat} (h : Bq N s n es i) : es.length ≤ 2 * n := few2 h.nd h.ok
/-- while the neighbours of the i-th are gone through -/
structure Bi (N : Int → List (Int × Int)) (s : Int) (n : Nat) (es : List Sp3) (i : Nat) (c : Sp3) (qs : List (Int × Int)) : Prop where
  nd : (es.map key2).Nodup
  root : (s, 0, 0) ∈ es
  ok : ∀ e ∈ es, SpOk n e
  mono : es.Pairwise fun a b => a.2.2 ≤ b.2.2
  at' : es[i]? = some c
  near : ∀ e ∈ es, e.2.2 ≤ c.2.2 + 1
  done : ∀ j e, j < i → es[j]? = some e → ∀ q ∈ N e.1, ∃ v, (q.1, (e.2.1 + q.2) % 2, v) ∈ es ∧ v ≤ e.2.2 + 1
  here : ∀ q ∈ qs, ∃ v, (q.1, (c.2.1 + q.2) % 2, v) ∈ es
  par : ∀ e ∈ es, e = (s, 0, 0) ∨ ∃ b ∈ es, ∃ q ∈ N b.1, e = (q.1, (b.2.1 + q.2) % 2, b.2.2 + 1)
theorem Bi.few {N : Int → List (Int × Int)} {s : Int} {n : Nat} {es : List Sp3} {i : Nat} {c : Sp3} {qs : List (Int × Int)} (h : Bi N s n es i c qs) : es.length ≤ 2 * n := few2 h.nd h.ok
theorem Bq.go {N : Int → List (Int × Int)} {s : Int} {n : Nat} {es : List Sp3} {i : Nat} {c : Sp3} (h : Bq N s n es i) (e : es[i]? = some c) : Bi N s n es i c [] := ⟨h.nd, h.root, h.ok, h.mono, e, h.near c e, h.done, fun q hq => (by cases hq), h.par⟩
theorem Bi.old {N : Int → List (Int × Int)} {s : Int} {n : Nat} {es : List Sp3} {i : Nat} {c : Sp3} {qs : List (Int × Int)} {q : Int × Int} (h : Bi N s n es i c qs) (hq : (q.1, (c.2.1 + q.2) % 2) ∈ es.map key2) : Bi N s n es i c (qs ++ [q]) :=
  ⟨h.nd, h.root, h.ok, h.mono, h.at', h.near, h.done, fun p hp => by
    rcases List.mem_append.mp hp with z | z
    · exact h.here p z
    · rw [List.mem_singleton.mp z]
      exact key_in hq, h.par⟩
theorem Bi.new {N : Int → List (Int × Int)} {s : Int} {n : Nat} {es : List Sp3} {i : Nat} {c : Sp3} {qs : List (Int × Int)} {q : Int × Int} (h : Bi N s n es i c qs) (hq : (q.1, (c.2.1 + q.2) % 2) ∉ es.map key2) (hr : 0 ≤ q.1 ∧ q.1 < n) (hqm : q ∈ N c.1) : Bi N s n (es ++ [(q.1, (c.2.1 + q.2) % 2, c.2.2 + 1)]) i c (qs ++ [q]) := by
  have hi := (List.getElem?_eq_some_iff.mp h.at').1
  have hc : c ∈ es := List.mem_of_getElem? h.at'
  have c0 := (h.ok c hc).v
  refine ⟨?_, List.mem_append_left _ h.root, fun e he => ?_, ?_, by rw [List.getElem?_append_left hi]; exact h.at', fun e he => ?_, fun j e hj ej q' hq' => ?_, fun p hp => ?_, fun e he => ?_⟩
  · rw [List.map_append, List.nodup_append]
    refine ⟨h.nd, by simp, fun x hx y hy z => ?_⟩
    have : y = (q.1, (c.2.1 + q.2) % 2) := by simpa [key2] using hy
    subst this
    subst z
    exact hq hx
  · rcases List.mem_append.mp he with z | z
    · exact h.ok e z
    · rw [List.mem_singleton.mp z]
      exact ⟨hr, by show (c.2.1 + q.2) % 2 = 0 ∨ (c.2.1 + q.2) % 2 = 1; omega, by show 0 ≤ c.2.2 + 1; omega⟩
  · rw [List.pairwise_append]
    refine ⟨h.mono, by simp, fun a ha b hb => ?_⟩
    rw [List.mem_singleton.mp hb]
    exact h.near a ha
  · rcases List.mem_append.mp he with z | z
    · exact h.near e z
    · rw [List.mem_singleton.mp z]
      exact Int.le_refl _
  · rw [List.getElem?_append_left (by omega)] at ej
    obtain ⟨v, h1, h2⟩ := h.done j e hj ej q' hq'
    exact ⟨v, List.mem_append_left _ h1, h2⟩
  · rcases List.mem_append.mp hp with z | z
    · obtain ⟨v, hv⟩ := h.here p z
      exact ⟨v, List.mem_append_left _ hv⟩
    · rw [List.mem_singleton.mp z]
      exact ⟨c.2.2 + 1, List.mem_append_right _ (by simp)⟩
  · rcases List.mem_append.mp he with z | z
    · rcases h.par e z with y | ⟨b, hb, q', hq', ee⟩
      · exact .inl y
      · exact .inr ⟨b, List.mem_append_left _ hb, q', hq', ee⟩
    · exact .inr ⟨c, List.mem_append_left _ hc, q, hqm, List.mem_singleton.mp z⟩
theorem Bi.end' {N : Int → List (Int × Int)} {s : Int} {n : Nat} {es : List Sp3} {i : Nat} {c : Sp3} (h : Bi N s n es i c (N c.1)) : Bq N s n es (i + 1) := by
  refine ⟨h.nd, h.root, h.ok, h.mono, fun d ed e he => ?_, fun j e hj ej q hq => ?_, h.par⟩
  · have hi := (List.getElem?_eq_some_iff.mp h.at')
    have hd := (List.getElem?_eq_some_iff.mp ed)
    have := (List.pairwise_iff_getElem.mp h.mono) i (i + 1) hi.1 hd.1 (by omega)
    rw [hi.2, hd.2] at this
    have := h.near e he
    omega
  · by_cases e1 : j < i
    · exact h.done j e e1 ej q hq
    · have : j = i := by omega
      subst this
      rw [h.at'] at ej
      cases ej
      obtain ⟨v, hv⟩ := h.here q hq
      exact ⟨v, hv, h.near _ hv⟩
structure Far (ts : List Tie) (s : Int) (n : Nat) (es : List Sp3) : Prop where
  nd : (es.map key2).Nodup
  root : (s, 0, 0) ∈ es
  ok : ∀ e ∈ es, SpOk n e
  cl : ∀ e ∈ es, ∀ q ∈ nb ts e.1, ∃ v, (q.1, (e.2.1 + q.2) % 2, v) ∈ es ∧ v ≤ e.2.2 + 1
  par : ∀ e ∈ es, e = (s, 0, 0) ∨ ∃ c ∈ es, ∃ q ∈ nb ts c.1, e = (q.1, (c.2.1 + q.2) % 2, c.2.2 + 1)
theorem Bq.far {ts : List Tie} {s : Int} {n : Nat} {es : List Sp3} {i : Nat} (h : Bq (nb ts) s n es i) (hi : es.length ≤ i) : Far ts s n es :=
  ⟨h.nd, h.root, h.ok, fun e he q hq => by
    obtain ⟨j, hj⟩ := List.getElem?_of_mem he
    have := (List.getElem?_eq_some_iff.mp hj).1
    exact h.done j e (by omega) hj q hq, h.par⟩
def farV (es : List Sp3) (x o : Int) : Option Int := (es.find? fun e => decide (key2 e = (x, o))).map (·.2.2)
theorem farV_some {es : List Sp3} (nd : (es.map key2).Nodup) {x o v : Int} (h : (x, o, v) ∈ es) : farV es x o = some v := by
  induction es with
  | nil => cases h
  | cons e es ih =>
    rw [List.map_cons, List.nodup_cons] at nd
    unfold farV at ih ⊢
    rw [List.find?_cons]
    rcases List.mem_cons.mp h with z | z
    · subst z
      simp [key2]
    · have ne : ¬ key2 e = (x, o) := fun y => nd.1 (by rw [y]; exact List.mem_map.mpr ⟨_, z, rfl⟩)
      rw [decide_eq_false ne]
      exact ih nd.2 z
theorem farV_none {es : List Sp3} {x o : Int} (h : (x, o) ∉ es.map key2) : farV es x o = none := by
  induction es with
  | nil => rfl
  | cons e es ih =>
    rw [List.map_cons, List.mem_cons, not_or] at h
    unfold farV at ih ⊢
    rw [List.find?_cons, decide_eq_false (fun z => h.1 z.symm)]
    exact ih h.2
/-- along a tie -/
theorem Far.along {ts : List Tie} {s : Int} {n : Nat} {es : List Sp3} (h : Far ts s n es) {t : Tie} (ht : t ∈ ts) {o : Int} (ho : o = 0 ∨ o = 1) : (farV es t.one o = none ∧ farV es t.other ((o + bI t.foe) % 2) = none) ∨ ∃ u v, farV es t.one o = some u ∧ farV es t.other ((o + bI t.foe) % 2) = some v ∧ 0 ≤ u ∧ 0 ≤ v ∧ u ≤ v + 1 ∧ v ≤ u + 1 := by
  have b01 : bI t.foe = 0 ∨ bI t.foe = 1 := by unfold bI; split <;> simp
  by_cases h1 : (t.one, o) ∈ es.map key2
  · obtain ⟨u, hu⟩ := key_in h1
    obtain ⟨v, hv, l1⟩ := h.cl _ hu (t.other, bI t.foe) (mem_nb.mpr ⟨t, ht, .inl ⟨rfl, rfl⟩, rfl⟩)
    obtain ⟨u', hu', l2⟩ := h.cl _ hv (t.one, bI t.foe) (mem_nb.mpr ⟨t, ht, .inr ⟨rfl, rfl⟩, rfl⟩)
    have e : ((o + bI t.foe) % 2 + bI t.foe) % 2 = o := by omega
    simp only at hu' l1 l2
    rw [e] at hu'
    obtain rfl := key_one h.nd hu hu'
    exact .inr ⟨u, v, farV_some h.nd hu, farV_some h.nd hv, (h.ok _ hu).v, (h.ok _ hv).v, l2, l1⟩
  · have h2 : (t.other, (o + bI t.foe) % 2) ∉ es.map key2 := fun z => by
      obtain ⟨v, hv⟩ := key_in z
      obtain ⟨u', hu', _⟩ := h.cl _ hv (t.one, bI t.foe) (mem_nb.mpr ⟨t, ht, .inr ⟨rfl, rfl⟩, rfl⟩)
      have e : ((o + bI t.foe) % 2 + bI t.foe) % 2 = o := by omega
      simp only at hu'
      rw [e] at hu'
      exact h1 (List.mem_map.mpr ⟨_, hu', rfl⟩)
    exact .inl ⟨farV_none h1, farV_none h2⟩
/-! ### lists of pairs, place by place -/
def P2V (H : Hp) (v : V) (q : Int × Int) : Prop := ∃ a, v = .ref a ∧ H a = some (.tup [.int q.1, .int q.2])
theorem P2V.tk {H H' : Hp} (k : Tk H H') {v : V} {p : Int × Int} (h : P2V H v p) : P2V H' v p := by
  obtain ⟨a, rfl, e⟩ := h
  exact ⟨a, rfl, k _ _ e⟩
theorem p2_tk {H H' : Hp} (k : Tk H H') {vs : List V} {qs : List (Int × Int)} (h : Paired (P2V H) vs qs) : Paired (P2V H') vs qs := Paired.mono (fun _ _ x => x.tk k) h
structure Bd (H : Hp) (B : Addr) (As : List Addr) (N : Int → List (Int × Int)) : Prop where
  at' : H B = some (.lst (As.map V.ref))
  nd : As.Nodup
  each : ∀ (j : Nat) a, As[j]? = some a → ∃ vs, H a = some (.lst vs) ∧ Paired (P2V H) vs (N (j : Int))
  out : B ∉ As
theorem Bd.same {H H' : Hp} {B : Addr} {As : List Addr} {N : Int → List (Int × Int)} (h : Bd H B As N) (s : Same H H') : Bd H' B As N :=
  ⟨s _ _ h.at', h.nd, fun j a e => by
    obtain ⟨vs, h1, h2⟩ := h.each j a e
    exact ⟨vs, s _ _ h1, p2_tk (Same.tk s) h2⟩, h.out⟩
theorem Bd.put {H : Hp} {B a c : Addr} {As : List Addr} {N : Int → List (Int × Int)} {j : Nat} {vs : List V} {q : Int × Int} (h : Bd H B As N) (ha : As[j]? = some a) (hv : H a = some (.lst vs)) (hc : H c = some (.tup [.int q.1, .int q.2])) : Bd (upd H a (.lst (vs ++ [.ref c]))) B As (fun x => N x ++ if x = (j : Int) then [q] else []) := by
  have k : Tk H (upd H a (.lst (vs ++ [.ref c]))) := tk_lst hv
  have haB : a ≠ B := fun z => h.out (by rw [← z]; exact List.mem_of_getElem? ha)
  refine ⟨by rw [upd_ne (Ne.symm haB)]; exact h.at', h.nd, fun i b eb => ?_, h.out⟩
  obtain ⟨us, h1, h2⟩ := h.each i b eb
  by_cases e : i = j
  · subst e
    rw [ha] at eb
    cases eb
    rw [hv] at h1
    cases h1
    refine ⟨_, upd_same, ?_⟩
    rw [if_pos rfl]
    exact Paired.snoc (p2_tk k h2) ⟨c, rfl, k _ _ hc⟩
  · have e2 : b ≠ a := fun z => e ((List.getElem?_inj (List.getElem?_eq_some_iff.mp eb).1 h.nd).mp (by rw [eb, ha, z]))
    refine ⟨us, by rw [upd_ne e2]; exact h1, ?_⟩
    rw [if_neg (by omega), List.append_nil]
    exact p2_tk k h2
theorem Bd.more {H : Hp} {B p : Addr} {As : List Addr} (h : Bd H B As (fun _ => [])) (np : H p = none) : Bd (upd (upd H p (.lst [])) B (.lst (As.map V.ref ++ [.ref p]))) B (As ++ [p]) (fun _ => []) := by
  have npA : p ∉ As := fun z => by
    obtain ⟨j, hj⟩ := List.getElem?_of_mem z
    obtain ⟨vs, h1, _⟩ := h.each j p hj
    rw [np] at h1
    cases h1
  have npB : p ≠ B := (ne_of_none h.at' np).symm
  refine ⟨by rw [upd_same, List.map_append]; rfl, ?_, fun j a e => ?_, fun z => ?_⟩
  · rw [List.nodup_append]
    refine ⟨h.nd, by simp, fun x hx y hy z => ?_⟩
    rw [List.mem_singleton.mp hy] at z
    subst z
    exact npA hx
  · by_cases hj : j < As.length
    · rw [List.getElem?_append_left hj] at e
      obtain ⟨vs, h1, h2⟩ := h.each j a e
      cases h2
      have : a ≠ B := fun z => h.out (by rw [← z]; exact List.mem_of_getElem? e)
      exact ⟨[], by rw [upd_ne this, upd_ne (ne_of_none h1 np)]; exact h1, .nil⟩
    · rw [List.getElem?_append_right (by omega)] at e
      have : a = p := by
        have := List.mem_of_getElem? e
        simpa using this
      subst this
      exact ⟨[], by rw [upd_ne npB]; exact upd_same, .nil⟩
  · rcases List.mem_append.mp z with y | y
    · exact h.out y
    · exact npB (List.mem_singleton.mp y).symm
theorem room1 {k : Nat} {A : PySem.Around} (r : Room k A) : A.units + 1 < cLine := by have := r.un; omega
def spFar : Sp := fun vs H Q _ => ∃ (wv : V) (n : Nat) (ts : List Tie) (s : Int), vs = [wv, .int s] ∧ WebAt H wv n ts ∧ WebOk n ts ∧ (0 ≤ s ∧ s < n) ∧ ∀ D es H', Same H H' → H' D = some (.dT (kv3 es)) → Far ts s n es → es.length ≤ 80 → Q (.ref D) H'
section
variable {P : Program} {w : World} {K : PySem.W.Frag} {mg : Str → Option Value} {base : Heap}
theorem ok_l_far {f : Addr} {fd : FuncData} (F : Fun K "_law_far" "_law_far" s_l_far f fd) (M : Free mg) : FnOk P w K mg base CX0 1 f fd ["_law_web_here", "_law_place"] spFar := by
  refine F.ok sc_l_far (fun vs H Q E h => ?_) (fun cdv A outer sh H vs Q E hr h => ?_)
  · obtain ⟨wv, n, ts, s, rfl, _⟩ := h
    rfl
  · obtain ⟨wv, n, ts, s, rfl, hW, ok, hs, q⟩ := h
    have hu := room1 hr
    refine ⟨_, (Evl.pss_cut (ps_setLc (i := 2) (own := [("_law_spot", 3)]) (g := (gName 3)) (tt := tYes) rfl sc_l_far.nd rfl rfl (sw_true rfl rfl rfl (by decide +kernel)) (pi_range1 (by rfl) M.range (pa_cons (pe_ix ix_tup (pv 0) pe_int (fun _ _ => rfl)) pa_nil)) (blkOk_by (N := N_l_far) (sc := defScope s_l_far) (own := [("_law_spot", 3)]) (by decide +kernel)) (fun _ _ _ _ _ => (pg_name (i := 3) sc_l_far.nd rfl (.inl rfl))) (fun _ _ _ _ _ => pts_nil) (fun _ _ _ _ _ => (pe_lst pa_nil)))
      (Evl.pss_cut (ps_for PassesOwn.never rfl (pi_tup (pe_ix ix_tup (pv 0) pe_int (fun _ _ => rfl))) (pg_tup rfl (pgs_cons (pg_name (i := 4) sc_l_far.nd rfl (.inl rfl)) (pgs_cons (pg_name (i := 5) sc_l_far.nd rfl (.inl rfl)) (pgs_cons (pg_name (i := 6) sc_l_far.nd rfl (.inl rfl)) pgs_nil))))
        (Evl.pss_cut (ps_expr (pe_bm PySem.F.plainAttrs_list PySem.F.slot_list_append PySem.F.type_list_append mt_append (pe_ix ix_list (pv 2) (pv 4) (fun _ _ => rfl)) (pa_cons (pe_tup (pa_cons (pv 5) (pa_cons (pe_callTy call_int1 (by rfl) M.int (by decide +kernel) (pa_cons (pe_cmpR op_eq (pv 6) pe_str (nomark _)) pa_nil)) pa_nil))) pa_nil)))
        (pss_one (ps_expr (pe_bm PySem.F.plainAttrs_list PySem.F.slot_list_append PySem.F.type_list_append mt_append (pe_ix ix_list (pv 2) (pv 5) (fun _ _ => rfl)) (pa_cons (pe_tup (pa_cons (pv 4) (pa_cons (pe_callTy call_int1 (by rfl) M.int (by decide +kernel) (pa_cons (pe_cmpR op_eq (pv 6) pe_str (nomark _)) pa_nil)) pa_nil))) pa_nil))))))
      (pss_cons (ps_set (i := 7) sc_l_far.nd rfl (.inl rfl) pe_dnewT)
      (pss_cons (ps_dput hu (pv 7) (pe_tup (pa_cons (pv 1) (pa_cons pe_int pa_nil))) pe_int rfl)
      (pss_cons (ps_set (i := 8) sc_l_far.nd rfl (.inl rfl) (pe_lst (pa_cons (pe_tup (pa_cons (pv 1) (pa_cons pe_int pa_nil))) pa_nil)))
      (pss_cons (ps_for PassesOwn.never rfl (pi_range1 (by rfl) M.range (pa_cons (pe_op op_mul pe_int (pe_ix ix_tup (pv 0) pe_int (fun _ _ => rfl))) pa_nil)) (pg_name (i := 9) sc_l_far.nd rfl (.inl rfl))
        (pss_one (ps_if (pt_cmpR op_lt (pv 9) (pe_callB call_len_seq (by rfl) M.len PySem.boot_len (pa_cons (pv 8) pa_nil)) (nomark _))
          (pss_cons (ps_asg (pe_ix ix_list (pv 8) (pv 9) (fun _ _ => rfl)) (pg_tup rfl (pgs_cons (pg_name (i := 10) sc_l_far.nd rfl (.inl rfl)) (pgs_cons (pg_name (i := 11) sc_l_far.nd rfl (.inl rfl)) pgs_nil))))
          (pss_one (ps_for PassesOwn.never rfl (pi_list (pe_ix ix_list (pv 2) (pv 10) (fun _ _ => rfl))) (pg_tup rfl (pgs_cons (pg_name (i := 12) sc_l_far.nd rfl (.inl rfl)) (pgs_cons (pg_name (i := 13) sc_l_far.nd rfl (.inl rfl)) pgs_nil)))
            (pss_cons (ps_set (i := 3) sc_l_far.nd rfl (.inl rfl) (pe_tup (pa_cons (pv 12) (pa_cons (pe_op op_mod (pe_op op_add (pv 11) (pv 13)) pe_int) pa_nil))))
            (pss_one (ps_if (pt_cmp (pc_dnotin hu (pv 3) (pv 7)))
              (pss_cons (ps_dput hu (pv 7) (pv 3) (pe_op op_add (pe_dget hu (pv 7) (pe_tup (pa_cons (pv 10) (pa_cons (pv 11) pa_nil))) (fun _ _ => rfl)) pe_int) rfl)
              (pss_one (ps_expr (pe_bm PySem.F.plainAttrs_list PySem.F.slot_list_append PySem.F.type_list_append mt_append (pv 8) (pa_cons (pv 3) pa_nil)))))
              pss_nil))))))
          pss_nil)))
      (pss_one (ps_ret (pv 7))))))))), ?_⟩
    obtain ⟨wa, wb, us, rfl, hwa, hwb, hp⟩ := id hW
    have n1 : 1 ≤ n := by have := ok.lo; omega
    have n40 : n ≤ 40 := by have := ok.hi; omega
    have few := ok.few
    have lu : us.length = ts.length := Paired.length hp
    -- beside
    refine ⟨fun σ' H' => ∃ (y3 : Option V) (B : Addr) (As : List Addr), σ' = [some (.ref wa), some (.int s), some (.ref B), y3, none, none, none, none, none, none, none, none, none, none] ∧ As.length = n ∧ Bd H' B As (fun _ => []) ∧ (∀ x ∈ As, H x = none) ∧ H B = none ∧ Same H H', ?_, ?_⟩
    · refine ⟨.ref wa, rfl, wa, _, 0, .int n, rfl, rfl, SqT.of hwa, rfl, n, rfl, by omega, by omega, fun B nB => ?_⟩
      rw [Int.toNat_natCast]
      refine lc_range (lo := 0) (n := n) (fun i H' => ∃ As : List Addr, As.length = i ∧ Bd H' B As (fun _ => []) ∧ (∀ x ∈ As, H x = none) ∧ Same H H') ⟨[], rfl, ⟨upd_same, List.nodup_nil, fun j a e => by simp at e, by simp⟩, fun x hx => (by cases hx), same_new nB⟩ ?_ ?_
      · rintro i H1 hi ⟨As, hl, hA, hf, s1⟩
        refine ⟨rfl, Nat.zero_le _, fun p np => ⟨_, same_new np _ _ hA.at', by rw [List.length_map]; exact small1000 (by omega), As ++ [p], by rw [List.length_append, hl]; rfl, hA.more np, fun x hx => ?_, Same.mut (s1.trans (same_new np)) nB⟩⟩
        rcases List.mem_append.mp hx with z | z
        · exact hf x z
        · rw [List.mem_singleton.mp z]
          exact s1.free np
      · rintro H1 ⟨As, hl, hA, hf, s1⟩
        exact ⟨_, B, As, rfl, hl, hA, hf, nB, s1⟩
    rintro σ' H1 ⟨y3, B, As, rfl, hl, hA, hf, nB, s1⟩
    -- a tie's end is put
    have put : ∀ {H2 : Hp} {N : Int → List (Int × Int)} {x y f : Int}, Same H H2 → Bd H2 B As N → 0 ≤ x → x < n → (N x).length ≤ 500 → ∃ (j : Nat) (a : Addr) (vs : List V), x = (j : Int) ∧ As[j]? = some a ∧ H2 a = some (.lst vs) ∧ vs.length ≤ 500 ∧ ∀ {H3 : Hp} {c : Addr}, Same H2 H3 → H3 c = some (.tup [.int y, .int f]) → Bd (upd H3 a (.lst (vs ++ [.ref c]))) B As (fun z => N z ++ if z = x then [(y, f)] else []) ∧ Same H (upd H3 a (.lst (vs ++ [.ref c]))) := by
      intro H2 N x y f s2 hB x0 x1 ln
      have hj : x.toNat < As.length := by omega
      obtain ⟨vs, h1, h2⟩ := hB.each x.toNat _ (List.getElem?_eq_getElem hj)
      have ex : x = (x.toNat : Int) := by omega
      have lv := Paired.length h2
      rw [← ex] at lv
      refine ⟨x.toNat, As[x.toNat], vs, ex, List.getElem?_eq_getElem hj, h1, by omega, fun {H3 c} s3 hc => ?_⟩
      have := (hB.same s3).put (q := (y, f)) (List.getElem?_eq_getElem hj) (s3 _ _ h1) hc
      rw [← ex] at this
      exact ⟨this, Same.mut (s2.trans s3) (hf _ (List.getElem_mem hj))⟩
    refine ⟨fun σ' H' => ∃ (y3 y4 y5 y6 : Option V), σ' = [some (.ref wa), some (.int s), some (.ref B), y3, y4, y5, y6, none, none, none, none, none, none, none] ∧ Bd H' B As (nb ts) ∧ Same H H', ?_, ?_⟩
    · refine ⟨.ref wa, rfl, wa, _, 1, .ref wb, rfl, rfl, SqT.of (s1 _ _ hwa), rfl, wb, rfl, ⟨_, SqT.of (s1 _ _ hwb)⟩, ?_⟩
      refine for_tup (xs := us) (fun i σ' H' => ∃ (y3 y4 y5 y6 : Option V), σ' = [some (.ref wa), some (.int s), some (.ref B), y3, y4, y5, y6, none, none, none, none, none, none, none] ∧ Bd H' B As (nb (ts.take i)) ∧ Same H H') ⟨_, _, _, _, rfl, hA, s1⟩ (fun i σ' H' _ h => by
        obtain ⟨_, _, _, _, _, _, s2⟩ := h
        exact SqT.of (s2 _ _ hwb)) ?_ ?_
      · rintro i v σ' H2 ev ⟨y3, y4, y5, y6, rfl, hB, s2⟩
        obtain ⟨t, et, c, rfl, hc⟩ := Paired.at hp ev
        have okt := ok.ok t (List.mem_of_getElem? et)
        have ln : ∀ x, (nb (ts.take i) x).length ≤ 240 := fun x => by
          have := nb_len (ts.take i) x
          rw [List.length_take] at this
          omega
        have ek : decide (V.str (kindS t.foe) = V.str "foe") = t.foe := by cases t.foe <;> decide +kernel
        refine ⟨c, _, rfl, SqT.of (s2 _ _ hc), rfl, _, _, rfl, _, _, rfl, _, _, rfl, rfl, ?_⟩
        refine ⟨fun σ' H' => ∃ y3 : Option V, σ' = [some (.ref wa), some (.int s), some (.ref B), y3, some (.int t.one), some (.int t.other), some (.str (kindS t.foe)), none, none, none, none, none, none, none] ∧ Bd H' B As (fun z => nb (ts.take i) z ++ if z = t.one then [(t.other, bI t.foe)] else []) ∧ Same H H', ?_, ?_⟩
        · obtain ⟨j, a, vs, ej, ea, hv, lv, fin⟩ := put (y := t.other) (f := bI t.foe) s2 hB okt.1 okt.2.1 (by have := ln t.one; omega)
          have eat : atI (As.map V.ref) t.one = some (.ref a) := by rw [ej]; exact atI_nat (by rw [List.getElem?_map, ea]; rfl)
          refine ⟨.ref B, rfl, .int t.one, rfl, B, _, t.one, _, rfl, rfl, SqL.of hB.at', eat, .inl ⟨rfl, _, SqL.of hv⟩, .int t.other, rfl, .str (kindS t.foe), rfl, rfl, .inr ⟨_, rfl, by show 2 ≤ sizeLine; decide, fun e ne => ?_⟩⟩
          rw [ek]
          have se := same_new (o := .tup [.int t.other, .int (if t.foe = true then 1 else 0)]) ne
          exact ⟨a, vs, _, rfl, rfl, se _ _ hv, small1000 (by omega), _, rfl, (fin se upd_same).1, (fin se upd_same).2⟩
        clear hB s2
        rintro σ' H2 ⟨y3, rfl, hB, s2⟩
        obtain ⟨j, a, vs, ej, ea, hv, lv, fin⟩ := put (y := t.one) (f := bI t.foe) s2 hB okt.2.2.1 okt.2.2.2.1 (by
          have := ln t.other
          show (nb (ts.take i) t.other ++ if t.other = t.one then [(t.other, bI t.foe)] else []).length ≤ 500
          rw [List.length_append]
          split <;> simp only [List.length_cons, List.length_nil] <;> omega)
        have eat : atI (As.map V.ref) t.other = some (.ref a) := by rw [ej]; exact atI_nat (by rw [List.getElem?_map, ea]; rfl)
        refine ⟨.ref B, rfl, .int t.other, rfl, B, _, t.other, _, rfl, rfl, SqL.of hB.at', eat, .inl ⟨rfl, _, SqL.of hv⟩, .int t.one, rfl, .str (kindS t.foe), rfl, rfl, .inr ⟨_, rfl, by show 2 ≤ sizeLine; decide, fun e ne => ?_⟩⟩
        rw [ek]
        have se := same_new (o := .tup [.int t.one, .int (if t.foe = true then 1 else 0)]) ne
        have eN : nb (ts.take (i + 1)) = fun z => (nb (ts.take i) z ++ if z = t.one then [(t.other, bI t.foe)] else []) ++ if z = t.other then [(t.one, bI t.foe)] else [] := by
          funext z
          rw [take_snoc et, nb_snoc]
          unfold nb1
          rw [List.append_assoc]
        refine ⟨a, vs, _, rfl, rfl, se _ _ hv, small1000 (by omega), _, _, _, _, rfl, ?_, (fin se upd_same).2⟩
        rw [eN]
        exact (fin se upd_same).1
      · rintro σ' H2 ⟨y3, y4, y5, y6, rfl, hB, s2⟩
        rw [lu, List.take_length] at hB
        exact ⟨_, _, _, _, rfl, hB, s2⟩
    clear hA s1 put
    rintro σ' H2 ⟨y3', y4, y5, y6, rfl, hB, s2⟩
    have hNr : ∀ x q, q ∈ nb ts x → 0 ≤ q.1 ∧ q.1 < (n : Int) := fun x q hq => by
      obtain ⟨t, ht, h, _⟩ := mem_nb.mp hq
      have o := ok.ok t ht
      rcases h with ⟨_, e⟩ | ⟨_, e⟩
      · rw [e]; exact ⟨o.2.2.1, o.2.2.2.1⟩
      · rw [e]; exact ⟨o.1, o.2.1⟩
    -- the first place
    refine fun D nD => ?_
    have eD := same_new (o := .dT []) nD
    have nD0 : H D = none := s2.free nD
    refine ⟨.ref D, rfl, .int s, rfl, by show 2 ≤ sizeLine; decide, fun k0 nk => ⟨D, _, rfl, DPut.t (k := [Sum.inl s, Sum.inl 0]) (same_new nk _ _ upd_same) upd_same (by decide), ?_⟩⟩
    have ek0 := same_new (o := .tup [.int s, .int 0]) nk
    have s3 : Same H2 (upd (upd (upd H2 D (.dT [])) k0 (.tup [.int s, .int 0])) D (.dT (putK [] [Sum.inl s, Sum.inl 0] (.int 0)))) := Same.mut (eD.trans ek0) nD
    have hD3 : (upd (upd (upd H2 D (.dT [])) k0 (.tup [.int s, .int 0])) D (.dT (putK [] [Sum.inl s, Sum.inl 0] (.int 0)))) D = some (.dT (kv3 [(s, 0, 0)])) := upd_same
    generalize upd (upd (upd H2 D (.dT [])) k0 (.tup [.int s, .int 0])) D (.dT (putK [] [Sum.inl s, Sum.inl 0] (.int 0))) = H3 at s3 hD3
    clear ek0 eD nk k0
    refine ⟨.int s, rfl, by show 2 ≤ sizeLine; decide, fun k1 n1' => ⟨by show 1 ≤ sizeLine; decide, fun L nL => ?_⟩⟩
    have e1 := same_new (o := .tup [.int s, .int 0]) n1'
    have eL := same_new (o := .lst [.ref k1]) nL
    have nL2 : H2 L = none := s3.free (e1.free nL)
    have hL4 := upd_same (H := upd H3 k1 (.tup [.int s, .int 0])) (a := L) (o := .lst [.ref k1])
    have hk4 := eL _ _ (upd_same (H := H3) (a := k1) (o := .tup [.int s, .int 0]))
    have hD4 := eL _ _ (e1 _ _ hD3)
    have s4 := (s3.trans e1).trans eL
    have hLD : L ≠ D := ne_of hL4 hD4 (by intro z; cases z)
    generalize upd (upd H3 k1 (.tup [.int s, .int 0])) L (.lst [.ref k1]) = H4 at hL4 hk4 hD4 s4
    clear e1 eL s3 hD3 nL n1'
    refine ⟨.ref wa, rfl, wa, _, 0, .int n, rfl, rfl, SqT.of ((s2.trans s4) _ _ hwa), rfl, 2, n, rfl, rfl, .inl ⟨by decide, by decide⟩, _, rfl, by omega, by omega, ?_⟩
    refine for_range (lo := 0) (n := ((2 : Int) * (n : Int)).toNat) (fun i σ' H' => ∃ (y3 y9 y10 y11 y12 y13 : Option V) (es : List Sp3) (ls : List V), σ' = [some (.ref wa), some (.int s), some (.ref B), y3, y4, y5, y6, some (.ref D), some (.ref L), y9, y10, y11, y12, y13] ∧ H' D = some (.dT (kv3 es)) ∧ H' L = some (.lst ls) ∧ Paired (P2V H') ls (es.map key2) ∧ Bq (nb ts) s n es i ∧ Same H2 H') ⟨_, none, none, none, none, none, [(s, 0, 0)], [.ref k1], rfl, hD4, hL4, .cons ⟨k1, rfl, hk4⟩ .nil, ⟨by simp, by simp, fun e he => by rw [List.mem_singleton.mp he]; exact ⟨hs, .inl rfl, Int.le_refl _⟩, by simp, fun c hc e he => by rw [List.mem_singleton.mp he]; have := List.mem_singleton.mp (List.mem_of_getElem? hc); rw [this]; show (0 : Int) ≤ 0 + 1; omega, fun j e hj => by omega, fun e he => .inl (List.mem_singleton.mp he)⟩, s4⟩ ?_ ?_
    · clear hD4 hL4 hk4 s4
      rintro i σ' H5 hi ⟨y3, y9, y10, y11, y12, y13, es, ls, rfl, hD5, hL5, hl5, bq, s5⟩
      rw [show (0 : Int) + (i : Nat) = i from by omega]
      have ll : ls.length = es.length := by rw [Paired.length hl5, List.length_map]
      have fw := bq.few
      refine ⟨.int i, rfl, .ref L, rfl, L, ls, rfl, .inl (SqL.of hL5), i, _, rfl, rfl, _, rfl, ite2 (fun hlt => ?_) (fun hlt => ?_)⟩
      · have hlt : (i : Int) < (ls.length : Int) := of_decide_eq_true hlt
        have hil : i < es.length := by omega
        obtain ⟨c, ec⟩ : ∃ c, es[i]? = some c := ⟨_, List.getElem?_eq_getElem hil⟩
        obtain ⟨v, ev, a, rfl, hac⟩ := Paired.at' hl5 (show (es.map key2)[i]? = some (key2 c) by rw [List.getElem?_map, ec]; rfl)
        have cok := bq.ok c (List.mem_of_getElem? ec)
        refine ⟨.ref L, rfl, .int i, rfl, L, ls, i, .ref a, rfl, rfl, SqL.of hL5, atI_nat ev, a, _, rfl, SqT.of hac, rfl, _, _, rfl, _, _, rfl, rfl, ?_⟩
        have hB5 := hB.same s5
        have hcn : c.1.toNat < As.length := by have := cok.x; omega
        obtain ⟨vs, hv, hpv⟩ := hB.each c.1.toNat _ (List.getElem?_eq_getElem hcn)
        have ecx : ((c.1.toNat : Nat) : Int) = c.1 := by have := cok.x; omega
        rw [ecx] at hpv
        have eat : atI (As.map V.ref) c.1 = some (.ref As[c.1.toNat]) := atI_of cok.x.1 (by rw [List.getElem?_map, List.getElem?_eq_getElem hcn]; rfl)
        refine ⟨.ref B, rfl, .int c.1, rfl, B, _, c.1, _, rfl, rfl, SqL.of hB5.at', eat, _, rfl, ⟨_, SqL.of (s5 _ _ hv)⟩, ?_⟩
        refine for_list (xs := vs) (fun j σ' H' => ∃ (y3 y12 y13 : Option V) (es : List Sp3) (ls : List V), σ' = [some (.ref wa), some (.int s), some (.ref B), y3, y4, y5, y6, some (.ref D), some (.ref L), some (.int i), some (.int c.1), some (.int c.2.1), y12, y13] ∧ H' D = some (.dT (kv3 es)) ∧ H' L = some (.lst ls) ∧ Paired (P2V H') ls (es.map key2) ∧ Bi (nb ts) s n es i c ((nb ts c.1).take j) ∧ es.length ≤ 80 ∧ Same H2 H') ⟨_, _, _, es, ls, rfl, hD5, hL5, hl5, bq.go ec, by omega, s5⟩ (fun j σ' H' _ h => by
          obtain ⟨_, _, _, _, _, _, _, _, _, _, _, s6⟩ := h
          exact SqL.of (s6 _ _ hv)) ?_ ?_
        · clear hD5 hL5 hl5 bq s5 ll hlt hil ec ev hac fw hB5
          rintro j u σ' H6 eu ⟨y3, y12, y13, es, ls, rfl, hD6, hL6, hl6, bi, few6, s6⟩
          obtain ⟨q, eq, b, rfl, hb⟩ := Paired.at hpv eu
          have hqm := List.mem_of_getElem? eq
          have qr := hNr _ _ hqm
          have etk : (nb ts c.1).take (j + 1) = (nb ts c.1).take j ++ [q] := by rw [List.take_add_one, eq]; rfl
          have ll : ls.length = es.length := by rw [Paired.length hl6, List.length_map]
          refine ⟨b, _, rfl, SqT.of (s6 _ _ hb), rfl, _, _, rfl, _, _, rfl, rfl, ?_⟩
          refine ⟨.int q.1, rfl, .int c.2.1, rfl, .int q.2, rfl, c.2.1, q.2, rfl, rfl, _, 2, rfl, rfl, (show (0 : Int) < 2 by decide), by show 2 ≤ sizeLine; decide, fun Z nZ => ?_⟩
          have eZ := same_new (o := .tup [.int q.1, .int ((c.2.1 + q.2) % 2)]) nZ
          have hD7 := eZ _ _ hD6
          have hL7 := eZ _ _ hL6
          have hl7 := p2_tk (Same.tk eZ) hl6
          have s7 := s6.trans eZ
          have hZ7 := upd_same (H := H6) (a := Z) (o := .tup [.int q.1, .int ((c.2.1 + q.2) % 2)])
          have ZD : Z ≠ D := (ne_of_none hD6 nZ).symm
          generalize upd H6 Z (.tup [.int q.1, .int ((c.2.1 + q.2) % 2)]) = H7 at hD7 hL7 hl7 s7 hZ7
          refine ⟨.ref Z, rfl, .ref D, rfl, D, _, rfl, DGet.t (k := [Sum.inl q.1, Sum.inl ((c.2.1 + q.2) % 2)]) hD7 hZ7, _, rfl, ?_⟩
          by_cases hin : (q.1, (c.2.1 + q.2) % 2) ∈ es.map key2
          · obtain ⟨v, hv'⟩ := key_in hin
            rw [kv3_some bi.nd hv']
            exact ⟨_, _, _, es, ls, rfl, hD7, hL7, hl7, by rw [etk]; exact bi.old hin, few6, s7⟩
          · rw [kv3_none hin]
            have bn := bi.new hin qr hqm
            have f80 : es.length + 1 ≤ 80 := by
              have := (Bi.few bn)
              rw [List.length_append] at this
              simp at this
              omega
            refine ⟨.ref D, rfl, .int c.1, rfl, .int c.2.1, rfl, by show 2 ≤ sizeLine; decide, fun Y nY => ?_⟩
            have eY := same_new (o := .tup [.int c.1, .int c.2.1]) nY
            have gt : DGet (upd H7 Y (.tup [.int c.1, .int c.2.1])) D (.ref Y) (some (.int c.2.2)) := by
              rw [← kv3_some bi.nd (show (c.1, c.2.1, c.2.2) ∈ es from List.mem_of_getElem? bi.at')]
              exact DGet.t (k := [Sum.inl c.1, Sum.inl c.2.1]) (eY _ _ hD7) upd_same
            refine ⟨D, _, rfl, gt, c.2.2, 1, rfl, rfl, .ref D, rfl, .ref Z, rfl, D, _, rfl, DPut.t (k := [Sum.inl q.1, Sum.inl ((c.2.1 + q.2) % 2)]) (eY _ _ hD7) (eY _ _ hZ7) (by rw [kv3_len]; exact small1000 (by omega)), ?_⟩
            rw [kv3_put hin]
            have tk8 : Tk (upd H7 Y (.tup [.int c.1, .int c.2.1])) (upd (upd H7 Y (.tup [.int c.1, .int c.2.1])) D (.dT (kv3 (es ++ [(q.1, (c.2.1 + q.2) % 2, c.2.2 + 1)])))) := fun b xs e => by
              rw [upd_ne (ne_of e (eY _ _ hD7) (by intro z; cases z))]
              exact e
            have hL8 : (upd (upd H7 Y (.tup [.int c.1, .int c.2.1])) D (.dT (kv3 (es ++ [(q.1, (c.2.1 + q.2) % 2, c.2.2 + 1)])))) L = some (.lst ls) := by rw [upd_ne hLD]; exact eY _ _ hL7
            refine ⟨.ref L, rfl, .inl ⟨rfl, _, SqL.of hL8⟩, .ref Z, rfl, L, ls, _, rfl, rfl, hL8, small1000 (by omega), ?_⟩
            have tk9 := tk_lst (ys := ls ++ [.ref Z]) hL8
            have tk := (Same.tk eY).trans (tk8.trans tk9)
            refine ⟨_, _, _, es ++ [(q.1, (c.2.1 + q.2) % 2, c.2.2 + 1)], ls ++ [.ref Z], rfl, by rw [upd_ne (Ne.symm hLD)]; exact upd_same, upd_same, ?_, by rw [etk]; exact bn, by rw [List.length_append]; exact f80, Same.mut (Same.mut (s7.trans eY) nD) nL2⟩
            rw [List.map_append]
            exact Paired.snoc (p2_tk tk hl7) ⟨Z, rfl, tk _ _ hZ7⟩
        · rintro σ' H6 ⟨y3, y12, y13, es, ls, rfl, hD6, hL6, hl6, bi, few6, s6⟩
          rw [Paired.length hpv, List.take_length] at bi
          exact ⟨_, _, _, _, _, _, es, ls, rfl, hD6, hL6, hl6, bi.end', s6⟩
      · have hlt : ¬ (i : Int) < (ls.length : Int) := fun z => hlt (decide_eq_true z)
        refine ⟨_, _, _, _, _, _, es, ls, rfl, hD5, hL5, hl5, ⟨bq.nd, bq.root, bq.ok, bq.mono, fun c hc => ?_, fun j e hj ej => ?_, bq.par⟩, s5⟩
        · have := (List.getElem?_eq_some_iff.mp hc).1
          omega
        · have := (List.getElem?_eq_some_iff.mp ej).1
          exact bq.done j e (by omega) ej
    · rintro σ' H5 ⟨y3, y9, y10, y11, y12, y13, es, ls, rfl, hD5, hL5, hl5, bq, s5⟩
      have fw := bq.few
      exact ⟨.ref D, rfl, q D es H5 (s2.trans s5) hD5 (bq.far (by omega)) (by omega)⟩
end
theorem pigeon (n : Nat) (xs : List Int) (h1 : xs.Nodup) (h2 : ∀ x ∈ xs, 0 ≤ x ∧ x < n) : xs.length ≤ n := pigeon' n xs h1 h2
/-! ### ties around places, by their numbers (mathematics) -/
def Jn (t : Tie) (a b : Int) : Prop := (t.one = a ∧ t.other = b) ∨ (t.one = b ∧ t.other = a)
theorem Jn.symm {t : Tie} {a b : Int} (h : Jn t a b) : Jn t b a := h.elim .inr .inl
abbrev Nu := Int × Int
def n1 (ts : List Tie) (m : Int) (p : Int) : List Nu := (if p = (tieN ts m.toNat).one then [((tieN ts m.toNat).other, m)] else []) ++ (if p = (tieN ts m.toNat).other then [((tieN ts m.toNat).one, m)] else [])
def nN (ts : List Tie) (ns : List Int) (p : Int) : List Nu := ns.flatMap fun m => n1 ts m p
theorem nN_snoc (ts : List Tie) (ns : List Int) (m p : Int) : nN ts (ns ++ [m]) p = nN ts ns p ++ n1 ts m p := by
  unfold nN
  rw [List.flatMap_append]
  simp
theorem n1_len (ts : List Tie) (m p : Int) : (n1 ts m p).length ≤ 2 := by
  unfold n1
  rw [List.length_append]
  split <;> split <;> simp
theorem nN_len (ts : List Tie) (ns : List Int) (p : Int) : (nN ts ns p).length ≤ 2 * ns.length := by
  induction ns with
  | nil => simp [nN]
  | cons m ns ih =>
    have h := n1_len ts m p
    unfold nN at ih ⊢
    rw [List.flatMap_cons, List.length_append, List.length_cons]
    omega
theorem mem_nN {ts : List Tie} {ns : List Int} {p : Int} {q : Nu} : q ∈ nN ts ns p ↔ q.2 ∈ ns ∧ Jn (tieN ts q.2.toNat) p q.1 := by
  unfold nN n1 Jn
  rw [List.mem_flatMap]
  constructor
  · rintro ⟨m, hm, h⟩
    rcases List.mem_append.mp h with h | h
    · split at h
      · rename_i e
        rw [List.mem_singleton] at h
        subst h
        exact ⟨hm, .inl ⟨e.symm, rfl⟩⟩
      · simp at h
    · split at h
      · rename_i e
        rw [List.mem_singleton] at h
        subst h
        exact ⟨hm, .inr ⟨rfl, e.symm⟩⟩
      · simp at h
  · rintro ⟨hm, h⟩
    refine ⟨q.2, hm, List.mem_append.mpr ?_⟩
    obtain ⟨q1, q2⟩ := q
    simp only at h
    rcases h with ⟨h1, h2⟩ | ⟨h1, h2⟩
    · left
      rw [if_pos h1.symm, List.mem_singleton, ← h2]
    · right
      rw [if_pos h2.symm, List.mem_singleton, ← h1]
def NuV (H : Hp) (v : V) (q : Nu) : Prop := ∃ a, v = .ref a ∧ H a = some (.tup [.int q.1, .int q.2])
theorem NuV.tk {H H' : Hp} (k : Tk H H') {v : V} {p : Nu} (h : NuV H v p) : NuV H' v p := by
  obtain ⟨a, rfl, e⟩ := h
  exact ⟨a, rfl, k _ _ e⟩
theorem nus_tk {H H' : Hp} (k : Tk H H') {vs : List V} {qs : List Nu} (h : Paired (NuV H) vs qs) : Paired (NuV H') vs qs := Paired.mono (fun _ _ x => x.tk k) h
def aKv (As : List (Int × Addr)) : List (Key × V) := As.map fun p => (Sum.inl p.1, V.ref p.2)
theorem aKv_none {z : Int} : ∀ {As : List (Int × Addr)}, z ∉ As.map (·.1) → valV (aKv As) (Sum.inl z) = none
  | [], _ => rfl
  | p :: As, h => by
    rw [List.map_cons, List.mem_cons, not_or] at h
    have e := aKv_none (As := As) h.2
    have h1 := h.1
    unfold aKv at e ⊢
    rw [List.map_cons, valV_neg (fun z => h1 (Sum.inl.inj z).symm)]
    exact e
theorem aKv_some {z : Int} {a : Addr} : ∀ {As : List (Int × Addr)}, (As.map (·.1)).Nodup → (z, a) ∈ As → valV (aKv As) (Sum.inl z) = some (.ref a)
  | p :: As, nd, h => by
    rw [List.map_cons, List.nodup_cons] at nd
    rcases List.mem_cons.mp h with e | e
    · subst e
      unfold aKv
      rw [List.map_cons, valV_pos rfl]
    · have q := aKv_some (As := As) nd.2 e
      have ne : p.1 ≠ z := fun y => nd.1 (by rw [y]; exact List.mem_map.mpr ⟨_, e, rfl⟩)
      unfold aKv at q ⊢
      rw [List.map_cons, valV_neg (fun y => ne (Sum.inl.inj y))]
      exact q
theorem aKv_put {As : List (Int × Addr)} {z : Int} {a : Addr} (h : z ∉ As.map (·.1)) : putK (aKv As) (Sum.inl z) (.ref a) = aKv (As ++ [(z, a)]) := by
  unfold putK
  rw [if_neg]
  · unfold aKv
    rw [List.map_append]
    rfl
  · intro g
    rw [List.any_eq_true] at g
    obtain ⟨kv, h1, h2⟩ := g
    unfold aKv at h1
    rw [List.mem_map] at h1
    obtain ⟨p, hp, rfl⟩ := h1
    exact h (List.mem_map.mpr ⟨p, hp, Sum.inl.inj (of_decide_eq_true h2)⟩)
theorem aKv_len (As : List (Int × Addr)) : (aKv As).length = As.length := by unfold aKv; rw [List.length_map]
theorem aKv_cases (As : List (Int × Addr)) (z : Int) (nd : (As.map (·.1)).Nodup) : (z ∉ As.map (·.1) ∧ valV (aKv As) (Sum.inl z) = none) ∨ ∃ a, (z, a) ∈ As ∧ valV (aKv As) (Sum.inl z) = some (.ref a) := by
  by_cases h : z ∈ As.map (·.1)
  · obtain ⟨p, hp, rfl⟩ := List.mem_map.mp h
    exact .inr ⟨p.2, hp, aKv_some nd hp⟩
  · exact .inl ⟨h, aKv_none h⟩
/-- a dict of lists of (place, number) -/
structure Aro (H : Hp) (D : Addr) (As : List (Int × Addr)) (N : Int → List Nu) : Prop where
  at' : H D = some (.dK (aKv As))
  nd : (As.map (·.1)).Nodup
  nd2 : (As.map (·.2)).Nodup
  each : ∀ p ∈ As, ∃ vs, H p.2 = some (.lst vs) ∧ Paired (NuV H) vs (N p.1)
  no : ∀ q, q ∉ As.map (·.1) → N q = []
theorem Aro.same {H H' : Hp} {D : Addr} {As : List (Int × Addr)} {N : Int → List Nu} (h : Aro H D As N) (s : Same H H') : Aro H' D As N :=
  ⟨s _ _ h.at', h.nd, h.nd2, fun p hp => by
    obtain ⟨vs, h1, h2⟩ := h.each p hp
    exact ⟨vs, s _ _ h1, nus_tk (Same.tk s) h2⟩, h.no⟩
theorem Aro.out {H : Hp} {D : Addr} {As : List (Int × Addr)} {N : Int → List Nu} (h : Aro H D As N) {p : Int × Addr} (hp : p ∈ As) : p.2 ≠ D := by
  obtain ⟨vs, h1, _⟩ := h.each p hp
  exact ne_of h1 h.at' (by intro z; cases z)
/-- a place more, with nothing yet -/
theorem Aro.more {H : Hp} {D a : Addr} {As : List (Int × Addr)} {N : Int → List Nu} {z : Int} (h : Aro H D As N) (hz : z ∉ As.map (·.1)) (ha : H a = some (.lst [])) (hn : a ∉ As.map (·.2)) : Aro (upd H D (.dK (aKv (As ++ [(z, a)])))) D (As ++ [(z, a)]) N := by
  have haD : a ≠ D := ne_of ha h.at' (by intro z; cases z)
  have k : Tk H (upd H D (.dK (aKv (As ++ [(z, a)])))) := fun b xs e => by
    rw [upd_ne (ne_of e h.at' (by intro z; cases z))]
    exact e
  refine ⟨upd_same, ?_, ?_, fun p hp => ?_, fun q hq => ?_⟩
  · rw [List.map_append, List.nodup_append]
    refine ⟨h.nd, by simp, fun x hx y hy e => ?_⟩
    simp only [List.map_cons, List.map_nil, List.mem_singleton] at hy
    subst hy
    subst e
    exact hz hx
  · rw [List.map_append, List.nodup_append]
    refine ⟨h.nd2, by simp, fun x hx y hy e => ?_⟩
    simp only [List.map_cons, List.map_nil, List.mem_singleton] at hy
    subst hy
    subst e
    exact hn hx
  · rcases List.mem_append.mp hp with hp | hp
    · obtain ⟨vs, h1, h2⟩ := h.each p hp
      exact ⟨vs, by rw [upd_ne (h.out hp)]; exact h1, nus_tk k h2⟩
    · rw [List.mem_singleton] at hp
      subst hp
      refine ⟨[], by rw [upd_ne haD]; exact ha, ?_⟩
      rw [show N (z, a).1 = [] from h.no z hz]
      exact .nil
  · rw [List.map_append, List.mem_append, not_or] at hq
    exact h.no q hq.1
theorem Aro.put {H : Hp} {D a c : Addr} {As : List (Int × Addr)} {N : Int → List Nu} {z : Int} {vs : List V} {q : Nu} (h : Aro H D As N) (hz : (z, a) ∈ As) (hv : H a = some (.lst vs)) (hc : NuV H (.ref c) q) : Aro (upd H a (.lst (vs ++ [.ref c]))) D As (fun p => N p ++ if p = z then [q] else []) := by
  have k : Tk H (upd H a (.lst (vs ++ [.ref c]))) := tk_lst hv
  refine ⟨by rw [upd_ne (Ne.symm (h.out hz))]; exact h.at', h.nd, h.nd2, fun p hp => ?_, fun y hy => ?_⟩
  · obtain ⟨us, h1, h2⟩ := h.each p hp
    by_cases e : p.1 = z
    · have e2 : p.2 = a := by
        obtain ⟨i, hi, rfl⟩ := List.getElem_of_mem hp
        obtain ⟨j, hj, ej⟩ := List.getElem_of_mem hz
        have w : i = j := by
          have e3 : (As.map (·.1))[i]? = (As.map (·.1))[j]? := by
            rw [List.getElem?_map, List.getElem?_map, List.getElem?_eq_getElem hi, List.getElem?_eq_getElem hj, ej]
            exact congrArg some e
          exact (List.getElem?_inj (by rw [List.length_map]; exact hi) h.nd).mp e3
        subst w
        rw [ej]
      rw [e2] at h1 ⊢
      rw [hv] at h1
      cases h1
      refine ⟨_, upd_same, ?_⟩
      rw [if_pos e]
      exact Paired.snoc (nus_tk k h2) (hc.tk k)
    · have e2 : p.2 ≠ a := fun y => e (by
        obtain ⟨i, hi, rfl⟩ := List.getElem_of_mem hp
        obtain ⟨j, hj, ej⟩ := List.getElem_of_mem hz
        have w : i = j := by
          have e3 : (As.map (·.2))[i]? = (As.map (·.2))[j]? := by
            rw [List.getElem?_map, List.getElem?_map, List.getElem?_eq_getElem hi, List.getElem?_eq_getElem hj, ej]
            exact congrArg some y
          exact (List.getElem?_inj (by rw [List.length_map]; exact hi) h.nd2).mp e3
        subst w
        rw [ej])
      refine ⟨us, by rw [upd_ne e2]; exact h1, ?_⟩
      rw [if_neg e, List.append_nil]
      exact nus_tk k h2
  · have ne : y ≠ z := fun e => hy (by rw [e]; exact List.mem_map.mpr ⟨_, hz, rfl⟩)
    rw [h.no y hy, if_neg ne]
    rfl
def AroAt (H : Hp) (v : V) (N : Int → List Nu) : Prop := ∃ D As, v = .ref D ∧ Aro H D As N
def spAround : Sp := fun vs H Q _ => ∃ (v : V) (b : Addr) (n : Int) (ts : List Tie) (ns : List Int), vs = [v, .ref b] ∧ WebAt H v n ts ∧ ts.length ≤ 300 ∧ H b = some (.lst (ns.map V.int)) ∧ ns.length ≤ 300 ∧ (∀ m ∈ ns, 0 ≤ m ∧ m < (ts.length : Int)) ∧
  ∀ u H', Same H H' → AroAt H' u (nN ts ns) → Q u H'
section
variable {P : Program} {w : World} {K : PySem.W.Frag} {mg : Str → Option Value} {base : Heap}
theorem ok_ties_around {f : Addr} {fd : FuncData} (F : Fun K "ties_around" "ties_around" s_ties_around f fd) : FnOk P w K mg base CX0 1 f fd ["web", "numbers"] spAround := by
  refine F.ok sc_ties_around (fun vs H Q E h => ?_) (fun cdv A outer s H vs Q E hr h => ?_)
  · obtain ⟨v, b, n, ts, ns, rfl, _⟩ := h
    rfl
  · obtain ⟨v, b, n, ts, ns, rfl, ⟨wa, wb, us, rfl, hwa, hwb, hp⟩, few, hb, fewn, okn, q⟩ := h
    refine ⟨_, (pss_cons (ps_set (i := 2) sc_ties_around.nd rfl (.inl rfl) pe_dnewK)
      (pss_cons (ps_for PassesOwn.never rfl (pi_list (pv 1)) (pg_name (i := 3) sc_ties_around.nd rfl (.inl rfl))
        (pss_cons (ps_asg (pe_ix ix_tup (pe_ix ix_tup (pv 0) pe_int (fun _ _ => rfl)) (pv 3) (fun _ _ => rfl)) (pg_tup rfl (pgs_cons (pg_name (i := 4) sc_ties_around.nd rfl (.inl rfl)) (pgs_cons (pg_name (i := 5) sc_ties_around.nd rfl (.inl rfl)) (pgs_cons (pg_name (i := 6) sc_ties_around.nd rfl (.inl rfl)) pgs_nil)))))
        (Evl.pss_cut (ps_expr (pe_bm PySem.F.plainAttrs_list PySem.F.slot_list_append PySem.F.type_list_append mt_append (pe_dsetd (pv 2) (pv 4) (pe_lst pa_nil) ⟨rfl, rfl, rfl, rfl⟩) (pa_cons (pe_tup (pa_cons (pv 5) (pa_cons (pv 3) pa_nil))) pa_nil)))
        (pss_one (ps_expr (pe_bm PySem.F.plainAttrs_list PySem.F.slot_list_append PySem.F.type_list_append mt_append (pe_dsetd (pv 2) (pv 5) (pe_lst pa_nil) ⟨rfl, rfl, rfl, rfl⟩) (pa_cons (pe_tup (pa_cons (pv 4) (pa_cons (pv 3) pa_nil))) pa_nil)))))))
      (pss_one (ps_ret (pv 2))))), ?_⟩
    have hlen : us.length = ts.length := Paired.length hp
    refine fun D nD => ⟨.ref b, rfl, b, rfl, ⟨_, SqL.of (same_new nD _ _ hb)⟩, ?_⟩
    -- a tie's one end
    have put : ∀ {H1 : Hp} {As : List (Int × Addr)} {N : Int → List Nu} {x y m : Int} (k : Hp → Prop), Same H H1 → Aro H1 D As N → (∀ p ∈ As, H p.2 = none) → As.length ≤ 900 → (∀ z, (N z).length ≤ 900) →
        (∀ H2 As2, Same H H2 → Aro H2 D As2 (fun p => N p ++ if p = x then [(y, m)] else []) → (∀ p ∈ As2, H p.2 = none) → As2.length ≤ As.length + 1 → k H2) →
        ∀ e, H1 e = none → ∃ (kvs : List (Key × V)) (kk : Key), (upd H1 e (.lst [])) D = some (.dK kvs) ∧ V.int x = kV kk ∧ kvs.length < sizeLine ∧ (∀ v, valV kvs kk = some v → (tyV K "list" v (upd H1 e (.lst [])) ∧ (2 ≤ sizeLine ∧ ∀ p, (upd H1 e (.lst [])) p = none → ∃ l xs z, v = .ref l ∧ [V.ref p] = [z] ∧ (upd (upd H1 e (.lst [])) p (.tup [.int y, .int m])) l = some (.lst xs) ∧ xs.length < sizeLine ∧ k (upd (upd (upd H1 e (.lst [])) p (.tup [.int y, .int m])) l (.lst (xs ++ [z])))))) ∧
          (valV kvs kk = none → (tyV K "list" (.ref e) (upd (upd H1 e (.lst [])) D (.dK (putK kvs kk (.ref e)))) ∧ (2 ≤ sizeLine ∧ ∀ p, (upd (upd H1 e (.lst [])) D (.dK (putK kvs kk (.ref e)))) p = none → ∃ l xs z, V.ref e = .ref l ∧ [V.ref p] = [z] ∧ (upd (upd (upd H1 e (.lst [])) D (.dK (putK kvs kk (.ref e)))) p (.tup [.int y, .int m])) l = some (.lst xs) ∧ xs.length < sizeLine ∧ k (upd (upd (upd (upd H1 e (.lst [])) D (.dK (putK kvs kk (.ref e)))) p (.tup [.int y, .int m])) l (.lst (xs ++ [z])))))) := by
      intro H1 As N x y m k s1 hA hf la ln fin e ne
      have sE := same_new (o := .lst []) ne
      have A1 := hA.same sE
      have ne0 : H e = none := s1.free ne
      have heA : e ∉ As.map (·.2) := fun z => by
        obtain ⟨p, hp, ep⟩ := List.mem_map.mp z
        obtain ⟨vs, h1, _⟩ := hA.each p hp
        rw [ep, ne] at h1
        cases h1
      have nD1 : H1 D = some (.dK (aKv As)) := hA.at'
      have heD : e ≠ D := (ne_of_none nD1 ne).symm
      refine ⟨aKv As, Sum.inl x, A1.at', rfl, by rw [aKv_len]; exact small1000 (by omega), fun v hv => ?_, fun hv => ?_⟩
      · rcases aKv_cases As x hA.nd with ⟨_, h⟩ | ⟨a, ha, h⟩
        · rw [h] at hv; cases hv
        · rw [h] at hv
          cases hv
          obtain ⟨vs, g1, g2⟩ := A1.each _ ha
          refine ⟨.inl ⟨rfl, _, SqL.of g1⟩, by decide, fun p np => ⟨a, vs, .ref p, rfl, rfl, same_new np _ _ g1, ?_, ?_⟩⟩
          · have : (N (x, a).1).length ≤ 900 := ln x
            rw [Paired.length g2]
            exact small1000 (by omega)
          · have sP := same_new (o := .tup [.int y, .int m]) np
            have A2 := A1.same sP
            refine fin _ As (Same.mut (s1.trans (sE.trans sP)) (hf _ ha)) (A2.put ha (sP _ _ g1) ⟨p, rfl, upd_same⟩) hf (Nat.le_succ _)
      · rcases aKv_cases As x hA.nd with ⟨hx, _⟩ | ⟨a, ha, h⟩
        · rw [aKv_put hx]
          have A2 := A1.more hx upd_same heA
          have hE : (upd (upd H1 e (.lst [])) D (.dK (aKv (As ++ [(x, e)])))) e = some (.lst []) := by rw [upd_ne heD]; exact upd_same
          refine ⟨.inl ⟨rfl, _, SqL.of hE⟩, by decide, fun p np => ⟨e, [], .ref p, rfl, rfl, same_new np _ _ hE, by decide, ?_⟩⟩
          have sP := same_new (o := .tup [.int y, .int m]) np
          have A3 := A2.same sP
          have nD0 : H D = none := nD
          refine fin _ (As ++ [(x, e)]) (Same.mut ((Same.mut (s1.trans sE) nD0).trans sP) ne0) (A3.put (List.mem_append_right _ (by simp)) (sP _ _ hE) ⟨p, rfl, upd_same⟩) (fun p hp => ?_) (by rw [List.length_append]; exact Nat.le_refl _)
          rcases List.mem_append.mp hp with h | h
          · exact hf p h
          · rw [List.mem_singleton.mp h]
            exact ne0
        · rw [h] at hv; cases hv
    refine for_list (xs := ns.map V.int) (fun i σ' H' => ∃ (y3 y4 y5 y6 : Option V) (As : List (Int × Addr)), σ' = [some (.ref wa), some (.ref b), some (.ref D), y3, y4, y5, y6] ∧ Aro H' D As (nN ts (ns.take i)) ∧ (∀ p ∈ As, H p.2 = none) ∧ As.length ≤ 2 * i ∧ Same H H') ⟨none, none, none, none, [], rfl, ⟨upd_same, List.nodup_nil, List.nodup_nil, fun p hp => by simp at hp, fun q _ => rfl⟩, fun p hp => by simp at hp, Nat.le_refl _, same_new nD⟩ (fun i σ' H' _ h => by
      obtain ⟨_, _, _, _, _, _, _, _, _, s⟩ := h
      exact SqL.of (s _ _ hb)) ?_ ?_
    · rintro i x σ' H1 ex ⟨y3, y4, y5, y6, As, rfl, hA, hf, la, s1⟩
      rw [List.getElem?_map] at ex
      obtain ⟨m, em, rfl⟩ := Option.map_eq_some_iff.mp ex
      have hi : i < ns.length := (List.getElem?_eq_some_iff.mp em).1
      have om := okn m (List.mem_of_getElem? em)
      obtain ⟨vv, e1, e2⟩ := getI (xs := us) om.1 (by omega)
      obtain ⟨t, et, c, rfl, hc⟩ := Paired.at hp e2
      have etn := tieN_of et
      refine ⟨.ref wa, rfl, wa, _, 1, .ref wb, rfl, rfl, SqT.of (s1 _ _ hwa), rfl, .int m, rfl, wb, us, m, .ref c, rfl, rfl, SqT.of (s1 _ _ hwb), e1, c, _, rfl, SqT.of (s1 _ _ hc), rfl, _, _, rfl, _, _, rfl, _, _, rfl, rfl, ?_⟩
      have lN : ∀ z, (nN ts (ns.take i) z).length ≤ 600 := fun z => by
        have := nN_len ts (ns.take i) z
        rw [List.length_take] at this
        omega
      refine ⟨fun σ' H' => ∃ As, σ' = [some (.ref wa), some (.ref b), some (.ref D), some (.int m), some (.int t.one), some (.int t.other), some (.str (kindS t.foe))] ∧ Aro H' D As (fun p => nN ts (ns.take i) p ++ if p = t.one then [(t.other, m)] else []) ∧ (∀ p ∈ As, H p.2 = none) ∧ As.length ≤ 2 * i + 1 ∧ Same H H', ?_, ?_⟩
      · refine ⟨.ref D, rfl, D, rfl, .inl ⟨_, .inl hA.at'⟩, .int t.one, rfl, Nat.zero_le _, fun e ne => ?_⟩
        obtain ⟨kvs, kk, w1, w2, w3, w4, w5⟩ := put (x := t.one) (y := t.other) (m := m) (fun H' => ∃ As, [some (V.ref wa), some (.ref b), some (.ref D), some (.int m), some (.int t.one), some (.int t.other), some (.str (kindS t.foe))] = [some (V.ref wa), some (.ref b), some (.ref D), some (.int m), some (.int t.one), some (.int t.other), some (.str (kindS t.foe))] ∧ Aro H' D As (fun p => nN ts (ns.take i) p ++ if p = t.one then [(t.other, m)] else []) ∧ (∀ p ∈ As, H p.2 = none) ∧ As.length ≤ 2 * i + 1 ∧ Same H H') s1 hA hf (by omega) (fun z => by have := lN z; omega) (fun H2 As2 s2 h2 f2 l2 => ⟨As2, rfl, h2, f2, by omega, s2⟩) e ne
        exact ⟨kvs, kk, w1, w2, w3, fun v hv => ⟨(w4 v hv).1, .int t.other, rfl, .int m, rfl, (w4 v hv).2⟩, fun hv => ⟨(w5 hv).1, .int t.other, rfl, .int m, rfl, (w5 hv).2⟩⟩
      · rintro σ' H2 ⟨As2, rfl, hA2, hf2, la2, s2⟩
        refine ⟨.ref D, rfl, D, rfl, .inl ⟨_, .inl hA2.at'⟩, .int t.other, rfl, Nat.zero_le _, fun e ne => ?_⟩
        have q1 : ∀ z, ((fun p => nN ts (ns.take i) p ++ if p = t.one then [(t.other, m)] else []) z).length ≤ 900 := fun z => by
          have := lN z
          rw [List.length_append]
          split <;> simp only [List.length_cons, List.length_nil] <;> omega
        have q2 : ∀ H3 As3, Same H H3 → Aro H3 D As3 (fun p => (nN ts (ns.take i) p ++ if p = t.one then [(t.other, m)] else []) ++ if p = t.other then [(t.one, m)] else []) → (∀ p ∈ As3, H p.2 = none) → As3.length ≤ As2.length + 1 → (fun H' => ∃ (y3 y4 y5 y6 : Option V) (As : List (Int × Addr)), [some (V.ref wa), some (.ref b), some (.ref D), some (.int m), some (.int t.one), some (.int t.other), some (.str (kindS t.foe))] = [some (.ref wa), some (.ref b), some (.ref D), y3, y4, y5, y6] ∧ Aro H' D As (nN ts (ns.take (i + 1))) ∧ (∀ p ∈ As, H p.2 = none) ∧ As.length ≤ 2 * (i + 1) ∧ Same H H') H3 := fun H3 As3 s3 h3 f3 l3 => by
          refine ⟨_, _, _, _, As3, rfl, ?_, f3, by omega, s3⟩
          have eN : nN ts (ns.take (i + 1)) = fun p => (nN ts (ns.take i) p ++ if p = t.one then [(t.other, m)] else []) ++ if p = t.other then [(t.one, m)] else [] := by
            funext p
            rw [take_snoc em, nN_snoc]
            unfold n1
            rw [etn, List.append_assoc]
          rw [eN]
          exact h3
        obtain ⟨kvs, kk, w1, w2, w3, w4, w5⟩ := put (x := t.other) (y := t.one) (m := m) (fun H' => ∃ (y3 y4 y5 y6 : Option V) (As : List (Int × Addr)), [some (V.ref wa), some (.ref b), some (.ref D), some (.int m), some (.int t.one), some (.int t.other), some (.str (kindS t.foe))] = [some (.ref wa), some (.ref b), some (.ref D), y3, y4, y5, y6] ∧ Aro H' D As (nN ts (ns.take (i + 1))) ∧ (∀ p ∈ As, H p.2 = none) ∧ As.length ≤ 2 * (i + 1) ∧ Same H H') s2 hA2 hf2 (by omega) q1 q2 e ne
        exact ⟨kvs, kk, w1, w2, w3, fun v hv => ⟨(w4 v hv).1, .int t.one, rfl, .int m, rfl, (w4 v hv).2⟩, fun hv => ⟨(w5 hv).1, .int t.one, rfl, .int m, rfl, (w5 hv).2⟩⟩
    · rintro σ' H1 ⟨y3, y4, y5, y6, As, rfl, hA, hf, la, s1⟩
      rw [List.length_map, List.take_length] at hA
      exact ⟨.ref D, rfl, q _ _ s1 ⟨D, As, rfl, hA⟩⟩
end
/-! ### ways: what is walked, level by level (mathematics) -/
abbrev We := Int × Nat × Option (Int × Int)
def weL (e : We) : List V := match e.2.2 with
  | none => [.int (e.2.1 : Nat), .non, .non]
  | some f => [.int (e.2.1 : Nat), .int f.1, .int f.2]
/-- the walk, exactly, level by level -/
def stp (p : Int) (L : Nat) (st : List We × List Int) (q : Nu) : List We × List Int := if q.1 ∈ st.1.map (·.1) then st else (st.1 ++ [(q.1, L + 1, some (p, q.2))], st.2 ++ [q.1])
def lvl (N : Int → List Nu) (L : Nat) (st : List We × List Int) : List We × List Int := st.2.foldl (fun st p => (N p).foldl (stp p L) st) (st.1, [])
def Bst (N : Int → List Nu) (s : Int) : Nat → List We × List Int
  | 0 => ([(s, 0, none)], [s])
  | L + 1 => lvl N L (Bst N s L)
def Wlk (N : Int → List Nu) (s : Int) (ws : List We) : Prop := ∃ L, Bst N s L = (ws, [])
theorem Bst.stay {N : Int → List Nu} {s : Int} {ws : List We} {L : Nat} (h : Bst N s L = (ws, [])) : ∀ k, Bst N s (L + k) = (ws, [])
  | 0 => h
  | k + 1 => by
    show lvl N (L + k) (Bst N s (L + k)) = _
    rw [Bst.stay h k]
    rfl
theorem Wlk.one {N : Int → List Nu} {s : Int} {ws ws' : List We} (a : Wlk N s ws) (b : Wlk N s ws') : ws = ws' := by
  obtain ⟨L, h⟩ := a
  obtain ⟨L', h'⟩ := b
  rcases Nat.le_total L L' with e | e
  · obtain ⟨k, rfl⟩ := Nat.exists_eq_add_of_le e
    rw [Bst.stay h k] at h'
    exact (Prod.mk.inj h').1
  · obtain ⟨k, rfl⟩ := Nat.exists_eq_add_of_le e
    rw [Bst.stay h' k] at h
    exact (Prod.mk.inj h).1.symm
structure WF (N : Int → List Nu) (s : Int) (ws : List We) : Prop where
  nd : (ws.map (·.1)).Nodup
  root : (s, 0, none) ∈ ws
  non : ∀ y k, (y, k, none) ∈ ws → y = s ∧ k = 0
  par : ∀ y k p m, (y, k, some (p, m)) ∈ ws → ∃ j f, (p, j, f) ∈ ws ∧ k = j + 1 ∧ (y, m) ∈ N p
  cl : ∀ e ∈ ws, ∀ q ∈ N e.1, ∃ k f, (q.1, k, f) ∈ ws ∧ k ≤ e.2.1 + 1
  ex : Wlk N s ws
structure BF (N : Int → List Nu) (s : Int) (ws : List We) (L : Nat) (todo fol : List Int) : Prop where
  nd : (ws.map (·.1)).Nodup
  root : (s, 0, none) ∈ ws
  non : ∀ y k, (y, k, none) ∈ ws → y = s ∧ k = 0
  par : ∀ y k p m, (y, k, some (p, m)) ∈ ws → ∃ j f, (p, j, f) ∈ ws ∧ k = j + 1 ∧ (y, m) ∈ N p
  lv : ∀ e ∈ ws, e.2.1 ≤ L + 1
  td : ∀ x ∈ todo, ∃ f, (x, L, f) ∈ ws
  dn : ∀ e ∈ ws, e.2.1 ≤ L → e.1 ∈ todo ∨ ∀ q ∈ N e.1, ∃ k f, (q.1, k, f) ∈ ws ∧ k ≤ e.2.1 + 1
  f1 : ∀ x ∈ fol, ∃ f, (x, L + 1, f) ∈ ws
  f2 : ∀ e ∈ ws, e.2.1 = L + 1 → e.1 ∈ fol
  fl : fol.length ≤ ws.length
theorem we_one {ws : List We} (nd : (ws.map (·.1)).Nodup) {x : Int} {k j : Nat} {f g : Option (Int × Int)} (h : (x, k, f) ∈ ws) (h' : (x, j, g) ∈ ws) : k = j ∧ f = g := by
  induction ws with
  | nil => cases h
  | cons e ws ih =>
    rw [List.map_cons, List.nodup_cons] at nd
    rcases List.mem_cons.mp h with a | a <;> rcases List.mem_cons.mp h' with b | b
    · rw [← a] at b
      cases b
      exact ⟨rfl, rfl⟩
    · exact absurd (List.mem_map.mpr ⟨_, b, rfl⟩) (by rw [← a] at nd; exact nd.1)
    · exact absurd (List.mem_map.mpr ⟨_, a, rfl⟩) (by rw [← b] at nd; exact nd.1)
    · exact ih nd.2 a b
theorem we_key {ws : List We} {x : Int} (h : x ∈ ws.map (·.1)) : ∃ k f, (x, k, f) ∈ ws := by
  obtain ⟨⟨y, k, f⟩, he, e⟩ := List.mem_map.mp h
  have e : y = x := e
  subst e
  exact ⟨k, f, he⟩
theorem WF.rg {N : Int → List Nu} {s : Int} {ws : List We} {n : Int} (h : WF N s ws) (hs : 0 ≤ s ∧ s < n) (hN : ∀ x q, q ∈ N x → 0 ≤ q.1 ∧ q.1 < n) {x : Int} (hx : x ∈ ws.map (·.1)) : 0 ≤ x ∧ x < n := by
  obtain ⟨k, f, he⟩ := we_key hx
  cases f with
  | none =>
    rw [(h.non _ _ he).1]
    exact hs
  | some pm =>
    obtain ⟨p, m⟩ := pm
    obtain ⟨j, g, _, _, hm⟩ := h.par _ _ _ _ he
    exact hN p _ hm
theorem BF.rg {N : Int → List Nu} {s : Int} {ws : List We} {L : Nat} {todo fol : List Int} {n : Int} (h : BF N s ws L todo fol) (hs : 0 ≤ s ∧ s < n) (hN : ∀ x q, q ∈ N x → 0 ≤ q.1 ∧ q.1 < n) (x : Int) (hx : x ∈ ws.map (·.1)) : 0 ≤ x ∧ x < n := by
  obtain ⟨k, f, he⟩ := we_key hx
  cases f with
  | none =>
    rw [(h.non _ _ he).1]
    exact hs
  | some pm =>
    obtain ⟨p, m⟩ := pm
    obtain ⟨j, g, _, _, hm⟩ := h.par _ _ _ _ he
    exact hN p _ hm
theorem BF.few {N : Int → List Nu} {s : Int} {ws : List We} {L : Nat} {todo fol : List Int} {n : Nat} (h : BF N s ws L todo fol) (hs : 0 ≤ s ∧ s < n) (hN : ∀ x q, q ∈ N x → 0 ≤ q.1 ∧ q.1 < n) : ws.length ≤ n := by
  have := pigeon n _ h.nd (h.rg hs hN)
  rw [List.length_map] at this
  exact this
theorem BF.start (N : Int → List Nu) (s : Int) : BF N s [(s, 0, none)] 0 [s] [] :=
  ⟨by simp, by simp, fun y k h => by simp at h; exact ⟨h.1, h.2⟩, fun y k p m h => by simp at h, fun e h => by rw [List.mem_singleton.mp h]; simp, fun x h => ⟨none, by rw [List.mem_singleton.mp h]; simp⟩, fun e h _ => .inl (by rw [List.mem_singleton.mp h]; simp), fun x h => by simp at h, fun e h z => by rw [List.mem_singleton.mp h] at z; simp at z, by simp⟩
theorem BF.stop {N : Int → List Nu} {s : Int} {ws : List We} {L : Nat} (h : BF N s ws L [] []) (hx : Wlk N s ws) : WF N s ws :=
  ⟨h.nd, h.root, h.non, h.par, fun e he => by
    have h1 := h.lv e he
    have h2 : e.2.1 ≤ L := by
      by_cases z : e.2.1 = L + 1
      · exact absurd (h.f2 e he z) (by simp)
      · omega
    exact (h.dn e he h2).resolve_left (by simp), hx⟩
theorem BF.next {N : Int → List Nu} {s : Int} {ws : List We} {L : Nat} {fol : List Int} (h : BF N s ws L [] fol) : BF N s ws (L + 1) fol [] :=
  ⟨h.nd, h.root, h.non, h.par, fun e he => by have := h.lv e he; omega, h.f1, fun e he hl => by
    by_cases z : e.2.1 = L + 1
    · exact .inl (h.f2 e he z)
    · exact .inr ((h.dn e he (by omega)).resolve_left (by simp)), fun x hx => by simp at hx, fun e he z => by have := h.lv e he; omega, by simp⟩
theorem BF.push {N : Int → List Nu} {s p y m : Int} {ws : List We} {L : Nat} {todo fol : List Int} {f : Option (Int × Int)} (h : BF N s ws L todo fol) (hp : (p, L, f) ∈ ws) (hm : (y, m) ∈ N p) (hy : y ∉ ws.map (·.1)) : BF N s (ws ++ [(y, L + 1, some (p, m))]) L todo (fol ++ [y]) := by
  have sub : ∀ {e : We}, e ∈ ws → e ∈ ws ++ [(y, L + 1, some (p, m))] := fun he => List.mem_append_left _ he
  have cs : ∀ {e : We}, e ∈ ws ++ [(y, L + 1, some (p, m))] → e ∈ ws ∨ e = (y, L + 1, some (p, m)) := fun he => by
    rcases List.mem_append.mp he with z | z
    · exact .inl z
    · exact .inr (List.mem_singleton.mp z)
  refine ⟨?_, sub h.root, fun z k hz => ?_, fun z k p' m' hz => ?_, fun e he => ?_, fun x hx => ?_, fun e he hl => ?_, fun x hx => ?_, fun e he z => ?_, ?_⟩
  · rw [List.map_append, List.nodup_append]
    refine ⟨h.nd, by simp, fun x hx z hz e => ?_⟩
    have : z = y := by simpa using hz
    subst this
    subst e
    exact hy hx
  · rcases cs hz with z1 | z1
    · exact h.non _ _ z1
    · cases z1
  · rcases cs hz with z1 | z1
    · obtain ⟨j, g, h1, h2, h3⟩ := h.par _ _ _ _ z1
      exact ⟨j, g, sub h1, h2, h3⟩
    · cases z1
      exact ⟨L, f, sub hp, rfl, hm⟩
  · rcases cs he with z1 | z1
    · exact h.lv e z1
    · rw [z1]
      exact Nat.le_refl _
  · obtain ⟨g, hg⟩ := h.td x hx
    exact ⟨g, sub hg⟩
  · rcases cs he with z1 | z1
    · rcases h.dn e z1 hl with a | a
      · exact .inl a
      · refine .inr fun q hq => ?_
        obtain ⟨k, g, h1, h2⟩ := a q hq
        exact ⟨k, g, sub h1, h2⟩
    · rw [z1] at hl
      simp at hl
      omega
  · rcases List.mem_append.mp hx with z | z
    · obtain ⟨g, hg⟩ := h.f1 x z
      exact ⟨g, sub hg⟩
    · rw [List.mem_singleton.mp z]
      exact ⟨some (p, m), List.mem_append_right _ (by simp)⟩
  · rcases cs he with z1 | z1
    · exact List.mem_append_left _ (h.f2 e z1 z)
    · rw [z1]
      exact List.mem_append_right _ (by simp)
  · rw [List.length_append, List.length_append]
    have := h.fl
    simp
    omega
theorem BF.done {N : Int → List Nu} {s p : Int} {ws : List We} {L : Nat} {todo fol : List Int} {f : Option (Int × Int)} (h : BF N s ws L (p :: todo) fol) (hp : (p, L, f) ∈ ws) (hd : ∀ q ∈ N p, ∃ k f, (q.1, k, f) ∈ ws ∧ k ≤ L + 1) : BF N s ws L todo fol :=
  ⟨h.nd, h.root, h.non, h.par, h.lv, fun x hx => h.td x (List.mem_cons_of_mem _ hx), fun e he hl => by
    rcases h.dn e he hl with a | a
    · rcases List.mem_cons.mp a with b | b
      · obtain ⟨x, k, g⟩ := e
        have b : x = p := b
        subst b
        have := (we_one h.nd he hp).1
        subst this
        exact .inr hd
      · exact .inl b
    · exact .inr a, h.f1, h.f2, h.fl⟩
/-! ### as it lies in the heap -/
def WeV (H : Hp) (kv : Key × V) (e : We) : Prop := kv.1 = Sum.inl e.1 ∧ ∃ a, kv.2 = .ref a ∧ H a = some (.tup (weL e))
theorem WeV.tk {H H' : Hp} (k : Tk H H') {kv : Key × V} {e : We} (h : WeV H kv e) : WeV H' kv e := by
  obtain ⟨h1, a, h2, h3⟩ := h
  exact ⟨h1, a, h2, k _ _ h3⟩
theorem wes_tk {H H' : Hp} (k : Tk H H') {kvs : List (Key × V)} {ws : List We} (h : Paired (WeV H) kvs ws) : Paired (WeV H') kvs ws := Paired.mono (fun _ _ x => x.tk k) h
theorem wes_none {H : Hp} {x : Int} : ∀ {kvs : List (Key × V)} {ws : List We}, Paired (WeV H) kvs ws → x ∉ ws.map (·.1) → valV kvs (Sum.inl x) = none
  | _, _, .nil, _ => rfl
  | kv :: kvs, e :: ws, .cons h t, hx => by
    rw [List.map_cons, List.mem_cons, not_or] at hx
    obtain ⟨k, v⟩ := kv
    have h1 : k = Sum.inl e.1 := h.1
    rw [valV_neg (fun z => hx.1 (by rw [h1] at z; exact (Sum.inl.inj z).symm))]
    exact wes_none t hx.2
theorem wes_some {H : Hp} {x : Int} {k : Nat} {f : Option (Int × Int)} : ∀ {kvs : List (Key × V)} {ws : List We}, Paired (WeV H) kvs ws → (ws.map (·.1)).Nodup → (x, k, f) ∈ ws → ∃ a, valV kvs (Sum.inl x) = some (.ref a) ∧ H a = some (.tup (weL (x, k, f)))
  | _, _, .nil, _, hx => by cases hx
  | kv :: kvs, e :: ws, .cons h t, nd, hx => by
    rw [List.map_cons, List.nodup_cons] at nd
    obtain ⟨k', v⟩ := kv
    have h1 : k' = Sum.inl e.1 := h.1
    obtain ⟨a, h2, h3⟩ := h.2
    have h2 : v = .ref a := h2
    rcases List.mem_cons.mp hx with z | z
    · subst z
      exact ⟨a, by rw [valV_pos h1, h2], h3⟩
    · have ne : e.1 ≠ x := fun y => nd.1 (by rw [y]; exact List.mem_map.mpr ⟨_, z, rfl⟩)
      rw [valV_neg (fun y => ne (by rw [h1] at y; exact Sum.inl.inj y))]
      exact wes_some t nd.2 z
theorem putK_new {k : Key} {v : V} : ∀ {kvs : List (Key × V)}, valV kvs k = none → putK kvs k v = kvs ++ [(k, v)] := fun {kvs} h => by
  unfold putK
  rw [if_neg]
  intro g
  rw [List.any_eq_true] at g
  obtain ⟨kv, h1, h2⟩ := g
  have h2 := of_decide_eq_true h2
  induction kvs with
  | nil => cases h1
  | cons x kvs ih =>
    obtain ⟨k', v'⟩ := x
    by_cases e : k' = k
    · rw [valV_pos e] at h
      cases h
    · rw [valV_neg e] at h
      rcases List.mem_cons.mp h1 with z | z
      · rw [z] at h2
        exact e h2
      · exact ih h z
def WalkAt (H : Hp) (D : Addr) (ws : List We) : Prop := ∃ kvs, H D = some (.dK kvs) ∧ Paired (WeV H) kvs ws
theorem WalkAt.same {H H' : Hp} {D : Addr} {ws : List We} (h : WalkAt H D ws) (s : Same H H') : WalkAt H' D ws := by
  obtain ⟨kvs, h1, h2⟩ := h
  exact ⟨kvs, s _ _ h1, wes_tk (Same.tk s) h2⟩
/-- a list or a tuple, walked -/
def iSeq (K : PySem.W.Frag) (tl : TE) : TI := fun σ H R => tl σ H fun x H1 => ∃ a, x = .ref a ∧ (((∃ xs, SqL K H1 a xs) ∧ R (Itl K a) H1) ∨ ((∃ xs, SqT K H1 a xs) ∧ R (Itt K a) H1))
theorem pi_seq {X : Cx} {tg l : Expr} {tl : TE} (hl : PE X l tl) : PI X tg l (iSeq X.K tl) := by
  refine ⟨fun pins s σ H R I h => ?_⟩
  refine thn (hl.run pins s σ H _ I h) fun v s1 ⟨x, H1, I1, r1, q1⟩ => ?_
  obtain ⟨a, e, q1⟩ := q1
  subst e
  cases r1
  rcases q1 with ⟨⟨xs, hq⟩, q⟩ | ⟨⟨xs, hq⟩, q⟩
  · obtain ⟨its, rv, p, hz⟩ := I1.list hq
    refine wpAny_pyIter_list p.isList ?_
    refine ⟨s1.heap.objs.size, [s1.heap.objs.size], _, _, H1, rfl, I1.kept (t' := s1.toks) fun b o e => Heap.get?_push_of_some _ e, turn_list a _, ⟨_, Heap.get?_push_size _ rfl, rfl, rfl⟩, fun b hb => ?_, q⟩
    have e : b = s1.heap.objs.size := by simpa using hb
    subst e
    exact I1.fpOk (Nat.le_refl _) (I1.hok.fresh (Nat.le_refl _))
  · obtain ⟨its, rv, p, hz⟩ := I1.tuple hq
    refine wpAny_pyIter_tuple (show s1.heap.IsTuple a its.toArray from p) ?_
    refine ⟨s1.heap.objs.size, [s1.heap.objs.size], _, _, H1, rfl, I1.kept (t' := s1.toks) fun b o e => Heap.get?_push_of_some _ e, turn_tuple a _, ⟨_, Heap.get?_push_size _ rfl, rfl, rfl⟩, fun b hb => ?_, q⟩
    have e : b = s1.heap.objs.size := by simpa using hb
    subst e
    exact I1.fpOk (Nat.le_refl _) (I1.hok.fresh (Nat.le_refl _))
def spWalkFrom : Sp := fun vs H Q _ => ∃ (u : V) (n : Nat) (s : Int) (N : Int → List Nu), vs = [.int s, u] ∧ AroAt H u N ∧ 0 ≤ s ∧ s < n ∧ n ≤ 100 ∧ (∀ x q, q ∈ N x → 0 ≤ q.1 ∧ q.1 < n) ∧ ∀ D ws H', Same H H' → WalkAt H' D ws → WF N s ws → ws.length ≤ n → Q (.ref D) H'
section
variable {P : Program} {w : World} {K : PySem.W.Frag} {mg : Str → Option Value} {base : Heap}
theorem ok_walk_from {f : Addr} {fd : FuncData} (F : Fun K "walk_from" "walk_from" s_walk_from f fd) : FnOk P w K mg base CX0 1 f fd ["start", "around"] spWalkFrom := by
  refine F.ok sc_walk_from (fun vs H Q E h => ?_) (fun cdv A outer sh H vs Q E hr h => ?_)
  · obtain ⟨u, n, s, N, rfl, _⟩ := h
    rfl
  · obtain ⟨u, n, s, N, rfl, ⟨U, As, rfl, hU⟩, s0, s1, n100, hN, q⟩ := h
    have hu := room1 hr
    refine ⟨_, (pss_cons (ps_set (i := 2) sc_walk_from.nd rfl (.inl rfl) (pe_disp (pps_cons (pv 0) (pe_tup (pa_cons pe_int (pa_cons pe_non (pa_cons pe_non pa_nil)))) pps_nil) (by rfl) (by rfl) (fun z => by cases z) (by decide)))
      (pss_cons (ps_set (i := 3) sc_walk_from.nd rfl (.inl rfl) (pe_lst (pa_cons (pv 0) pa_nil)))
      (pss_cons (ps_set (i := 4) sc_walk_from.nd rfl (.inl rfl) pe_int)
      (pss_cons (ps_while PassesOwn.never (pt_truth (pv 3) (by intro _; rfl))
        (pss_cons (ps_aug (i := 4) sc_walk_from.nd rfl (.inl rfl) pe_int ip_add)
        (pss_cons (ps_set (i := 5) sc_walk_from.nd rfl (.inl rfl) (pe_lst pa_nil))
        (pss_cons (ps_for PassesOwn.never rfl (pi_list (pv 3)) (pg_name (i := 6) sc_walk_from.nd rfl (.inl rfl))
          (pss_one (ps_for PassesOwn.never rfl (pi_seq (pe_dget2 hu (pv 1) (pv 6) (pe_tup pa_nil) ⟨rfl, rfl, rfl, rfl⟩)) (pg_tup rfl (pgs_cons (pg_name (i := 7) sc_walk_from.nd rfl (.inl rfl)) (pgs_cons (pg_name (i := 8) sc_walk_from.nd rfl (.inl rfl)) pgs_nil)))
            (pss_one (ps_if (pt_cmp (pc_dnotin hu (pv 7) (pv 2)))
              (pss_cons (ps_dput hu (pv 2) (pv 7) (pe_tup (pa_cons (pv 4) (pa_cons (pv 6) (pa_cons (pv 8) pa_nil)))) rfl)
              (pss_one (ps_expr (pe_bm PySem.F.plainAttrs_list PySem.F.slot_list_append PySem.F.type_list_append mt_append (pv 5) (pa_cons (pv 7) pa_nil)))))
              pss_nil)))))
        (pss_one (ps_set (i := 3) sc_walk_from.nd rfl (.inl rfl) (pv 5)))))))
      (pss_one (ps_ret (pv 2))))))), ?_⟩
    -- walk
    refine fun D nD => ⟨.int s, rfl, by show 3 ≤ sizeLine; decide, fun T nT => ?_⟩
    have hTD : T ≠ D := (ne_of_none upd_same nT).symm
    have nTH : H T = none := by rw [upd_ne hTD] at nT; exact nT
    refine ⟨by rw [upd_ne (Ne.symm hTD)]; exact upd_same, [(Sum.inl s, .ref T)], rfl, (by show 1 ≤ 15; decide), ?_⟩
    have hw0 : WalkAt (upd (upd (upd H D (.dK [])) T (.tup [.int 0, .non, .non])) D (.dK (mergeK [] [(Sum.inl s, .ref T)]))) D [(s, 0, none)] := ⟨_, upd_same, .cons ⟨rfl, T, rfl, by rw [upd_ne hTD]; exact upd_same⟩ .nil⟩
    have s2 : Same H (upd (upd (upd H D (.dK [])) T (.tup [.int 0, .non, .non])) D (.dK (mergeK [] [(Sum.inl s, .ref T)]))) := Same.mut (Same.mut (same_new nD) nTH) nD
    generalize upd (upd (upd H D (.dK [])) T (.tup [.int 0, .non, .non])) D (.dK (mergeK [] [(Sum.inl s, .ref T)])) = H2 at hw0 s2
    -- reached
    refine ⟨.int s, rfl, by show 1 ≤ sizeLine; decide, fun R0 nR0 => ?_⟩
    refine ⟨fun k σ' H' => ∃ (y5 y6 y7 y8 : Option V) (R : Addr) (ws : List We) (L : Nat) (todo : List Int), σ' = [some (.int s), some (.ref U), some (.ref D), some (.ref R), some (.int (L : Nat)), y5, y6, y7, y8] ∧ WalkAt H' D ws ∧ H' R = some (.lst (todo.map V.int)) ∧ Same H H' ∧ BF N s ws L todo [] ∧ Bst N s L = (ws, todo) ∧ k = 2 * (n - ws.length) + (if todo.isEmpty = true then 0 else 1), ⟨_, none, none, none, none, R0, [(s, 0, none)], 0, [s], rfl, hw0.same (same_new nR0), upd_same, s2.trans (same_new nR0), BF.start N s, rfl, rfl⟩, ?_⟩
    clear hw0 s2 nR0 nT hTD nTH
    rintro k σ' H1 ⟨y5, y6, y7, y8, R, ws, L, todo, rfl, hw, hR, s3, bf, hx, hk⟩
    refine ⟨.ref R, rfl, _, .inl ⟨_, SqL.of hR, rfl⟩, ?_⟩
    refine ite2 (fun hb => ?_) (fun hb => ?_)
    · have hne : todo.isEmpty = false := by
        cases todo with
        | nil => cases hb
        | cons a b => rfl
      rw [hne] at hk
      refine ⟨fun σ' H' => ∃ k', k' < k ∧ ∃ (y5 y6 y7 y8 : Option V) (R : Addr) (ws : List We) (L : Nat) (todo : List Int), σ' = [some (.int s), some (.ref U), some (.ref D), some (.ref R), some (.int (L : Nat)), y5, y6, y7, y8] ∧ WalkAt H' D ws ∧ H' R = some (.lst (todo.map V.int)) ∧ Same H H' ∧ BF N s ws L todo [] ∧ Bst N s L = (ws, todo) ∧ k' = 2 * (n - ws.length) + (if todo.isEmpty = true then 0 else 1), fun _ _ h => h, ?_⟩
      refine ⟨.int (L : Nat), rfl, L, 1, rfl, rfl, ?_⟩
      refine ⟨Nat.zero_le _, fun Fo nF => ?_⟩
      have hFD : Fo ≠ D := by
        obtain ⟨kvs, h1, _⟩ := hw
        exact (ne_of_none h1 nF).symm
      have hFR : Fo ≠ R := (ne_of_none hR nF).symm
      have nFH : H Fo = none := s3.free nF
      have few0 := bf.few ⟨s0, s1⟩ hN
      have hRs : (upd H1 Fo (.lst [])) R = some (.lst (todo.map V.int)) := same_new nF _ _ hR
      refine ⟨.ref R, rfl, R, rfl, ⟨_, SqL.of hRs⟩, ?_⟩
      refine for_list (xs := todo.map V.int) (fun i σ' H' => ∃ (y6 y7 y8 : Option V) (ws' : List We) (fol : List Int), σ' = [some (.int s), some (.ref U), some (.ref D), some (.ref R), some (.int ((L + 1 : Nat) : Int)), some (.ref Fo), y6, y7, y8] ∧ WalkAt H' D ws' ∧ H' R = some (.lst (todo.map V.int)) ∧ H' Fo = some (.lst (fol.map V.int)) ∧ Same H H' ∧ BF N s ws' L (todo.drop i) fol ∧ (todo.take i).foldl (fun st p => (N p).foldl (stp p L) st) (ws, []) = (ws', fol) ∧ ws'.length = ws.length + fol.length) ⟨y6, y7, y8, ws, [], rfl, hw.same (same_new nF), hRs, upd_same, s3.trans (same_new nF), bf, rfl, rfl⟩ (fun i σ' H' _ h => by
        obtain ⟨_, _, _, _, _, _, _, h, _⟩ := h
        exact SqL.of h) ?_ ?_
      · clear hw hR s3 hRs nF
        rintro i x σ' H2 ex ⟨y6, y7, y8, ws1, fol1, rfl, hw, hR, hF, s3, bf', hx1, hl⟩
        rw [List.getElem?_map] at ex
        obtain ⟨p, hp, rfl⟩ := Option.map_eq_some_iff.mp ex
        have hi := (List.getElem?_eq_some_iff.mp hp).1
        have ed : todo.drop i = p :: todo.drop (i + 1) := by
          rw [List.drop_eq_getElem_cons hi]
          congr 1
          exact (List.getElem?_eq_some_iff.mp hp).2
        rw [ed] at bf'
        obtain ⟨f0, hf0⟩ := bf'.td p (by simp)
        have hU3 := hU.same s3
        refine ⟨.ref U, rfl, U, rfl, .inl ⟨_, .inl hU3.at'⟩, .int p, rfl, Nat.zero_le _, fun t nt => ⟨_, DGet.k (k := Sum.inl p) (same_new nt _ _ hU3.at'), ?_⟩⟩
        have sT := same_new (o := .tup []) nt
        -- what holds along the neighbours
        let Jv : Nat → L2.St → Hp → Prop := fun j σ' H' => ∃ (y7 y8 : Option V) (ws' : List We) (fol : List Int), σ' = [some (.int s), some (.ref U), some (.ref D), some (.ref R), some (.int ((L + 1 : Nat) : Int)), some (.ref Fo), some (.int p), y7, y8] ∧ WalkAt H' D ws' ∧ H' R = some (.lst (todo.map V.int)) ∧ H' Fo = some (.lst (fol.map V.int)) ∧ Same H H' ∧ Tk H2 H' ∧ BF N s ws' L (p :: todo.drop (i + 1)) fol ∧ (p, L, f0) ∈ ws' ∧ (∀ q ∈ (N p).take j, q.1 ∈ ws'.map (·.1)) ∧ ((N p).take j).foldl (stp p L) (ws1, fol1) = (ws', fol) ∧ ws'.length = ws.length + fol.length
        have J0 : Jv 0 [some (.int s), some (.ref U), some (.ref D), some (.ref R), some (.int ((L + 1 : Nat) : Int)), some (.ref Fo), some (.int p), y7, y8] (upd H2 t (.tup [])) := ⟨y7, y8, ws1, fol1, rfl, hw.same sT, sT _ _ hR, sT _ _ hF, s3.trans sT, Same.tk sT, bf', hf0, fun q hq => by simp at hq, rfl, hl⟩
        have Jend : ∀ σ' H', Jv (N p).length σ' H' → ∃ (y6 y7 y8 : Option V) (ws' : List We) (fol : List Int), σ' = [some (.int s), some (.ref U), some (.ref D), some (.ref R), some (.int ((L + 1 : Nat) : Int)), some (.ref Fo), y6, y7, y8] ∧ WalkAt H' D ws' ∧ H' R = some (.lst (todo.map V.int)) ∧ H' Fo = some (.lst (fol.map V.int)) ∧ Same H H' ∧ BF N s ws' L (todo.drop (i + 1)) fol ∧ (todo.take (i + 1)).foldl (fun st p => (N p).foldl (stp p L) st) (ws, []) = (ws', fol) ∧ ws'.length = ws.length + fol.length := by
          rintro σ' H' ⟨y7, y8, ws', fol, rfl, h1, h2, h3, h4, _, h5, h6, h7, hx2, h8⟩
          rw [List.take_length] at h7 hx2
          refine ⟨_, _, _, ws', fol, rfl, h1, h2, h3, h4, h5.done h6 fun q hq => ?_, by rw [List.take_add_one, hp, List.foldl_append, hx1]; exact hx2, h8⟩
          obtain ⟨kk, ff, he⟩ := we_key (h7 q hq)
          exact ⟨kk, ff, he, h5.lv _ he⟩
        rcases aKv_cases As p hU.nd with ⟨hno, e⟩ | ⟨a, ha, e⟩
        · rw [e]
          have eN : N p = [] := hU.no p hno
          refine ⟨t, rfl, .inr ⟨⟨_, SqT.of upd_same⟩, ?_⟩⟩
          refine for_tup (xs := []) (fun j σ' H' => Jv j σ' H' ∧ H' t = some (.tup [])) ⟨J0, upd_same⟩ (fun j σ' H' _ h => SqT.of h.2) (fun j x σ' H' ex => by simp at ex) (fun σ' H' h => Jend σ' H' (by rw [eN]; exact h.1))
        · rw [e]
          obtain ⟨us, hus, hpu⟩ := hU.each _ ha
          refine ⟨a, rfl, .inl ⟨⟨_, SqL.of (sT _ _ (s3 _ _ hus))⟩, ?_⟩⟩
          have lu : us.length = (N p).length := Paired.length hpu
          refine for_list (xs := us) Jv J0 (fun j σ' H' _ h => by
            obtain ⟨_, _, _, _, _, _, _, _, h, _⟩ := h
            exact SqL.of (h _ _ hus)) ?_ (by rw [lu]; exact Jend)
          clear J0 Jend hw hR hF s3 bf' hl hf0 sT nt hU3 hx1
          rintro j x σ' H3 ex ⟨y7, y8, ws', fol, rfl, hw, hR, hF, s3, tk, bf', hf, hdn, hx2, hl⟩
          obtain ⟨⟨y, m⟩, eq, c, rfl, hc⟩ := Paired.at hpu ex
          have hm : (y, m) ∈ N p := List.mem_of_getElem? eq
          have few := bf'.few ⟨s0, s1⟩ hN
          have etk : (N p).take (j + 1) = (N p).take j ++ [(y, m)] := by
            rw [List.take_add_one, eq]
            rfl
          obtain ⟨kvs, hD, hkv⟩ := id hw
          have lkv : kvs.length = ws'.length := Paired.length hkv
          refine ⟨c, _, rfl, SqT.of (s3 _ _ hc), rfl, _, _, rfl, _, _, rfl, rfl, ?_⟩
          refine ⟨.int y, rfl, .ref D, rfl, D, _, rfl, DGet.k (k := Sum.inl y) hD, _, rfl, ?_⟩
          by_cases hy : y ∈ ws'.map (·.1)
          · obtain ⟨ky, fy, hey⟩ := we_key hy
            obtain ⟨ay, ev, _⟩ := wes_some hkv bf'.nd hey
            rw [ev]
            refine ⟨_, _, ws', fol, rfl, hw, hR, hF, s3, tk, bf', hf, fun q hq => ?_, by rw [etk, List.foldl_append, hx2]; show stp p L (ws', fol) (y, m) = _; unfold stp; rw [if_pos hy], hl⟩
            rw [etk] at hq
            rcases List.mem_append.mp hq with z | z
            · exact hdn q z
            · rw [List.mem_singleton.mp z]
              exact hy
          · have ev := wes_none hkv hy
            rw [ev]
            refine ⟨.int ((L + 1 : Nat) : Int), rfl, .int p, rfl, .int m, rfl, by show 3 ≤ sizeLine; decide, fun Z nZ => ?_⟩
            have sZ := same_new (o := .tup [.int ((L + 1 : Nat) : Int), .int p, .int m]) nZ
            have hZD : Z ≠ D := (ne_of_none hD nZ).symm
            refine ⟨.ref D, rfl, .int y, rfl, D, _, rfl, DPut.k (k := Sum.inl y) (sZ _ _ hD) (small1000 (by omega)), ?_⟩
            rw [putK_new ev]
            have tkD : Tk H3 (upd (upd H3 Z (.tup [.int ((L + 1 : Nat) : Int), .int p, .int m])) D (.dK (kvs ++ [(Sum.inl y, .ref Z)]))) := fun b xs e => by
              rw [upd_ne (ne_of e hD (by intro z; cases z))]
              exact sZ _ _ e
            have hF4 : (upd (upd H3 Z (.tup [.int ((L + 1 : Nat) : Int), .int p, .int m])) D (.dK (kvs ++ [(Sum.inl y, .ref Z)]))) Fo = some (.lst (fol.map V.int)) := by rw [upd_ne hFD]; exact sZ _ _ hF
            have lf := bf'.fl
            have bfp := bf'.push hf hm hy
            have few2 := bfp.few ⟨s0, s1⟩ hN
            refine ⟨.ref Fo, rfl, .inl ⟨rfl, _, SqL.of hF4⟩, .int y, rfl, Fo, _, _, rfl, rfl, hF4, by rw [List.length_map]; exact small1000 (by omega), ?_⟩
            have tkF := tk_lst (ys := fol.map V.int ++ [.int y]) hF4
            refine ⟨_, _, ws' ++ [(y, L + 1, some (p, m))], fol ++ [y], rfl, ⟨kvs ++ [(Sum.inl y, .ref Z)], ?_, Paired.snoc (wes_tk (tkD.trans tkF) hkv) ⟨rfl, Z, rfl, tkF _ _ (by rw [upd_ne hZD]; exact upd_same)⟩⟩, ?_, by rw [upd_same, List.map_append]; rfl, Same.mut (Same.mut (s3.trans sZ) nD) nFH, tk.trans (tkD.trans tkF), bfp, List.mem_append_left _ hf, fun q hq => ?_, by rw [etk, List.foldl_append, hx2]; show stp p L (ws', fol) (y, m) = _; unfold stp; rw [if_neg hy], ?_⟩
            · rw [upd_ne (Ne.symm hFD)]
              exact upd_same
            · have hRD : R ≠ D := ne_of hR hD (by intro z; cases z)
              rw [upd_ne (Ne.symm hFR), upd_ne hRD]
              exact sZ _ _ hR
            · rw [List.map_append]
              rw [etk] at hq
              rcases List.mem_append.mp hq with z | z
              · exact List.mem_append_left _ (hdn q z)
              · rw [List.mem_singleton.mp z]
                exact List.mem_append_right _ (by simp)
            · rw [List.length_append, List.length_append, hl]
              rfl
      · clear hw hR s3 hRs nF
        rintro σ' H2 ⟨y6, y7, y8, ws', fol, rfl, hw, hR, hF, s3, bf', hx1, hl⟩
        rw [List.length_map, List.drop_length] at bf'
        rw [List.length_map, List.take_length] at hx1
        have few := bf'.few ⟨s0, s1⟩ hN
        refine ⟨.ref Fo, rfl, _, ?_, _, _, _, _, Fo, ws', L + 1, fol, rfl, hw, hF, s3, bf'.next, by show lvl N L (Bst N s L) = _; rw [hx]; exact hx1, rfl⟩
        cases fol with
        | nil =>
          rw [hk, hl]
          simp
        | cons a b =>
          rw [List.length_cons] at hl
          rw [hk]
          simp
          omega
    · have he : todo = [] := by
        cases todo with
        | nil => rfl
        | cons a b => exact absurd rfl hb
      subst he
      exact ⟨.ref D, rfl, q D ws H1 s3 hw (bf.stop ⟨L, hx⟩) (bf.few ⟨s0, s1⟩ hN)⟩
end
/-! ### the way back -/
inductive Way (N : Int → List Nu) (e : Int) : Int → List Int → List Int → Prop
  | one : Way N e e [e] []
  | cons {c p m : Int} {qs ns : List Int} : Way N e c qs ns → (c, m) ∈ N p → p ∉ qs → Way N e p (p :: qs) (m :: ns)
theorem Way.len {N : Int → List Nu} {e c : Int} {qs ns : List Int} (h : Way N e c qs ns) : qs.length = ns.length + 1 := by
  induction h with
  | one => rfl
  | cons _ _ _ ih => rw [List.length_cons, List.length_cons, ih]
theorem Way.nodup {N : Int → List Nu} {e c : Int} {qs ns : List Int} (h : Way N e c qs ns) : qs.Nodup := by
  induction h with
  | one => simp
  | cons _ _ hp ih => exact List.nodup_cons.mpr ⟨hp, ih⟩
/-- the way back, by the walk alone -/
inductive Bk (ws : List We) : Int → List Int → List Int → Prop
  | stop {c : Int} {k : Nat} : (c, k, none) ∈ ws → Bk ws c [c] []
  | step {c p m : Int} {k : Nat} {qs ns : List Int} : (c, k, some (p, m)) ∈ ws → Bk ws p qs ns → Bk ws c (c :: qs) (m :: ns)
theorem Bk.one {ws : List We} (nd : (ws.map (·.1)).Nodup) {c : Int} {qs ns : List Int} (a : Bk ws c qs ns) : ∀ {qs' ns' : List Int}, Bk ws c qs' ns' → qs = qs' ∧ ns = ns' := by
  induction a with
  | stop h =>
    intro qs' ns' b
    cases b with
    | stop _ => exact ⟨rfl, rfl⟩
    | step h' _ => cases (we_one nd h h').2
  | step h t ih =>
    intro qs' ns' b
    cases b with
    | stop h' => cases (we_one nd h h').2
    | step h' t' =>
      cases (we_one nd h h').2
      obtain ⟨e1, e2⟩ := ih t'
      rw [e1, e2]
      exact ⟨rfl, rfl⟩
/-- the way that is told, and no other -/
def Exa (N : Int → List Nu) (s e : Int) (qs ns : List Int) : Prop := ∃ ws, WF N s ws ∧ Bk ws e qs.reverse ns.reverse
theorem Exa.one {N : Int → List Nu} {s e : Int} {qs ns qs' ns' : List Int} (a : Exa N s e qs ns) (b : Exa N s e qs' ns') : qs = qs' ∧ ns = ns' := by
  obtain ⟨ws, h1, h2⟩ := a
  obtain ⟨ws', h1', h2'⟩ := b
  obtain rfl := h1.ex.one h1'.ex
  obtain ⟨e1, e2⟩ := h2.one h1.nd h2'
  exact ⟨List.reverse_inj.mp e1, List.reverse_inj.mp e2⟩
def spWayTo : Sp := fun vs H Q _ => ∃ (e s : Int) (D : Addr) (ws : List We) (N : Int → List Nu) (k : Nat) (f : Option (Int × Int)), vs = [.int e, .ref D] ∧ WalkAt H D ws ∧ WF N s ws ∧ (e, k, f) ∈ ws ∧ k ≤ 200 ∧ ∀ r a b qs ns H', Same H H' → H' r = some (.tup [.ref a, .ref b]) → H' a = some (.tup (qs.map V.int)) → H' b = some (.tup (ns.map V.int)) → Way N e s qs ns → Exa N s e qs ns → ns.length = k → Q (.ref r) H'
section
variable {P : Program} {w : World} {K : PySem.W.Frag} {mg : Str → Option Value} {base : Heap}
theorem ok_way_to {f : Addr} {fd : FuncData} (F : Fun K "way_to" "way_to" s_way_to f fd) (M : Free mg) : FnOk P w K mg base CX0 1 f fd ["end", "walk"] spWayTo := by
  refine F.ok sc_way_to (fun vs H Q E h => ?_) (fun cdv A outer sh H vs Q E hr h => ?_)
  · obtain ⟨e, s, D, ws, N, k, f, rfl, _⟩ := h
    rfl
  · obtain ⟨e, s, D, ws, N, k, f, rfl, hw, wf, he, k2, q⟩ := h
    have hu := room1 hr
    refine ⟨_, (pss_cons (ps_set (i := 2) sc_way_to.nd rfl (.inl rfl) (pe_lst (pa_cons (pv 0) pa_nil)))
      (pss_cons (ps_set (i := 3) sc_way_to.nd rfl (.inl rfl) (pe_lst pa_nil))
      (pss_cons (ps_asg (pe_dget hu (pv 1) (pv 0) (fun _ _ => rfl)) (pg_tup rfl (pgs_cons (pg_name (i := 4) sc_way_to.nd rfl (.inl rfl)) (pgs_cons (pg_name (i := 5) sc_way_to.nd rfl (.inl rfl)) (pgs_cons (pg_name (i := 6) sc_way_to.nd rfl (.inl rfl)) pgs_nil)))))
      (pss_cons (ps_while PassesOwn.never (pt_cmpR op_notN (pv 5) pe_non (nomark _))
        (pss_cons (ps_expr (pe_bm PySem.F.plainAttrs_list PySem.F.slot_list_append PySem.F.type_list_append mt_append (pv 2) (pa_cons (pv 5) pa_nil)))
        (pss_cons (ps_expr (pe_bm PySem.F.plainAttrs_list PySem.F.slot_list_append PySem.F.type_list_append mt_append (pv 3) (pa_cons (pv 6) pa_nil)))
        (pss_one (ps_asg (pe_dget hu (pv 1) (pv 5) (fun _ _ => rfl)) (pg_tup rfl (pgs_cons (pg_name (i := 4) sc_way_to.nd rfl (.inl rfl)) (pgs_cons (pg_name (i := 5) sc_way_to.nd rfl (.inl rfl)) (pgs_cons (pg_name (i := 6) sc_way_to.nd rfl (.inl rfl)) pgs_nil)))))))))
      (pss_one (ps_ret (pe_tup (pa_cons (pe_callTy call_tuple_of (by rfl) M.tuple (by decide +kernel) (pa_cons (pe_revL (pv 2)) pa_nil)) (pa_cons (pe_callTy call_tuple_of (by rfl) M.tuple (by decide +kernel) (pa_cons (pe_revL (pv 3)) pa_nil)) pa_nil))))))))), ?_⟩
    refine ⟨.int e, rfl, by show 1 ≤ sizeLine; decide, fun A1 n1 => ⟨Nat.zero_le _, fun B n2 => ?_⟩⟩
    have s2 := (same_new (o := .lst [.int e]) n1).trans (same_new (o := .lst []) n2)
    have hAB : A1 ≠ B := ne_of_none upd_same n2
    have hA2 : (upd (upd H A1 (.lst [.int e])) B (.lst [])) A1 = some (.lst [.int e]) := by rw [upd_ne hAB]; exact upd_same
    have hB2 : (upd (upd H A1 (.lst [.int e])) B (.lst [])) B = some (.lst []) := upd_same
    have nBH : H B = none := (same_new n1).free n2
    generalize upd (upd H A1 (.lst [.int e])) B (.lst []) = H2 at s2 hA2 hB2
    -- an entry, read
    have get : ∀ (H' : Hp) (x : Int) (j : Nat) (g : Option (Int × Int)), Same H H' → (x, j, g) ∈ ws → ∃ a, DGet H' D (.int x) (some (.ref a)) ∧ H' a = some (.tup (weL (x, j, g))) := fun H' x j g s3 hx => by
      obtain ⟨kvs, h1, h2⟩ := hw.same s3
      obtain ⟨a, e1, e2⟩ := wes_some h2 wf.nd hx
      exact ⟨a, by rw [← e1]; exact DGet.k (k := Sum.inl x) h1, e2⟩
    let aV : Option (Int × Int) → V := fun g => match g with | none => .non | some z => .int z.1
    let nV : Option (Int × Int) → V := fun g => match g with | none => .non | some z => .int z.2
    have wl : ∀ (x : Int) (j : Nat) (g : Option (Int × Int)), weL (x, j, g) = [.int (j : Nat), aV g, nV g] := fun x j g => by cases g <;> rfl
    obtain ⟨a0, g0, h0⟩ := get H2 e k f s2 he
    rw [wl] at h0
    refine ⟨.ref D, rfl, .int e, rfl, D, _, rfl, g0, a0, _, rfl, SqT.of h0, rfl, _, _, rfl, _, _, rfl, _, _, rfl, rfl, ?_⟩
    refine ⟨fun j σ' H' => ∃ (c : Int) (g : Option (Int × Int)) (qs ns : List Int), σ' = [some (.int e), some (.ref D), some (.ref A1), some (.ref B), some (.int (j : Nat)), some (aV g), some (nV g)] ∧ (c, j, g) ∈ ws ∧ H' A1 = some (.lst (qs.reverse.map V.int)) ∧ H' B = some (.lst (ns.reverse.map V.int)) ∧ Same H H' ∧ Way N e c qs ns ∧ ns.length + j = k ∧ (∀ qs' ns', Bk ws c (c :: qs') ns' → Bk ws e (qs.reverse ++ qs') (ns.reverse ++ ns')) ∧ ∀ x ∈ qs, ∃ i g, (x, i, g) ∈ ws ∧ j ≤ i, ⟨k, e, f, [e], [], rfl, he, hA2, hB2, s2, .one, by simp, fun _ _ h => h, fun x hx => ⟨k, f, by rw [List.mem_singleton.mp hx]; exact he, Nat.le_refl _⟩⟩, ?_⟩
    clear hA2 hB2 s2 n2 h0 g0
    rintro j σ' H1 ⟨c, g, qs, ns, rfl, hc, hA, hB, s3, way, hl, bk, lev⟩
    have lq := way.len
    refine ⟨aV g, rfl, rfl, _, rfl, ?_⟩
    cases g with
    | some z =>
      obtain ⟨p, m⟩ := z
      obtain ⟨i, g', hp, hj, hm⟩ := wf.par _ _ _ _ hc
      refine ⟨fun σ' H' => ∃ j', j' < j ∧ ∃ (c : Int) (g : Option (Int × Int)) (qs ns : List Int), σ' = [some (.int e), some (.ref D), some (.ref A1), some (.ref B), some (.int (j' : Nat)), some (aV g), some (nV g)] ∧ (c, j', g) ∈ ws ∧ H' A1 = some (.lst (qs.reverse.map V.int)) ∧ H' B = some (.lst (ns.reverse.map V.int)) ∧ Same H H' ∧ Way N e c qs ns ∧ ns.length + j' = k ∧ (∀ qs' ns', Bk ws c (c :: qs') ns' → Bk ws e (qs.reverse ++ qs') (ns.reverse ++ ns')) ∧ ∀ x ∈ qs, ∃ i g, (x, i, g) ∈ ws ∧ j' ≤ i, fun _ _ h => h, ?_⟩
      refine ⟨.ref A1, rfl, .inl ⟨rfl, _, SqL.of hA⟩, .int p, rfl, A1, _, _, rfl, rfl, hA, by rw [List.length_map, List.length_reverse]; exact small1000 (by omega), ?_⟩
      have hB2 : (upd H1 A1 (.lst (qs.reverse.map V.int ++ [.int p]))) B = some (.lst (ns.reverse.map V.int)) := by rw [upd_ne (Ne.symm hAB)]; exact hB
      refine ⟨.ref B, rfl, .inl ⟨rfl, _, SqL.of hB2⟩, .int m, rfl, B, _, _, rfl, rfl, hB2, by rw [List.length_map, List.length_reverse]; exact small1000 (by omega), ?_⟩
      have s4 : Same H (upd (upd H1 A1 (.lst (qs.reverse.map V.int ++ [.int p]))) B (.lst (ns.reverse.map V.int ++ [.int m]))) := Same.mut (Same.mut s3 n1) nBH
      obtain ⟨a1, g1, h1⟩ := get _ p i g' s4 hp
      rw [wl] at h1
      refine ⟨.ref D, rfl, .int p, rfl, D, _, rfl, g1, a1, _, rfl, SqT.of h1, rfl, _, _, rfl, _, _, rfl, _, _, rfl, rfl, ?_⟩
      refine ⟨i, by omega, p, g', p :: qs, m :: ns, rfl, hp, ?_, ?_, s4, .cons way hm (fun hin => ?_), by rw [List.length_cons]; omega, fun qs' ns' hb => ?_, fun x hx => ?_⟩
      · rw [upd_ne hAB, upd_same, List.reverse_cons, List.map_append]
        rfl
      · rw [upd_same, List.reverse_cons, List.map_append]
        rfl
      · obtain ⟨i', g'', hx, hle⟩ := lev p hin
        have := (we_one wf.nd hp hx).1
        omega
      · have := bk _ _ (.step hc hb)
        rw [List.reverse_cons, List.reverse_cons, List.append_assoc, List.append_assoc]
        exact this
      · rcases List.mem_cons.mp hx with z | z
        · exact ⟨i, g', by rw [z]; exact hp, Nat.le_refl _⟩
        · obtain ⟨i', g'', h2, h3⟩ := lev x z
          exact ⟨i', g'', h2, by omega⟩
    | none =>
      obtain ⟨rfl, rfl⟩ := wf.non _ _ hc
      refine ⟨.ref A1, rfl, A1, _, rfl, SqL.of hA, fun p1 m1 => ⟨p1, _, rfl, .inl ⟨SqL.of upd_same, fun r1 m2 => ?_⟩⟩⟩
      have e1 := (same_new (o := .lst (qs.reverse.map V.int).reverse) m1)
      have e2 := (same_new (o := .tup (qs.reverse.map V.int).reverse) m2)
      have hB2 := e2 _ _ (e1 _ _ hB)
      refine ⟨.ref B, rfl, B, _, rfl, SqL.of hB2, fun p3 m3 => ⟨p3, _, rfl, .inl ⟨SqL.of upd_same, fun r2 m4 => ⟨by show 2 ≤ sizeLine; decide, fun r m5 => ?_⟩⟩⟩⟩
      have e3 := (same_new (o := .lst (ns.reverse.map V.int).reverse) m3)
      have e4 := (same_new (o := .tup (ns.reverse.map V.int).reverse) m4)
      have e5 := (same_new (o := .tup [.ref r1, .ref r2]) m5)
      have rr : ∀ xs : List Int, (xs.reverse.map V.int).reverse = xs.map V.int := fun xs => by rw [List.map_reverse, List.reverse_reverse]
      refine q r r1 r2 qs ns _ ((((s3.trans e1).trans e2).trans e3).trans e4 |>.trans e5) upd_same ?_ ?_ way ⟨ws, wf, by have := bk [] [] (.stop hc); rw [List.append_nil, List.append_nil] at this; exact this⟩ hl
      · rw [e5 _ _ (e4 _ _ (e3 _ _ upd_same)), rr]
      · rw [e5 _ _ upd_same, rr]
end
/-! ### min of a list of pairs -/
def PV2 (H : Hp) (v : V) (q : Int × Int) : Prop := ∃ a, v = .ref a ∧ H a = some (.tup [.int q.1, .int q.2])
def lexle (p q : Int × Int) : Prop := p.1 < q.1 ∨ (p.1 = q.1 ∧ p.2 ≤ q.2)
theorem lexle_of_not {p q : Int × Int} (h : PySem.W.DatumOrd.lt q p = false) : lexle p q := by
  have h : (if q.1 = p.1 then decide (q.2 < p.2) else decide (q.1 < p.1)) = false := h
  unfold lexle
  split at h
  · have := of_decide_eq_false h
    omega
  · have := of_decide_eq_false h
    omega
theorem lexle_of {p q : Int × Int} (h : PySem.W.DatumOrd.lt p q = true) : lexle p q := by
  have h : (if p.1 = q.1 then decide (p.2 < q.2) else decide (p.1 < q.1)) = true := h
  unfold lexle
  split at h
  · have := of_decide_eq_true h
    omega
  · have := of_decide_eq_true h
    omega
theorem lexle_trans {p q r : Int × Int} (h : lexle p q) (g : lexle q r) : lexle p r := by
  unfold lexle at *
  omega
theorem minOf_spec : ∀ (ps : List (Int × Int)) (p : Int × Int), PySem.W.minOf p ps ∈ p :: ps ∧ ∀ q ∈ p :: ps, lexle (PySem.W.minOf p ps) q
  | [], p => ⟨by simp [PySem.W.minOf], fun q hq => by rw [List.mem_singleton.mp hq]; exact .inr ⟨rfl, Int.le_refl _⟩⟩
  | x :: ps, p => by
    have e : PySem.W.minOf p (x :: ps) = PySem.W.minOf (if PySem.W.DatumOrd.lt x p = true then x else p) ps := rfl
    rw [e]
    cases h : PySem.W.DatumOrd.lt x p with
    | true =>
      obtain ⟨h1, h2⟩ := minOf_spec ps x
      rw [if_pos rfl]
      refine ⟨List.mem_cons_of_mem _ h1, fun q hq => ?_⟩
      rcases List.mem_cons.mp hq with z | z
      · rw [z]
        exact lexle_trans (h2 x (by simp)) (lexle_of h)
      · exact h2 q z
    | false =>
      obtain ⟨h1, h2⟩ := minOf_spec ps p
      rw [if_neg (by simp)]
      refine ⟨?_, fun q hq => ?_⟩
      · rcases List.mem_cons.mp h1 with z | z
        · rw [z]
          simp
        · exact List.mem_cons_of_mem _ (List.mem_cons_of_mem _ z)
      · rcases List.mem_cons.mp hq with z | z
        · rw [z]
          exact h2 p (by simp)
        · rcases List.mem_cons.mp z with y | y
          · rw [y]
            exact lexle_trans (h2 p (by simp)) (lexle_of_not h)
          · exact h2 q (List.mem_cons_of_mem _ y)
def pD (p : Int × Int) : PyData := .tuple [.int p.1, .int p.2]
theorem dp_pairs {K : PySem.W.Frag} {H : Hp} : ∀ {xs : List V} {ps : List (Int × Int)}, Paired (PV2 H) xs ps → DpAll K H xs (ps.map pD)
  | _, _, .nil => .nil
  | _, _, .cons r t => by
    obtain ⟨a, rfl, e⟩ := r
    exact .cons (.tup (SqT.of e) (.cons (.int _) (.cons (.int _) .nil))) (dp_pairs t)
theorem deep_pairs : ∀ ps : List (Int × Int), PyData.depthAll (ps.map pD) ≤ 1
  | [] => by simp [PyData.depthAll]
  | p :: ps => by
    have h := deep_pairs ps
    have g : (pD p).depth = 1 := by simp [pD, PyData.depth, PyData.depthAll]
    rw [List.map_cons, PyData.depthAll, g]
    omega
def rMinP (K : PySem.W.Frag) : List V → Hp → VK → Prop := fun vs H Q => ∃ (a : Addr) (xs : List V) (ps : List (Int × Int)), vs = [V.ref a] ∧ SqL K H a xs ∧ Paired (PV2 H) xs ps ∧ ps ≠ [] ∧ ∀ x p, PV2 H x p → p ∈ ps → (∀ q ∈ ps, lexle p q) → Q x H
theorem cr_minP {X : Cx} (hc : X.calm = true) (hu : X.A.units + 65 < cLine) : CallR X (.builtin "min") (rMinP X.K) := by
  intro pins s σ H vs us Q I r h
  obtain ⟨a, xs, ps, rfl, hs, hp, hne, q⟩ := h
  obtain ⟨its, rv, hl, _⟩ := I.list hs
  rw [Vals.ref1 r]
  obtain ⟨p0, ps', rfl⟩ := List.exists_cons_of_ne_nil hne
  obtain ⟨as, hr⟩ := Dp.readsAll I _ _ _ (dp_pairs (K := X.K) hp) rv
  have hr' : ReadsAll s.heap its.toArray.toList (pD p0 :: ps'.map pD) as := hr
  refine PySem.W.min_list_data (I.ok.hd hc) hl.isList hr' (PySem.W.alikeAll_datum (p0 :: ps')) (by have := deep_pairs (p0 :: ps'); rw [List.map_cons] at this; omega) fun i v h' tk bs hv rd hk => ?_
  have em : PySem.W.minD (pD p0) (ps'.map pD) = pD (PySem.W.minOf p0 ps') := PySem.W.minD_map p0 ps'
  rw [em] at rd
  have hv' : its[i]? = some v := by simpa using hv
  obtain ⟨x, ex, rx⟩ := Paired.at' rv hv'
  obtain ⟨p, ep, t, rfl, ht⟩ := Paired.at hp ex
  obtain ⟨cs, rd2, _⟩ := PySem.W.readsAll_atA hr' i v hv
  have eg : (pD p0 :: ps'.map pD).getD i .none = pD p := by
    have : ((p0 :: ps').map pD)[i]? = some (pD p) := by rw [List.getElem?_map, ep]; rfl
    rw [List.getD_eq_getElem?_getD]
    rw [List.map_cons] at this
    rw [this]
    rfl
  rw [eg] at rd2
  have lay : (pD p).canLay0 = true := by simp [pD, PyData.canLay0, PyData.canLayAll0]
  have eq := PySem.SeqAt.Reads.unique _ _ _ _ _ lay (PySem.W.reads_keeps hk rd2) rd
  have ep2 : p = PySem.W.minOf p0 ps' := by
    unfold pD at eq
    injection eq with eq
    injection eq with e1 e2
    injection e2 with e2 _
    injection e1 with e1
    injection e2 with e2
    exact Prod.ext e1 e2
  obtain ⟨m1, m2⟩ := minOf_spec ps' p0
  exact ⟨.ref t, H, I.kept hk, rx, q _ p ⟨t, rfl, ht⟩ (List.mem_of_getElem? ep) (by rw [ep2]; exact m2)⟩
/-! ### doubled webs -/
def dblA (t : Tie) : Tie := ⟨2 * t.one, 2 * t.other + bI t.foe, false⟩
def dblB (t : Tie) : Tie := ⟨2 * t.one + 1, 2 * t.other + 1 - bI t.foe, false⟩
def dbl : List Tie → List Tie
  | [] => []
  | t :: ts => dblA t :: dblB t :: dbl ts
theorem dbl_len : ∀ ts, (dbl ts).length = 2 * ts.length
  | [] => rfl
  | t :: ts => by
    show (dbl ts).length + 1 + 1 = _
    rw [dbl_len ts, List.length_cons]
    omega
theorem dbl_snoc (t : Tie) : ∀ ts, dbl (ts ++ [t]) = dbl ts ++ [dblA t, dblB t]
  | [] => rfl
  | x :: ts => by
    show dblA x :: dblB x :: dbl (ts ++ [t]) = _
    rw [dbl_snoc t ts]
    rfl
theorem dbl_get : ∀ (ts : List Tie) (i : Nat), (dbl ts)[2 * i]? = (ts[i]?).map dblA ∧ (dbl ts)[2 * i + 1]? = (ts[i]?).map dblB
  | [], i => by simp [dbl]
  | t :: ts, 0 => ⟨rfl, rfl⟩
  | t :: ts, i + 1 => by
    have h := dbl_get ts i
    have e1 : 2 * (i + 1) = 2 * i + 1 + 1 := by omega
    rw [e1]
    exact ⟨by simpa [dbl] using h.1, by simpa [dbl] using h.2⟩
theorem bI01 (b : Bool) : bI b = 0 ∨ bI b = 1 := by unfold bI; cases b <;> simp
theorem dbl_ok {n : Nat} : ∀ {ts : List Tie}, (∀ t ∈ ts, TieOk n t) → ∀ t ∈ dbl ts, TieOk (2 * (n : Int)) t
  | [], _ => fun t ht => by cases ht
  | x :: ts, h => fun t ht => by
    have o := h x (by simp)
    have b := bI01 x.foe
    obtain ⟨o1, o2, o3, o4, o5⟩ := o
    rcases List.mem_cons.mp ht with z | z
    · rw [z]
      exact ⟨by show 0 ≤ 2 * x.one; omega, by show 2 * x.one < _; omega, by show 0 ≤ 2 * x.other + bI x.foe; omega, by show 2 * x.other + bI x.foe < _; omega, by show 2 * x.one ≠ 2 * x.other + bI x.foe; omega⟩
    · rcases List.mem_cons.mp z with y | y
      · rw [y]
        exact ⟨by show 0 ≤ 2 * x.one + 1; omega, by show 2 * x.one + 1 < _; omega, by show 0 ≤ 2 * x.other + 1 - bI x.foe; omega, by show 2 * x.other + 1 - bI x.foe < _; omega, by show 2 * x.one + 1 ≠ 2 * x.other + 1 - bI x.foe; omega⟩
      · exact dbl_ok (fun t ht => h t (List.mem_cons_of_mem _ ht)) t y
theorem cut_last {xs : List V} : cutV xs none (some (-1)) = xs.dropLast := by
  unfold cutV
  rw [HT.sIx_none]
  have : HT.sIx xs.length xs.length (some (-1)) = xs.length - 1 := by
    unfold HT.sIx
    simp
    omega
  rw [this, List.drop_zero, List.dropLast_eq_take]
  rfl
def lvW (ws : List We) (x : Int) : Option Nat := (ws.find? fun e => decide (e.1 = x)).map (·.2.1)
theorem lvW_some {ws : List We} (nd : (ws.map (·.1)).Nodup) {x : Int} {k : Nat} {f : Option (Int × Int)} (h : (x, k, f) ∈ ws) : lvW ws x = some k := by
  induction ws with
  | nil => cases h
  | cons e ws ih =>
    rw [List.map_cons, List.nodup_cons] at nd
    unfold lvW at ih ⊢
    rw [List.find?_cons]
    rcases List.mem_cons.mp h with z | z
    · subst z
      simp
    · have ne : ¬ e.1 = x := fun y => nd.1 (by rw [y]; exact List.mem_map.mpr ⟨_, z, rfl⟩)
      rw [decide_eq_false ne]
      exact ih nd.2 z
theorem lvW_none {ws : List We} {x : Int} (h : x ∉ ws.map (·.1)) : lvW ws x = none := by
  induction ws with
  | nil => rfl
  | cons e ws ih =>
    rw [List.map_cons, List.mem_cons, not_or] at h
    unfold lvW at ih ⊢
    rw [List.find?_cons, decide_eq_false (fun z => h.1 z.symm)]
    exact ih h.2
def rowW (ws : List We) (far : Int) (m : Nat) : List Int := (List.range m).map fun x : Nat => ((lvW ws (x : Int)).map fun k : Nat => (k : Int)).getD far
def spDoubled : Sp := fun vs H Q _ => ∃ (wv : V) (n : Nat) (ts : List Tie), vs = [wv] ∧ WebAt H wv n ts ∧ WebOk n ts ∧ ∀ v H', Same H H' → WebAt H' v (2 * (n : Int)) (dbl ts) → Q v H'
def spHalved : Sp := fun vs H Q _ => ∃ (r a b : Addr) (qs ns : List Int), vs = [.ref r] ∧ H r = some (.tup [.ref a, .ref b]) ∧ H a = some (.tup (qs.map V.int)) ∧ H b = some (.tup (ns.map V.int)) ∧ qs.length ≤ 200 ∧ ns.length ≤ 200 ∧ ∀ r' a' b' H', Same H H' → H' r' = some (.tup [.ref a', .ref b']) → H' a' = some (.tup ((qs.dropLast.map (· / 2)).map V.int)) → H' b' = some (.tup ((ns.map (· / 2)).map V.int)) → Q (.ref r') H'
def spRowOf : Sp := fun vs H Q _ => ∃ (m : Nat) (D : Addr) (far : Int) (ws : List We), vs = [.int m, .ref D, .int far] ∧ m ≤ 100 ∧ WalkAt H D ws ∧ (ws.map (·.1)).Nodup ∧ ∀ r H', Same H H' → H' r = some (.tup ((rowW ws far m).map V.int)) → Q (.ref r) H'
section
variable {P : Program} {w : World} {K : PySem.W.Frag} {mg : Str → Option Value} {base : Heap}
theorem ok_doubled {f : Addr} {fd : FuncData} (F : Fun K "doubled" "doubled" s_doubled f fd) (M : Free mg) : FnOk P w K mg base CX0 1 f fd ["web"] spDoubled := by
  refine F.ok sc_doubled (fun vs H Q E h => ?_) (fun cdv A outer s H vs Q E hr h => ?_)
  · obtain ⟨wv, n, ts, rfl, _⟩ := h
    rfl
  · obtain ⟨wv, n, ts, rfl, hW, ok, q⟩ := h
    refine ⟨_, (pss_cons (ps_set (i := 1) sc_doubled.nd rfl (.inl rfl) (pe_lst pa_nil))
      (pss_cons (ps_for PassesOwn.never rfl (pi_tup (pe_ix ix_tup (pv 0) pe_int (fun _ _ => rfl))) (pg_tup rfl (pgs_cons (pg_name (i := 2) sc_doubled.nd rfl (.inl rfl)) (pgs_cons (pg_name (i := 3) sc_doubled.nd rfl (.inl rfl)) (pgs_cons (pg_name (i := 4) sc_doubled.nd rfl (.inl rfl)) pgs_nil))))
        (Evl.pss_cut (ps_set (i := 5) sc_doubled.nd rfl (.inl rfl) (pe_ifExp (pt_cmpR op_eq (pv 4) pe_str (nomark _)) pe_int pe_int))
        (pss_cons (ps_expr (pe_bm PySem.F.plainAttrs_list PySem.F.slot_list_append PySem.F.type_list_append mt_append (pv 1) (pa_cons (pe_tup (pa_cons (pe_op op_mul pe_int (pv 2)) (pa_cons (pe_op op_add (pe_op op_mul pe_int (pv 3)) (pv 5)) (pa_cons pe_str pa_nil)))) pa_nil)))
        (pss_one (ps_expr (pe_bm PySem.F.plainAttrs_list PySem.F.slot_list_append PySem.F.type_list_append mt_append (pv 1) (pa_cons (pe_tup (pa_cons (pe_op op_add (pe_op op_mul pe_int (pv 2)) pe_int) (pa_cons (pe_op op_sub (pe_op op_add (pe_op op_mul pe_int (pv 3)) pe_int) (pv 5)) (pa_cons pe_str pa_nil)))) pa_nil)))))))
      (pss_one (ps_ret (pe_tup (pa_cons (pe_op op_mul pe_int (pe_ix ix_tup (pv 0) pe_int (fun _ _ => rfl))) (pa_cons (pe_callTy call_tuple_of (by rfl) M.tuple (by decide +kernel) (pa_cons (pv 1) pa_nil)) pa_nil))))))), ?_⟩
    obtain ⟨wa, wb, us, rfl, hwa, hwb, hp⟩ := id hW
    have few := ok.few
    have lu : us.length = ts.length := Paired.length hp
    refine ⟨Nat.zero_le _, fun L nL => ?_⟩
    have eL := same_new (o := .lst []) nL
    refine ⟨.ref wa, rfl, wa, _, 1, .ref wb, rfl, rfl, SqT.of (eL _ _ hwa), rfl, wb, rfl, ⟨_, SqT.of (eL _ _ hwb)⟩, ?_⟩
    refine for_tup (xs := us) (fun i σ' H' => ∃ (y2 y3 y4 y5 : Option V) (vs : List V), σ' = [some (.ref wa), some (.ref L), y2, y3, y4, y5] ∧ H' L = some (.lst vs) ∧ Paired (TieV H') vs (dbl (ts.take i)) ∧ Same H H') ⟨none, none, none, none, [], rfl, upd_same, .nil, eL⟩ (fun i σ' H' _ h => by
      obtain ⟨_, _, _, _, _, _, _, _, s⟩ := h
      exact SqT.of (s _ _ hwb)) ?_ ?_
    · rintro i x σ' H1 ex ⟨y2, y3, y4, y5, vs, rfl, hL, hpv, s1⟩
      obtain ⟨t, et, c, rfl, hc⟩ := Paired.at hp ex
      have ek : decide (V.str (kindS t.foe) = V.str "foe") = t.foe := by cases t.foe <;> decide +kernel
      have lv := Paired.length hpv
      rw [dbl_len, List.length_take] at lv
      refine ⟨c, _, rfl, SqT.of (s1 _ _ hc), rfl, _, _, rfl, _, _, rfl, _, _, rfl, rfl, ?_⟩
      refine ⟨fun σ' H' => σ' = [some (.ref wa), some (.ref L), some (.int t.one), some (.int t.other), some (.str (kindS t.foe)), some (.int (bI t.foe))] ∧ H' = H1, ?_, ?_⟩
      · refine ⟨.str (kindS t.foe), rfl, rfl, _, rfl, ?_⟩
        rw [ek]
        cases t.foe
        · exact ⟨rfl, rfl⟩
        · exact ⟨rfl, rfl⟩
      rintro σ' H' ⟨rfl, eH⟩
      subst eH
      refine ⟨.ref L, rfl, .inl ⟨rfl, _, SqL.of hL⟩, .int t.one, rfl, 2, t.one, rfl, rfl, .inl ⟨by decide, by decide⟩, .int t.other, rfl, 2, t.other, rfl, rfl, .inl ⟨by decide, by decide⟩, .int (bI t.foe), rfl, _, _, rfl, rfl, by show 3 ≤ sizeLine; decide, fun c1 n1 => ?_⟩
      have e1 := same_new (o := .tup [.int (2 * t.one), .int (2 * t.other + bI t.foe), .str "friend"]) n1
      refine ⟨L, vs, _, rfl, rfl, e1 _ _ hL, small1000 (by omega), ?_⟩
      have tk1 := tk_lst (ys := vs ++ [.ref c1]) (e1 _ _ hL)
      have hL2 : (upd (upd H' c1 (.tup [.int (2 * t.one), .int (2 * t.other + bI t.foe), .str "friend"])) L (.lst (vs ++ [.ref c1]))) L = some (.lst (vs ++ [.ref c1])) := upd_same
      have hp2 : Paired (TieV (upd (upd H' c1 (.tup [.int (2 * t.one), .int (2 * t.other + bI t.foe), .str "friend"])) L (.lst (vs ++ [.ref c1])))) (vs ++ [.ref c1]) (dbl (ts.take i) ++ [dblA t]) := Paired.snoc (ties_tk ((Same.tk e1).trans tk1) hpv) ⟨c1, rfl, tk1 _ _ upd_same⟩
      have s2 := Same.mut (o := .lst (vs ++ [.ref c1])) (s1.trans e1) nL
      generalize upd (upd H' c1 (.tup [.int (2 * t.one), .int (2 * t.other + bI t.foe), .str "friend"])) L (.lst (vs ++ [.ref c1])) = H2 at hL2 hp2 s2
      refine ⟨.ref L, rfl, .inl ⟨rfl, _, SqL.of hL2⟩, .int t.one, rfl, 2, t.one, rfl, rfl, .inl ⟨by decide, by decide⟩, _, 1, rfl, rfl, .int t.other, rfl, 2, t.other, rfl, rfl, .inl ⟨by decide, by decide⟩, _, 1, rfl, rfl, .int (bI t.foe), rfl, _, _, rfl, rfl, by show 3 ≤ sizeLine; decide, fun c2 n2 => ?_⟩
      have e2 := same_new (o := .tup [.int (2 * t.one + 1), .int (2 * t.other + 1 - bI t.foe), .str "friend"]) n2
      refine ⟨L, _, _, rfl, rfl, e2 _ _ hL2, small1000 (by rw [List.length_append]; show vs.length + 1 ≤ _; omega), ?_⟩
      have tk2 := tk_lst (ys := (vs ++ [.ref c1]) ++ [.ref c2]) (e2 _ _ hL2)
      refine ⟨_, _, _, _, _, rfl, upd_same, ?_, Same.mut (s2.trans e2) nL⟩
      have e3 : dbl (ts.take (i + 1)) = (dbl (ts.take i) ++ [dblA t]) ++ [dblB t] := by rw [take_snoc et, dbl_snoc, List.append_assoc]; rfl
      rw [e3]
      exact Paired.snoc (ties_tk ((Same.tk e2).trans tk2) hp2) ⟨c2, rfl, tk2 _ _ upd_same⟩
    · rintro σ' H1 ⟨y2, y3, y4, y5, vs, rfl, hL, hpv, s1⟩
      rw [lu, List.take_length] at hpv
      refine ⟨.ref wa, rfl, wa, _, 0, .int n, rfl, rfl, SqT.of (s1 _ _ hwa), rfl, 2, n, rfl, rfl, .inl ⟨by decide, by decide⟩, .ref L, rfl, L, _, rfl, .inl ⟨SqL.of hL, fun B nB => ⟨by show 2 ≤ sizeLine; decide, fun r nr => ?_⟩⟩⟩
      have e2 := (same_new (o := .tup vs) nB).trans (same_new (o := .tup [.int (2 * (n : Int)), .ref B]) nr)
      exact q _ _ (s1.trans e2) ⟨r, B, vs, rfl, upd_same, same_new nr _ _ upd_same, ties_tk (Same.tk e2) hpv⟩
theorem ok_halved {f : Addr} {fd : FuncData} (F : Fun K "halved" "halved" s_halved f fd) (M : Free mg) : FnOk P w K mg base CX0 1 f fd ["way"] spHalved := by
  refine F.ok sc_halved (fun vs H Q E h => ?_) (fun cdv A outer s H vs Q E hr h => ?_)
  · obtain ⟨r, a, b, qs, ns, rfl, _⟩ := h
    rfl
  · obtain ⟨r, a, b, qs, ns, rfl, hr0, ha, hb, lq, ln, q⟩ := h
    refine ⟨_, (pss_cons (ps_asg (pv 0) (pg_tup rfl (pgs_cons (pg_name (i := 1) sc_halved.nd rfl (.inl rfl)) (pgs_cons (pg_name (i := 2) sc_halved.nd rfl (.inl rfl)) pgs_nil))))
      (pss_one (ps_ret (pe_tup (pa_cons (pe_callTy call_tuple_of (by rfl) M.tuple (by decide +kernel) (pa_cons (pe_lc (own := [("place", 3)]) (g := (gName 3)) (tt := tYes) rfl sc_halved.nd (pi_tup (pe_slice sl_tupU (pv 1) po_none (po_some (pe_un un_neg pe_int)))) (blkOk_by (N := N_halved) (sc := defScope s_halved) (own := [("place", 3)]) (by decide +kernel)) (fun _ _ _ _ _ => (pg_name (i := 3) sc_halved.nd rfl (.inl rfl))) (fun _ _ _ _ _ => pts_nil) (fun _ _ _ _ _ => (pe_op op_fdiv (pv 3) pe_int))) pa_nil)) (pa_cons (pe_callTy call_tuple_of (by rfl) M.tuple (by decide +kernel) (pa_cons (pe_lc (own := [("tie", 4)]) (g := (gName 4)) (tt := tYes) rfl sc_halved.nd (pi_tup (pv 2)) (blkOk_by (N := N_halved) (sc := defScope s_halved) (own := [("tie", 4)]) (by decide +kernel)) (fun _ _ _ _ _ => (pg_name (i := 4) sc_halved.nd rfl (.inl rfl))) (fun _ _ _ _ _ => pts_nil) (fun _ _ _ _ _ => (pe_op op_fdiv (pv 4) pe_int))) pa_nil)) pa_nil)))))), ?_⟩
    refine ⟨.ref r, rfl, r, _, rfl, SqT.of hr0, rfl, _, _, rfl, _, _, rfl, rfl, ?_⟩
    refine ⟨.ref a, rfl, 1, rfl, -1, rfl, a, _, rfl, ha, fun r1 H1 s1 h1 => ⟨r1, rfl, ⟨_, SqT.of h1⟩, fun Z nZ => ?_⟩⟩
    rw [cut_last, ← List.map_dropLast] at h1
    have ld : qs.dropLast.length ≤ 200 := by rw [List.length_dropLast]; omega
    refine lc_tup (xs := qs.dropLast.map V.int) (fun j H' => H' Z = some (.lst (((qs.dropLast.take j).map (· / 2)).map V.int)) ∧ Same H1 H') ⟨upd_same, same_new nZ⟩ (fun j H' _ h => SqT.of (h.2 _ _ h1)) ?_ ?_
    · rintro j x H2 ex ⟨hZ, s2⟩
      rw [List.getElem?_map] at ex
      obtain ⟨y, ey, rfl⟩ := Option.map_eq_some_iff.mp ex
      refine ⟨rfl, .int y, rfl, y, 2, rfl, rfl, ⟨by decide, by decide⟩, _, hZ, by rw [List.length_map, List.length_map, List.length_take]; exact small1000 (by omega), ?_, Same.mut s2 nZ⟩
      rw [upd_same, take_snoc ey, List.map_append, List.map_append]
      rfl
    · rintro H2 ⟨hZ, s2⟩
      rw [List.length_map, List.take_length] at hZ
      refine ⟨Z, _, rfl, .inl ⟨SqL.of hZ, fun A1 n1 => ?_⟩⟩
      have e1 := same_new (o := .tup ((qs.dropLast.map (· / 2)).map V.int)) n1
      have s3 := (s1.trans s2).trans e1
      have hA1 := upd_same (H := H2) (a := A1) (o := .tup ((qs.dropLast.map (· / 2)).map V.int))
      generalize upd H2 A1 (.tup ((qs.dropLast.map (· / 2)).map V.int)) = H3 at s3 hA1
      refine ⟨.ref b, rfl, b, rfl, ⟨_, SqT.of (s3 _ _ hb)⟩, fun Y nY => ?_⟩
      refine lc_tup (xs := ns.map V.int) (fun j H' => H' Y = some (.lst (((ns.take j).map (· / 2)).map V.int)) ∧ Same H3 H') ⟨upd_same, same_new nY⟩ (fun j H' _ h => SqT.of (h.2 _ _ (s3 _ _ hb))) ?_ ?_
      · rintro j x H4 ex ⟨hY, s4⟩
        rw [List.getElem?_map] at ex
        obtain ⟨y, ey, rfl⟩ := Option.map_eq_some_iff.mp ex
        refine ⟨rfl, .int y, rfl, y, 2, rfl, rfl, ⟨by decide, by decide⟩, _, hY, by rw [List.length_map, List.length_map, List.length_take]; exact small1000 (by omega), ?_, Same.mut s4 nY⟩
        rw [upd_same, take_snoc ey, List.map_append, List.map_append]
        rfl
      · rintro H4 ⟨hY, s4⟩
        rw [List.length_map, List.take_length] at hY
        refine ⟨Y, _, rfl, .inl ⟨SqL.of hY, fun B1 n2 => ⟨by show 2 ≤ sizeLine; decide, fun r' nr => ?_⟩⟩⟩
        have e2 := same_new (o := .tup ((ns.map (· / 2)).map V.int)) n2
        have e3 := same_new (o := .tup [.ref A1, .ref B1]) nr
        exact q r' A1 B1 _ (((s3.trans s4).trans e2).trans e3) upd_same (e3 _ _ (e2 _ _ (s4 _ _ hA1))) (e3 _ _ upd_same)
theorem ok_row_of {f : Addr} {fd : FuncData} (F : Fun K "row_of" "row_of" s_row_of f fd) (M : Free mg) : FnOk P w K mg base CX0 1 f fd ["many", "walk", "far"] spRowOf := by
  refine F.ok sc_row_of (fun vs H Q E h => ?_) (fun cdv A outer s H vs Q E hr h => ?_)
  · obtain ⟨m, D, far, ws, rfl, _⟩ := h
    rfl
  · obtain ⟨m, D, far, ws, rfl, hm, hw, nd, q⟩ := h
    have hu := room1 hr
    refine ⟨_, (pss_one (ps_ret (pe_callTy call_tuple_of (by rfl) M.tuple (by decide +kernel) (pa_cons (pe_lc (own := [("place", 3)]) (g := (gName 3)) (tt := tYes) rfl sc_row_of.nd (pi_range1 (by rfl) M.range (pa_cons (pv 0) pa_nil)) (blkOk_by (N := N_row_of) (sc := defScope s_row_of) (own := [("place", 3)]) (by decide +kernel)) (fun _ _ _ _ _ => (pg_name (i := 3) sc_row_of.nd rfl (.inl rfl))) (fun _ _ _ _ _ => pts_nil) (fun _ _ _ _ _ => (pe_ifExp (pt_cmp (pc_din hu (pv 3) (pv 1))) (pe_ix (r := rIxT K) ix_tup (pe_dget hu (pv 1) (pv 3) (fun _ _ => rfl)) pe_int (fun _ _ => rfl)) (pv 2)))) pa_nil)))), ?_⟩
    refine ⟨.int m, rfl, m, rfl, by omega, by omega, fun Z nZ => ?_⟩
    rw [Int.toNat_natCast]
    refine lc_range (lo := 0) (n := m) (fun j H' => H' Z = some (.lst ((rowW ws far j).map V.int)) ∧ Same H H') ⟨upd_same, same_new nZ⟩ ?_ ?_
    · rintro j H1 hj ⟨hZ, s1⟩
      rw [show (0 : Int) + (j : Nat) = j from by omega]
      obtain ⟨kvs, h1, h2⟩ := hw.same s1
      have fin : ∀ v : Int, ((lvW ws (j : Int)).map fun k : Nat => (k : Int)).getD far = v → ∃ acc, H1 Z = some (.lst acc) ∧ acc.length < sizeLine ∧ ((upd H1 Z (.lst (acc ++ [.int v]))) Z = some (.lst ((rowW ws far (j + 1)).map V.int)) ∧ Same H (upd H1 Z (.lst (acc ++ [.int v])))) := fun v ev => by
        refine ⟨_, hZ, by unfold rowW; rw [List.length_map, List.length_map, List.length_range]; exact small1000 (by omega), ?_, Same.mut s1 nZ⟩
        rw [upd_same, ← ev]
        unfold rowW
        rw [List.range_succ, List.map_append, List.map_append]
        rfl
      refine ⟨rfl, .int j, rfl, .ref D, rfl, D, _, rfl, DGet.k (k := Sum.inl (j : Int)) h1, _, rfl, ?_⟩
      by_cases hin : (j : Int) ∈ ws.map (·.1)
      · obtain ⟨kk, f, he⟩ := we_key hin
        obtain ⟨a, ev, ha⟩ := wes_some h2 nd he
        rw [ev]
        have wl : weL ((j : Int), kk, f) = .int (kk : Nat) :: (weL ((j : Int), kk, f)).tail := by cases f <;> rfl
        rw [wl] at ha
        refine ⟨.ref D, rfl, .int j, rfl, D, _, rfl, (by rw [← ev]; exact DGet.k (k := Sum.inl (j : Int)) h1), a, _, 0, .int (kk : Nat), rfl, rfl, SqT.of ha, at0 _ _, ?_⟩
        exact fin kk (by rw [lvW_some nd he]; rfl)
      · rw [wes_none h2 hin]
        exact ⟨.int far, rfl, fin far (by rw [lvW_none hin]; rfl)⟩
    · rintro H1 ⟨hZ, s1⟩
      exact ⟨Z, _, rfl, .inl ⟨SqL.of hZ, fun r nr => q r _ (s1.trans (same_new nr)) upd_same⟩⟩
end
/-! ### shortest_odd -/
theorem rgV_rng' (n : Nat) : rgV 0 n = lf (fun i => i) n := by
  unfold rgV lf rng
  rw [List.map_map]
  show (List.range ((n : Int) - 0).toNat).map _ = _
  rw [show ((n : Int) - 0).toNat = n from by omega]
  refine List.map_congr_left fun i _ => ?_
  show V.int (0 + (i : Nat)) = V.int ((i : Nat) : Int)
  rw [Int.zero_add]
theorem room65 {k : Nat} {A : PySem.Around} (r : Room k A) : A.units + 65 < cLine := by have := r.un; omega
def dN (ts : List Tie) : Int → List Nu := nN (dbl ts) (rng (dbl ts).length)
def Wks (ts : List Tie) (p : Nat) (ws : List We) : Prop := WF (dN ts) (2 * (p : Int)) ws
def odL (ws : List We) (p : Nat) : Option Nat := lvW ws (2 * (p : Int) + 1)
theorem dN_in {n : Nat} {ts : List Tie} (ok : ∀ t ∈ ts, TieOk n t) {x : Int} {q : Nu} (h : q ∈ dN ts x) : 0 ≤ q.1 ∧ q.1 < 2 * (n : Int) := by
  obtain ⟨h1, h2⟩ := mem_nN.mp h
  have hm := mem_rng.mp h1
  have o := dbl_ok ok (tieN (dbl ts) q.2.toNat) (by
    unfold tieN
    rw [List.getD_eq_getElem?_getD, List.getElem?_eq_getElem (by omega)]
    exact List.getElem_mem _)
  rcases h2 with ⟨_, e⟩ | ⟨e, _⟩
  · rw [← e]
    exact ⟨o.2.2.1, o.2.2.2.1⟩
  · rw [← e]
    exact ⟨o.1, o.2.1⟩
def lens (W : Nat → List We) (j : Nat) : List (Int × Int) := (List.range j).filterMap fun p : Nat => (odL (W p) p).map fun k : Nat => ((k : Int), (p : Int))
theorem lens_succ (W : Nat → List We) (j : Nat) : lens W (j + 1) = lens W j ++ (match odL (W j) j with | some k => [((k : Int), (j : Int))] | none => []) := by
  unfold lens
  rw [List.range_succ, List.filterMap_append]
  cases h : odL (W j) j <;> simp [h]
theorem mem_lens {W : Nat → List We} {n : Nat} {q : Int × Int} : q ∈ lens W n ↔ ∃ p k : Nat, p < n ∧ odL (W p) p = some k ∧ q = ((k : Int), (p : Int)) := by
  unfold lens
  rw [List.mem_filterMap]
  constructor
  · rintro ⟨p, hp, e⟩
    obtain ⟨k, hk, rfl⟩ := Option.map_eq_some_iff.mp e
    exact ⟨p, k, List.mem_range.mp hp, hk, rfl⟩
  · rintro ⟨p, k, hp, hk, rfl⟩
    exact ⟨p, List.mem_range.mpr hp, by rw [hk]; rfl⟩
theorem lens_len (W : Nat → List We) (j : Nat) : (lens W j).length ≤ j := by
  unfold lens
  have := List.length_filterMap_le (fun p : Nat => (odL (W p) p).map fun k : Nat => ((k : Int), (p : Int))) (List.range j)
  rw [List.length_range] at this
  exact this
theorem WF.lev {N : Int → List Nu} {s : Int} {ws : List We} (h : WF N s ws) : ∀ (k : Nat) (y : Int) (f : Option (Int × Int)), (y, k, f) ∈ ws → ∃ l : List Int, l.length = k + 1 ∧ l.Nodup ∧ ∀ x ∈ l, ∃ j g, (x, j, g) ∈ ws ∧ j ≤ k
  | 0, y, f, hy => ⟨[y], rfl, by simp, fun x hx => ⟨0, f, by rw [List.mem_singleton.mp hx]; exact hy, Nat.le_refl _⟩⟩
  | k + 1, y, none, hy => by
    have := (h.non _ _ hy).2
    omega
  | k + 1, y, some (p, m), hy => by
    obtain ⟨j, g, hp, e, _⟩ := h.par _ _ _ _ hy
    have : j = k := by omega
    subst this
    obtain ⟨l, l1, l2, l3⟩ := WF.lev h j p g hp
    refine ⟨y :: l, by rw [List.length_cons, l1], List.nodup_cons.mpr ⟨fun hin => ?_, l2⟩, fun x hx => ?_⟩
    · obtain ⟨i, g', h1, h2⟩ := l3 y hin
      have := (we_one h.nd hy h1).1
      omega
    · rcases List.mem_cons.mp hx with z | z
      · exact ⟨j + 1, _, by rw [z]; exact hy, Nat.le_refl _⟩
      · obtain ⟨i, g', h1, h2⟩ := l3 x z
        exact ⟨i, g', h1, by omega⟩
def spShort : Sp := fun vs H Q _ => ∃ (wv : V) (n : Nat) (ts : List Tie), vs = [wv] ∧ WebAt H wv n ts ∧ WebOk n ts ∧
  (∀ (W : Nat → List We) H', (∀ p, p < n → Wks ts p (W p)) → (∀ p, p < n → odL (W p) p = none) → Same H H' → Q .non H') ∧
  ∀ (W : Nat → List We) (L s : Nat) (qs ns : List Int) (r rg ly a b : Addr) (rows : List V) H', (∀ p, p < n → Wks ts p (W p)) → s < n → odL (W s) s = some L → (∀ p k : Nat, p < n → odL (W p) p = some k → L < k ∨ (L = k ∧ s ≤ p)) → Way (dN ts) (2 * (s : Int) + 1) (2 * (s : Int)) qs ns → Exa (dN ts) (2 * (s : Int)) (2 * (s : Int) + 1) qs ns → ns.length = L → Same H H' → H' r = some (.tup [.ref rg, .ref ly]) → H' rg = some (.tup [.ref a, .ref b]) → H' a = some (.tup ((qs.dropLast.map (· / 2)).map V.int)) → H' b = some (.tup ((ns.map (· / 2)).map V.int)) → H' ly = some (.tup rows) → Paired (IntsV H') rows ((List.range n).map fun p => rowW (W p) L (2 * n)) → Q (.ref r) H'
section
variable {P : Program} {w : World} {K : PySem.W.Frag} {mg : Str → Option Value} {base : Heap}
theorem ok_shortest_odd {f : Addr} {fd : FuncData} (F : Fun K "shortest_odd" "shortest_odd" s_shortest_odd f fd) (M : Free mg) (m_enumerate : mg "enumerate" = none) (m_min : mg "min" = none) (D_doubled : Df P w K mg base 1 "doubled" ["web"] spDoubled) (D_ties_around : Df P w K mg base 1 "ties_around" ["web", "numbers"] spAround) (D_walk_from : Df P w K mg base 1 "walk_from" ["start", "around"] spWalkFrom) (D_way_to : Df P w K mg base 1 "way_to" ["end", "walk"] spWayTo) (D_halved : Df P w K mg base 1 "halved" ["way"] spHalved) (D_row_of : Df P w K mg base 1 "row_of" ["many", "walk", "far"] spRowOf) : FnOk P w K mg base CX0 2 f fd ["web"] spShort := by
  obtain ⟨f_doubled, fd_doubled, G_doubled, g_doubled, k_doubled, b_doubled⟩ := D_doubled
  obtain ⟨f_ties_around, fd_ties_around, G_ties_around, g_ties_around, k_ties_around, b_ties_around⟩ := D_ties_around
  obtain ⟨f_walk_from, fd_walk_from, G_walk_from, g_walk_from, k_walk_from, b_walk_from⟩ := D_walk_from
  obtain ⟨f_way_to, fd_way_to, G_way_to, g_way_to, k_way_to, b_way_to⟩ := D_way_to
  obtain ⟨f_halved, fd_halved, G_halved, g_halved, k_halved, b_halved⟩ := D_halved
  obtain ⟨f_row_of, fd_row_of, G_row_of, g_row_of, k_row_of, b_row_of⟩ := D_row_of
  refine F.ok sc_shortest_odd (fun vs H Q E h => ?_) (fun cdv A outer s H vs Q E hr h => ?_)
  · obtain ⟨wv, n, ts, rfl, _⟩ := h
    rfl
  · obtain ⟨wv, n, ts, rfl, hW, ok, qn, qs'⟩ := h
    have hu := room1 hr
    refine ⟨_, (pss_cons (ps_set (i := 1) sc_shortest_odd.nd rfl (.inr rfl) (pe_call G_doubled (hr.mono (by decide)) (by rfl) g_doubled k_doubled b_doubled .nil pass0 (pa_cons (pv 0) pa_nil)))
      (pss_cons (ps_set (i := 2) sc_shortest_odd.nd rfl (.inr rfl) (pe_call G_ties_around (hr.mono (by decide)) (by rfl) g_ties_around k_ties_around b_ties_around .nil pass0 (pa_cons (pv 1) (pa_cons (pe_listRg rfl (by rfl) M.list (prg_1 (by rfl) M.range (pe_callB call_len_seq (by rfl) M.len PySem.boot_len (pa_cons (pe_ix ix_tup (pv 1) pe_int (fun _ _ => rfl)) pa_nil)))) pa_nil))))
      (Evl.pss_cut (ps_setLc (i := 3) (own := [("place", 4)]) (g := (gName 4)) (tt := tYes) rfl sc_shortest_odd.nd rfl rfl (sw_true rfl rfl rfl (by decide +kernel)) (pi_range1 (by rfl) M.range (pa_cons (pe_ix ix_tup (pv 0) pe_int (fun _ _ => rfl)) pa_nil)) (blkOk_by (N := N_shortest_odd) (sc := defScope s_shortest_odd) (own := [("place", 4)]) (by decide +kernel)) (fun _ _ _ _ _ => (pg_name (i := 4) sc_shortest_odd.nd rfl (.inl rfl))) (fun _ _ _ _ _ => pts_nil) (fun _ _ _ _ _ => (pe_call G_walk_from (hr.mono (by decide)) (by rfl) g_walk_from k_walk_from b_walk_from .nil pass0 (pa_cons (pe_op op_mul pe_int (pv 4)) (pa_cons (pv 2) pa_nil)))))
      (Evl.pss_cut (ps_setLc (i := 5) (own := [("place", 4), ("walk", 6)]) (g := (gTup K 2 (gCons (gName 4) (gCons (gName 6) gNil)))) rfl sc_shortest_odd.nd rfl rfl (sw_true rfl rfl rfl (by decide +kernel)) (pi_enum (by rfl) m_enumerate (pa_cons (pv 3) pa_nil)) (blkOk_by (N := N_shortest_odd) (sc := defScope s_shortest_odd) (own := [("place", 4), ("walk", 6)]) (by decide +kernel)) (fun _ _ _ _ _ => (pg_tup rfl (pgs_cons (pg_name (i := 4) sc_shortest_odd.nd rfl (.inl rfl)) (pgs_cons (pg_name (i := 6) sc_shortest_odd.nd rfl (.inl rfl)) pgs_nil)))) (fun _ _ _ _ _ => (pts_one (pt_cmp (pc_din hu (pe_op op_add (pe_op op_mul pe_int (pv 4)) pe_int) (pv 6))))) (fun _ _ _ _ _ => (pe_tup (pa_cons (pe_ix (r := rIxT K) ix_tup (pe_dget hu (pv 6) (pe_op op_add (pe_op op_mul pe_int (pv 4)) pe_int) (fun _ _ => rfl)) pe_int (fun _ _ => rfl)) (pa_cons (pv 4) pa_nil)))))
      (pss_cons (ps_if (pt_not (pt_truth (pv 5) (by intro _; rfl)))
        (pss_one (ps_ret pe_non))
        pss_nil)
      (pss_cons (ps_asg (pe_callB (cr_minP rfl (room65 hr)) (by rfl) m_min (by decide +kernel) (pa_cons (pv 5) pa_nil)) (pg_tup rfl (pgs_cons (pg_name (i := 7) sc_shortest_odd.nd rfl (.inr rfl)) (pgs_cons (pg_name (i := 8) sc_shortest_odd.nd rfl (.inl rfl)) pgs_nil))))
      (pss_cons (ps_set (i := 9) sc_shortest_odd.nd rfl (.inl rfl) (pe_call G_halved (hr.mono (by decide)) (by rfl) g_halved k_halved b_halved .nil pass0 (pa_cons (pe_call G_way_to (hr.mono (by decide)) (by rfl) g_way_to k_way_to b_way_to .nil pass0 (pa_cons (pe_op op_add (pe_op op_mul pe_int (pv 8)) pe_int) (pa_cons (pe_ix ix_list (pv 3) (pv 8) (fun _ _ => rfl)) pa_nil))) pa_nil)))
      (pss_one (ps_ret (pe_tup (pa_cons (pv 9) (pa_cons (pe_callTy call_tuple_of (by rfl) M.tuple (by decide +kernel) (pa_cons (pe_lc (own := [("walk", 6)]) (g := (gName 6)) (tt := tYes) rfl sc_shortest_odd.nd (pi_list (pv 3)) (blkOk_by (N := N_shortest_odd) (sc := defScope s_shortest_odd) (own := [("walk", 6)]) (by decide +kernel)) (fun _ _ _ _ _ => (pg_name (i := 6) sc_shortest_odd.nd rfl (.inl rfl))) (fun _ _ _ _ _ => pts_nil) (fun _ _ _ _ _ => (pe_call G_row_of (hr.mono (by decide)) (by rfl) g_row_of k_row_of b_row_of .nil pass0 (pa_cons (pe_ix (r := rIxT K) ix_tup (pv 1) pe_int (fun _ _ => rfl)) (pa_cons (pv 6) (pa_cons (pv 7) pa_nil)))))) pa_nil)) pa_nil)))))))))))), ?_⟩
    obtain ⟨wa, wb, us, ewv, hwa, hwb, hp⟩ := id hW
    have n1 : 1 ≤ n := by have := ok.lo; omega
    have n40 : n ≤ 40 := by have := ok.hi; omega
    have few := ok.few
    refine ⟨wv, rfl, wv, n, ts, rfl, hW, ok, fun dv H1 s1 hD => ?_⟩
    obtain ⟨da, db, dus, edv, hda, hdb, hdp⟩ := id hD
    have ld : dus.length = (dbl ts).length := Paired.length hdp
    have ldd := dbl_len ts
    refine ⟨dv, rfl, dv, rfl, da, _, 1, .ref db, by rw [edv], rfl, SqT.of hda, rfl, db, dus, rfl, .inr (SqT.of hdb), dus.length, rfl, RgOk.of_le (by decide) (by omega) (by decide) (by omega), fun Lr nLr => ?_⟩
    rw [rgV_rng']
    have eLr := same_new (o := .lst (lf (fun i => i) dus.length)) nLr
    refine ⟨dv, Lr, 2 * (n : Int), dbl ts, rng (dbl ts).length, rfl, hD.tk (Same.tk eLr), by omega, by rw [← ld]; exact upd_same, by rw [rng_length]; omega, fun m hm => mem_rng.mp hm, fun u H2 s2 hU => ?_⟩
    have s12 := (s1.trans eLr).trans s2
    have hD2 := hD.tk ((Same.tk eLr).trans (Same.tk s2))
    have hU : AroAt H2 u (dN ts) := hU
    have sD : Same H1 H2 := eLr.trans s2
    have hda2 := sD _ _ hda
    clear eLr
    -- the walks
    refine ⟨fun σ' H' => ∃ (y4 : Option V) (Lw : Addr) (As : List Addr) (W : Nat → List We), σ' = [some wv, some dv, some u, some (.ref Lw), y4, none, none, none, none, none] ∧ H' Lw = some (.lst (As.map V.ref)) ∧ As.length = n ∧ (∀ (p : Nat) a, As[p]? = some a → WalkAt H' a (W p) ∧ Wks ts p (W p) ∧ (W p).length ≤ 80) ∧ Same H2 H', ?_, ?_⟩
    · refine ⟨wv, rfl, wa, _, 0, .int n, by rw [ewv], rfl, SqT.of (s12 _ _ hwa), rfl, n, rfl, by omega, by omega, fun Z nZ => ?_⟩
      rw [Int.toNat_natCast]
      refine lc_range (lo := 0) (n := n) (fun j H' => ∃ (As : List Addr) (W : Nat → List We), H' Z = some (.lst (As.map V.ref)) ∧ As.length = j ∧ (∀ (p : Nat) a, As[p]? = some a → WalkAt H' a (W p) ∧ Wks ts p (W p) ∧ (W p).length ≤ 80) ∧ Same H2 H') ⟨[], fun _ => [], upd_same, rfl, fun p a e => (by simp at e), same_new nZ⟩ ?_ ?_
      · rintro j H3 hj ⟨As, W, hZ, la, each, s3⟩
        rw [show (0 : Int) + (j : Nat) = j from by omega]
        obtain ⟨U, Us, eu, hUs⟩ := id hU
        refine ⟨rfl, .int j, rfl, 2, j, rfl, rfl, .inl ⟨by decide, by decide⟩, u, rfl, u, 2 * n, 2 * (j : Int), dN ts, rfl, ⟨U, Us, eu, hUs.same s3⟩, by omega, by omega, by omega, fun x q hq => ?_, fun D ws H4 s4 hw wf lw => ?_⟩
        · have := dN_in ok.ok hq
          omega
        · have hZ4 := s4 _ _ hZ
          refine ⟨_, hZ4, by rw [List.length_map]; exact small1000 (by omega), As ++ [D], fun p => if p = j then ws else W p, by rw [upd_same, List.map_append]; rfl, by simp [la], fun p a ea => ?_, Same.mut (s3.trans s4) nZ⟩
          have up : ∀ {d : Addr} {vs : List We}, WalkAt H4 d vs → WalkAt (upd H4 Z (.lst (As.map V.ref ++ [.ref D]))) d vs := fun ⟨kvs, h1, h2⟩ => ⟨kvs, by rw [upd_ne (ne_of h1 hZ4 (by intro z; cases z))]; exact h1, wes_tk (tk_lst hZ4) h2⟩
          show WalkAt _ _ (if p = j then ws else W p) ∧ Wks ts p (if p = j then ws else W p) ∧ (if p = j then ws else W p).length ≤ 80
          by_cases hpj : p < As.length
          · rw [List.getElem?_append_left hpj] at ea
            obtain ⟨e1, e2, e3⟩ := each p a ea
            rw [if_neg (by omega)]
            exact ⟨up (e1.same s4), e2, e3⟩
          · have : p = j := by
              have := (List.getElem?_eq_some_iff.mp ea).1
              rw [List.length_append] at this
              simp at this
              omega
            subst this
            rw [← la, List.getElem?_append_right (Nat.le_refl _)] at ea
            have : D = a := by simpa using ea
            subst this
            rw [if_pos rfl]
            exact ⟨up hw, wf, by omega⟩
      · rintro H3 ⟨As, W, hZ, la, each, s3⟩
        exact ⟨_, Z, As, W, rfl, hZ, la, each, s3⟩
    rintro σ' H3 ⟨y4, Lw, As, W, rfl, hLw, la, each, s3⟩
    have wks : ∀ p, p < n → Wks ts p (W p) := fun p hp => (each p _ (List.getElem?_eq_getElem (by omega))).2.1
    -- the lengths
    refine ⟨fun σ' H' => ∃ (y4 y6 : Option V) (Ll : Addr) (xs : List V), σ' = [some wv, some dv, some u, some (.ref Lw), y4, some (.ref Ll), y6, none, none, none] ∧ H' Ll = some (.lst xs) ∧ Paired (PV2 H') xs (lens W n) ∧ Same H3 H', ?_, ?_⟩
    · refine ⟨.ref Lw, rfl, Lw, _, rfl, SqL.of hLw, fun Z nZ => ?_⟩
      refine lc_it (walk_enum (xs := As.map V.ref)) (fun i H' => ∃ xs : List V, H' Z = some (.lst xs) ∧ Paired (PV2 H') xs (lens W i) ∧ Same H3 H') ⟨[], upd_same, .nil, same_new nZ⟩ (fun i H' _ h => by
        obtain ⟨_, _, _, s⟩ := h
        exact SqL.of (s _ _ hLw)) ?_ ?_
      · rintro i x H4 H5 hi ⟨xs, hZ, hpx, s4⟩ ⟨Tp, x1, y1, rfl, nTp, rfl, gx, gy⟩
        obtain rfl : V.int (i : Nat) = x1 := Option.some.inj gx
        have gy : (As.map V.ref)[i]? = some y1 := gy
        rw [List.getElem?_map] at gy
        obtain ⟨D, eD, rfl⟩ := Option.map_eq_some_iff.mp gy
        have eT := same_new (o := .tup [.int (i : Nat), .ref D]) nTp
        obtain ⟨hw, wf, lw⟩ := each i D eD
        have hin : i < n := by have := (List.getElem?_eq_some_iff.mp eD).1; omega
        obtain ⟨kvs, h1, h2⟩ := hw.same (s4.trans eT)
        have lx : xs.length ≤ 40 := by
          have := Paired.length hpx
          have := lens_len W i
          omega
        have hZ5 := eT _ _ hZ
        refine ⟨Tp, _, rfl, SqT.of upd_same, rfl, _, _, rfl, _, _, rfl, rfl, rfl, ?_⟩
        refine ⟨.int (i : Nat), rfl, 2, i, rfl, rfl, .inl ⟨by decide, by decide⟩, _, 1, rfl, rfl, .ref D, rfl, D, _, rfl, DGet.k (k := Sum.inl (2 * (i : Int) + 1)) h1, _, rfl, ?_⟩
        by_cases hin2 : (2 * (i : Int) + 1) ∈ (W i).map (·.1)
        · obtain ⟨kk, f, he⟩ := we_key hin2
          obtain ⟨a, ev, ha⟩ := wes_some h2 wf.nd he
          rw [ev]
          have wl : weL (2 * (i : Int) + 1, kk, f) = .int (kk : Nat) :: (weL (2 * (i : Int) + 1, kk, f)).tail := by cases f <;> rfl
          rw [wl] at ha
          have eo : odL (W i) i = some kk := lvW_some wf.nd he
          refine ⟨.ref D, rfl, .int (i : Nat), rfl, 2, i, rfl, rfl, .inl ⟨by decide, by decide⟩, _, 1, rfl, rfl, D, _, rfl, (by rw [← ev]; exact DGet.k (k := Sum.inl (2 * (i : Int) + 1)) h1), a, _, 0, .int (kk : Nat), rfl, rfl, SqT.of ha, at0 _ _, .int (i : Nat), rfl, by show 2 ≤ sizeLine; decide, fun c nc => ?_⟩
          have ec := same_new (o := .tup [.int (kk : Nat), .int (i : Nat)]) nc
          refine ⟨xs, ec _ _ hZ5, small1000 (by omega), xs ++ [.ref c], upd_same, ?_, Same.mut ((s4.trans eT).trans ec) nZ⟩
          have tk := tk_lst (ys := xs ++ [.ref c]) (ec _ _ hZ5)
          rw [lens_succ, eo]
          refine Paired.snoc (Paired.mono (fun _ _ x => ?_) hpx) ⟨c, rfl, tk _ _ upd_same⟩
          obtain ⟨b, e, hb⟩ := x
          exact ⟨b, e, tk _ _ (ec _ _ (eT _ _ hb))⟩
        · rw [wes_none h2 hin2]
          have eo : odL (W i) i = none := lvW_none hin2
          refine ⟨xs, hZ5, ?_, s4.trans eT⟩
          rw [lens_succ, eo]
          simp only [List.append_nil]
          refine Paired.mono (fun _ _ x => ?_) hpx
          obtain ⟨b, e, hb⟩ := x
          exact ⟨b, e, eT _ _ hb⟩
      · rintro H4 ⟨xs, hZ, hpx, s4⟩
        rw [List.length_map, la] at hpx
        exact ⟨_, _, Z, xs, rfl, hZ, hpx, s4⟩
    rintro σ' H4 ⟨y4', y6, Ll, xs, rfl, hLl, hpx, s4⟩
    have sH4 := ((s12.trans s3).trans s4)
    refine ⟨.ref Ll, rfl, _, .inl ⟨_, SqL.of hLl, rfl⟩, ?_⟩
    by_cases hx : xs = []
    · subst hx
      refine qn W H4 wks (fun p hp => ?_) sH4
      cases hpe : lens W n with
      | nil =>
        cases ho : odL (W p) p with
        | none => rfl
        | some k =>
          have : ((k : Int), (p : Int)) ∈ lens W n := mem_lens.mpr ⟨p, k, hp, ho, rfl⟩
          rw [hpe] at this
          cases this
      | cons a l =>
        rw [hpe] at hpx
        cases hpx
    rw [show (!xs.isEmpty) = true from by cases xs; exact absurd rfl hx; rfl]
    have hne : lens W n ≠ [] := fun z => hx (List.length_eq_zero_iff.mp (by rw [Paired.length hpx, z]; rfl))
    refine ⟨.ref Ll, rfl, Ll, xs, lens W n, rfl, SqL.of hLl, hpx, hne, fun x p hxp hpm hmin => ?_⟩
    obtain ⟨s, L, hs, ho, rfl⟩ := mem_lens.mp hpm
    obtain ⟨c, rfl, hc⟩ := hxp
    refine ⟨c, _, rfl, SqT.of hc, rfl, _, _, rfl, _, _, rfl, rfl, ?_⟩
    have hLw4 := s4 _ _ hLw
    obtain ⟨hw, wf, lw⟩ := each s _ (List.getElem?_eq_getElem (show s < As.length by omega))
    have hw4 := hw.same s4
    obtain ⟨f, he⟩ : ∃ f, (2 * (s : Int) + 1, L, f) ∈ W s := by
      by_cases hin : (2 * (s : Int) + 1) ∈ (W s).map (·.1)
      · obtain ⟨kk, f, he⟩ := we_key hin
        have := lvW_some wf.nd he
        unfold odL at ho
        rw [ho] at this
        cases this
        exact ⟨f, he⟩
      · have := lvW_none hin
        unfold odL at ho
        rw [ho] at this
        cases this
    have lowL : L ≤ 100 := by
      obtain ⟨l, l1, l2, l3⟩ := WF.lev wf L _ f he
      have := pigeon (2 * n) l l2 fun x hx => by
        obtain ⟨j, g, h1, _⟩ := l3 x hx
        have r := WF.rg (n := 2 * (n : Int)) wf ⟨by omega, by omega⟩ (fun x q hq => dN_in ok.ok hq) (List.mem_map.mpr ⟨_, h1, rfl⟩)
        exact ⟨r.1, by have := r.2; push_cast; exact this⟩
      omega
    refine ⟨.int s, rfl, 2, s, rfl, rfl, .inl ⟨by decide, by decide⟩, _, 1, rfl, rfl, .ref Lw, rfl, .int s, rfl, Lw, _, s, _, rfl, rfl, SqL.of hLw4, atI_nat (by rw [List.getElem?_map, List.getElem?_eq_getElem (show s < As.length by omega)]; rfl), 2 * (s : Int) + 1, 2 * (s : Int), _, W s, dN ts, L, f, rfl, hw4, wf, he, (by omega), fun r a b qs ns H5 s5 hr5 ha5 hb5 way exa ln => ?_⟩
    have lq := way.len
    refine ⟨r, a, b, qs, ns, rfl, hr5, ha5, hb5, by omega, by omega, fun r' a' b' H6 s6 hr6 ha6 hb6 => ?_⟩
    -- the rows
    have s36 := (s4.trans s5).trans s6
    have hLw6 := s36 _ _ hLw
    refine ⟨.ref r', rfl, .ref Lw, rfl, Lw, rfl, ⟨_, SqL.of hLw6⟩, fun Z nZ => ?_⟩
    refine lc_list (xs := As.map V.ref) (fun j H' => ∃ rows, H' Z = some (.lst rows) ∧ Paired (IntsV H') rows ((List.range j).map fun p => rowW (W p) L (2 * n)) ∧ Same H6 H') ⟨[], upd_same, .nil, same_new nZ⟩ (fun j H' _ h => by
      obtain ⟨_, _, _, s⟩ := h
      exact SqL.of (s _ _ hLw6)) ?_ ?_
    · rintro j x H7 ex ⟨rows, hZ, hpr, s7⟩
      rw [List.getElem?_map] at ex
      obtain ⟨D, eD, rfl⟩ := Option.map_eq_some_iff.mp ex
      obtain ⟨hwj, wfj, lwj⟩ := each j D eD
      have lr : rows.length = j := by rw [Paired.length hpr, List.length_map, List.length_range]
      have hjn : j < n := by have := (List.getElem?_eq_some_iff.mp eD).1; omega
      refine ⟨rfl, dv, rfl, da, _, 0, .int (2 * (n : Int)), by rw [edv], rfl, SqT.of (((s3.trans s36).trans s7) _ _ hda2), rfl, .ref D, rfl, .int (L : Nat), rfl, 2 * n, D, (L : Nat), W j, by show [V.int (2 * (n : Int)), V.ref D, V.int (L : Nat)] = [V.int ((2 * n : Nat) : Int), V.ref D, V.int (L : Nat)]; rw [show ((2 * n : Nat) : Int) = 2 * (n : Int) from by omega], by omega, hwj.same (s36.trans s7), wfj.nd, fun r2 H8 s8 h8 => ?_⟩
      have hZ8 := s8 _ _ hZ
      refine ⟨rows, hZ8, small1000 (by omega), rows ++ [.ref r2], upd_same, ?_, Same.mut (s7.trans s8) nZ⟩
      have tk := tk_lst (ys := rows ++ [.ref r2]) hZ8
      rw [List.range_succ, List.map_append]
      exact Paired.snoc (Paired.mono (fun _ _ x => (x.tk (Same.tk s8)).tk tk) hpr) ⟨r2, rfl, tk _ _ h8⟩
    · rintro H7 ⟨rows, hZ, hpr, s7⟩
      rw [List.length_map, la] at hpr
      refine ⟨Z, _, rfl, .inl ⟨SqL.of hZ, fun ly nly => ⟨by show 2 ≤ sizeLine; decide, fun rr nrr => ?_⟩⟩⟩
      have e1 := same_new (o := .tup rows) nly
      have e2 := same_new (o := .tup [.ref r', .ref ly]) nrr
      have s78 := (s7.trans e1).trans e2
      refine qs' W L s qs ns rr r' ly a' b' rows _ wks hs ho (fun p k hp hk => ?_) way exa ln (((sH4.trans s5).trans s6).trans s78) upd_same (s78 _ _ hr6) (s78 _ _ ha6) (s78 _ _ hb6) (e2 _ _ upd_same) (Paired.mono (fun _ _ x => x.tk (Same.tk (e1.trans e2))) hpr)
      have := hmin _ (mem_lens.mpr ⟨p, k, hp, hk, rfl⟩)
      unfold lexle at this
      simp only at this
      omega
end
/-! ### walks by their length (mathematics) -/
theorem Way.head {N : Int → List Nu} {e s : Int} {qs ns : List Int} (h : Way N e s qs ns) : qs[0]? = some s := by cases h <;> rfl
theorem Way.last {N : Int → List Nu} {e s : Int} {qs ns : List Int} (h : Way N e s qs ns) : qs[ns.length]? = some e := by
  induction h with
  | one => rfl
  | cons _ _ _ ih => simpa using ih
theorem Way.each {N : Int → List Nu} {e s : Int} {qs ns : List Int} (h : Way N e s qs ns) : ∀ k : Nat, k < ns.length → ∃ x y m, qs[k]? = some x ∧ qs[k + 1]? = some y ∧ ns[k]? = some m ∧ (y, m) ∈ N x := by
  induction h with
  | one => exact fun k hk => absurd hk (by simp)
  | cons w hm _ ih =>
    intro k hk
    cases k with
    | zero => exact ⟨_, _, _, rfl, by simpa using w.head, rfl, hm⟩
    | succ k =>
      obtain ⟨x, y, m, h1, h2, h3, h4⟩ := ih k (by simpa using hk)
      exact ⟨x, y, m, by simpa using h1, by simpa using h2, by simpa using h3, h4⟩
inductive RPk (ts : List Tie) (x : Int) : Nat → Int → Bool → Prop
  | nil : RPk ts x 0 x false
  | step {k : Nat} {y z : Int} {b f : Bool} : RPk ts x k y b → Adj ts y z f → RPk ts x (k + 1) z (b ^^ f)
def oB (x : Int) : Bool := decide (x % 2 = 1)
theorem bI_xor (b f : Bool) : bI (b ^^ f) = (bI b + bI f) % 2 := by cases b <;> cases f <;> rfl
theorem oB_bI (y : Int) (b : Bool) : oB (2 * y + bI b) = b := by
  have := bI01 b
  unfold oB
  cases b
  · show decide ((2 * y + 0) % 2 = 1) = false
    exact decide_eq_false (by omega)
  · show decide ((2 * y + 1) % 2 = 1) = true
    exact decide_eq_true (by omega)
theorem oB_add {x z : Int} {f : Bool} (h : z % 2 = (x % 2 + bI f) % 2) : oB z = (oB x ^^ f) := by
  unfold oB
  have hx : x % 2 = 0 ∨ x % 2 = 1 := by omega
  rw [h]
  rcases hx with e | e <;> rw [e] <;> cases f <;> rfl
/-- a step in the doubled web -/
theorem dN_to {ts : List Tie} {x z m : Int} (h : (z, m) ∈ dN ts x) : ∃ (i : Nat) (t : Tie), ts[i]? = some t ∧ m / 2 = (i : Int) ∧ 0 ≤ m ∧ ((t.one = x / 2 ∧ t.other = z / 2) ∨ (t.one = z / 2 ∧ t.other = x / 2)) ∧ z % 2 = (x % 2 + bI t.foe) % 2 := by
  obtain ⟨h1, h2⟩ := mem_nN.mp h
  obtain ⟨m0, m1⟩ := mem_rng.mp h1
  simp only at h2 m0 m1
  rw [dbl_len] at m1
  have hi : (m / 2).toNat < ts.length := by omega
  obtain ⟨g1, g2⟩ := dbl_get ts (m / 2).toNat
  rw [List.getElem?_eq_getElem hi] at g1 g2
  have b01 := bI01 (ts[(m / 2).toNat]).foe
  have hm : m % 2 = 0 ∨ m % 2 = 1 := by omega
  rcases hm with hm | hm
  · have e : m.toNat = 2 * (m / 2).toNat := by omega
    rw [e, tieN_of g1] at h2
    refine ⟨(m / 2).toNat, _, List.getElem?_eq_getElem hi, by omega, m0, ?_, ?_⟩
    · rcases h2 with ⟨a, b⟩ | ⟨a, b⟩
      · left
        have a : 2 * (ts[(m / 2).toNat]).one = x := a
        have b : 2 * (ts[(m / 2).toNat]).other + bI (ts[(m / 2).toNat]).foe = z := b
        omega
      · right
        have a : 2 * (ts[(m / 2).toNat]).one = z := a
        have b : 2 * (ts[(m / 2).toNat]).other + bI (ts[(m / 2).toNat]).foe = x := b
        omega
    · rcases h2 with ⟨a, b⟩ | ⟨a, b⟩
      · have a : 2 * (ts[(m / 2).toNat]).one = x := a
        have b : 2 * (ts[(m / 2).toNat]).other + bI (ts[(m / 2).toNat]).foe = z := b
        omega
      · have a : 2 * (ts[(m / 2).toNat]).one = z := a
        have b : 2 * (ts[(m / 2).toNat]).other + bI (ts[(m / 2).toNat]).foe = x := b
        omega
  · have e : m.toNat = 2 * (m / 2).toNat + 1 := by omega
    rw [e, tieN_of g2] at h2
    refine ⟨(m / 2).toNat, _, List.getElem?_eq_getElem hi, by omega, m0, ?_, ?_⟩
    · rcases h2 with ⟨a, b⟩ | ⟨a, b⟩
      · left
        have a : 2 * (ts[(m / 2).toNat]).one + 1 = x := a
        have b : 2 * (ts[(m / 2).toNat]).other + 1 - bI (ts[(m / 2).toNat]).foe = z := b
        omega
      · right
        have a : 2 * (ts[(m / 2).toNat]).one + 1 = z := a
        have b : 2 * (ts[(m / 2).toNat]).other + 1 - bI (ts[(m / 2).toNat]).foe = x := b
        omega
    · rcases h2 with ⟨a, b⟩ | ⟨a, b⟩
      · have a : 2 * (ts[(m / 2).toNat]).one + 1 = x := a
        have b : 2 * (ts[(m / 2).toNat]).other + 1 - bI (ts[(m / 2).toNat]).foe = z := b
        omega
      · have a : 2 * (ts[(m / 2).toNat]).one + 1 = z := a
        have b : 2 * (ts[(m / 2).toNat]).other + 1 - bI (ts[(m / 2).toNat]).foe = x := b
        omega
theorem dN_adj {ts : List Tie} {x z m : Int} (h : (z, m) ∈ dN ts x) : ∃ f, Adj ts (x / 2) (z / 2) f ∧ z % 2 = (x % 2 + bI f) % 2 := by
  obtain ⟨i, t, et, _, _, h1, h2⟩ := dN_to h
  exact ⟨t.foe, ⟨t, List.mem_of_getElem? et, rfl, h1⟩, h2⟩
theorem dN_of {ts : List Tie} {y z : Int} {f b : Bool} (h : Adj ts y z f) : ∃ m, (2 * z + bI (b ^^ f), m) ∈ dN ts (2 * y + bI b) := by
  obtain ⟨t, ht, rfl, q⟩ := h
  obtain ⟨i, hi⟩ := List.getElem?_of_mem ht
  have hl := (List.getElem?_eq_some_iff.mp hi).1
  obtain ⟨g1, g2⟩ := dbl_get ts i
  rw [hi] at g1 g2
  have dl := dbl_len ts
  have mk : ∀ (m : Nat) (T : Tie), (dbl ts)[m]? = some T → Jn T (2 * y + bI b) (2 * z + bI (b ^^ t.foe)) → ∃ m, (2 * z + bI (b ^^ t.foe), m) ∈ dN ts (2 * y + bI b) := fun m T hm hj => by
    have := (List.getElem?_eq_some_iff.mp hm).1
    refine ⟨(m : Int), mem_nN.mpr ⟨mem_rng.mpr ⟨by omega, by show (m : Int) < _; omega⟩, ?_⟩⟩
    show Jn (tieN (dbl ts) ((m : Nat) : Int).toNat) _ _
    rw [Int.toNat_natCast, tieN_of hm]
    exact hj
  rw [bI_xor] at mk ⊢
  have b01 := bI01 b
  have f01 := bI01 t.foe
  rcases q with ⟨q1, q2⟩ | ⟨q1, q2⟩
  · rcases b01 with e | e
    · refine mk (2 * i) _ g1 (.inl ⟨?_, ?_⟩)
      · show 2 * t.one = _; omega
      · show 2 * t.other + bI t.foe = _; omega
    · refine mk (2 * i + 1) _ g2 (.inl ⟨?_, ?_⟩)
      · show 2 * t.one + 1 = _; omega
      · show 2 * t.other + 1 - bI t.foe = _; omega
  · have hs : (bI b + bI t.foe) % 2 = 0 ∨ (bI b + bI t.foe) % 2 = 1 := by omega
    rcases hs with e | e
    · refine mk (2 * i) _ g1 (.inr ⟨?_, ?_⟩)
      · show 2 * t.one = _; omega
      · show 2 * t.other + bI t.foe = _; omega
    · refine mk (2 * i + 1) _ g2 (.inr ⟨?_, ?_⟩)
      · show 2 * t.one + 1 = _; omega
      · show 2 * t.other + 1 - bI t.foe = _; omega
theorem wks_walk {ts : List Tie} {p : Nat} {ws : List We} (h : Wks ts p ws) : ∀ (k : Nat) (x : Int) (f : Option (Int × Int)), (x, k, f) ∈ ws → RPk ts p k (x / 2) (oB x)
  | 0, x, none, hx => by
    obtain ⟨e, _⟩ := h.non _ _ hx
    have e1 : x / 2 = p := by omega
    have e2 : oB x = false := decide_eq_false (by omega)
    rw [e1, e2]
    exact .nil
  | 0, x, some (q, m), hx => by
    obtain ⟨j, g, _, e, _⟩ := h.par _ _ _ _ hx
    omega
  | k + 1, x, none, hx => by
    have := (h.non _ _ hx).2
    omega
  | k + 1, x, some (q, m), hx => by
    obtain ⟨j, g, hp, e, hm⟩ := h.par _ _ _ _ hx
    have : j = k := by omega
    subst this
    have r := wks_walk h j q g hp
    obtain ⟨f, ad, pr⟩ := dN_adj hm
    rw [oB_add pr]
    exact .step r ad
theorem walk_wks {ts : List Tie} {p : Nat} {ws : List We} (h : Wks ts p ws) {k : Nat} {y : Int} {b : Bool} (r : RPk ts p k y b) : ∃ j f, (2 * y + bI b, j, f) ∈ ws ∧ j ≤ k := by
  induction r with
  | nil => exact ⟨0, none, by show (2 * (p : Int) + 0, 0, none) ∈ ws; rw [Int.add_zero]; exact h.root, Nat.le_refl _⟩
  | step r ad ih =>
    obtain ⟨j, f, he, hj⟩ := ih
    obtain ⟨m, hm⟩ := dN_of ad
    obtain ⟨k', f', h1, h2⟩ := h.cl _ he _ hm
    exact ⟨k', f', h1, by simp only at h2; omega⟩
theorem odL_some {ts : List Tie} {p L : Nat} {ws : List We} (h : Wks ts p ws) : odL ws p = some L ↔ RPk ts p L p true ∧ ∀ k, RPk ts p k p true → L ≤ k := by
  have key : ∀ k f, (2 * (p : Int) + 1, k, f) ∈ ws → RPk ts p k p true := fun k f he => by
    have r := wks_walk h k _ f he
    rw [show (2 * (p : Int) + 1) / 2 = p from by omega, show oB (2 * (p : Int) + 1) = true from oB_bI p true] at r
    exact r
  constructor
  · intro e
    by_cases hin : (2 * (p : Int) + 1) ∈ ws.map (·.1)
    · obtain ⟨k, f, he⟩ := we_key hin
      have : odL ws p = some k := lvW_some h.nd he
      rw [e] at this
      cases this
      refine ⟨key _ _ he, fun k r => ?_⟩
      obtain ⟨j, g, h1, h2⟩ := walk_wks h r
      have := (we_one h.nd he h1).1
      omega
    · have : odL ws p = none := lvW_none hin
      rw [e] at this
      cases this
  · rintro ⟨r, least⟩
    obtain ⟨j, g, h1, h2⟩ := walk_wks h r
    have e : odL ws p = some j := lvW_some h.nd h1
    have := least j (key _ _ h1)
    rw [e]
    congr 1
    omega
theorem odL_none {ts : List Tie} {p : Nat} {ws : List We} (h : Wks ts p ws) : odL ws p = none ↔ ∀ k, ¬ RPk ts p k p true := by
  constructor
  · intro e k r
    obtain ⟨j, g, h1, _⟩ := walk_wks h r
    have : odL ws p = some j := lvW_some h.nd h1
    rw [e] at this
    cases this
  · intro no
    cases e : odL ws p with
    | none => rfl
    | some L => exact absurd ((odL_some h).mp e).1 (no L)
/-! ### the law's own distances -/
theorem nb_adj {ts : List Tie} {x : Int} {q : Int × Int} (h : q ∈ nb ts x) : ∃ f, Adj ts x q.1 f ∧ q.2 = bI f := by
  obtain ⟨t, ht, h1, h2⟩ := mem_nb.mp h
  refine ⟨t.foe, ⟨t, ht, rfl, ?_⟩, h2⟩
  rcases h1 with ⟨a, b⟩ | ⟨a, b⟩
  · exact .inl ⟨a.symm, b.symm⟩
  · exact .inr ⟨b.symm, a.symm⟩
theorem far_walk {ts : List Tie} {p n : Nat} {es : List Sp3} (h : Far ts p n es) : ∀ (k : Nat) (e : Sp3), e ∈ es → e.2.2 = (k : Int) → RPk ts p k e.1 (oB e.2.1)
  | k, e, he, hk => by
    rcases h.par e he with z | ⟨c, hc, q, hq, z⟩
    · subst z
      have : k = 0 := by
        have hk : (0 : Int) = k := hk
        omega
      subst this
      exact .nil
    · have v0 := (h.ok c hc).v
      subst z
      have hk : c.2.2 + 1 = (k : Int) := hk
      obtain ⟨k', rfl⟩ : ∃ k', k = k' + 1 := ⟨k - 1, by omega⟩
      have r := far_walk h k' c hc (by omega)
      obtain ⟨f, ad, e2⟩ := nb_adj hq
      have eo : oB ((c.2.1 + q.2) % 2) = (oB c.2.1 ^^ f) := by
        refine oB_add ?_
        rw [e2]
        have := bI01 f
        omega
      show RPk ts p (k' + 1) q.1 (oB ((c.2.1 + q.2) % 2))
      rw [eo]
      exact .step r ad
theorem walk_far {ts : List Tie} {p n : Nat} {es : List Sp3} (h : Far ts p n es) {k : Nat} {y : Int} {b : Bool} (r : RPk ts p k y b) : ∃ v, (y, bI b, v) ∈ es ∧ v ≤ k := by
  induction r with
  | nil => exact ⟨0, h.root, Int.le_refl _⟩
  | @step k y z b f r ad ih =>
    obtain ⟨v, he, hv⟩ := ih
    obtain ⟨t, ht, rfl, q⟩ := ad
    obtain ⟨u, h1, h2⟩ := h.cl _ he (z, bI t.foe) (mem_nb.mpr ⟨t, ht, by
      rcases q with ⟨a, b⟩ | ⟨a, b⟩
      · exact .inl ⟨a.symm, b.symm⟩
      · exact .inr ⟨b.symm, a.symm⟩, rfl⟩)
    simp only at h1 h2
    rw [← bI_xor] at h1
    exact ⟨u, h1, by omega⟩
theorem far_od {ts : List Tie} {p n : Nat} {es : List Sp3} {ws : List We} (h : Far ts p n es) (g : Wks ts p ws) : farV es p 1 = (odL ws p).map fun k : Nat => (k : Int) := by
  cases e : odL ws p with
  | none =>
    have no := (odL_none g).mp e
    refine farV_none fun z => ?_
    obtain ⟨v, hv⟩ := key_in z
    have v0 := (h.ok _ hv).v
    exact no v.toNat (far_walk h v.toNat _ hv (by show v = _; simp only at v0; omega))
  | some L =>
    obtain ⟨r, least⟩ := (odL_some g).mp e
    obtain ⟨v, hv, hl⟩ := walk_far h r
    have hv : ((p : Int), 1, v) ∈ es := hv
    have v0 := (h.ok _ hv).v
    simp only at v0
    have := least v.toNat (far_walk h v.toNat _ hv (by show v = _; omega))
    rw [farV_some h.nd hv]
    show some v = some (L : Int)
    congr 1
    omega
/-! ### rows and layers -/
def gI (row : List Int) (i : Int) : Int := row.getD i.toNat 0
def nearZ (a b : Int) : Bool := decide (a - b ≤ 1) && decide (b - a ≤ 1)
def nearI (row : List Int) (t : Tie) : Bool := nearZ (gI row (2 * t.one)) (gI row (2 * t.other + bI t.foe)) && nearZ (gI row (2 * t.one + 1)) (gI row (2 * t.other + 1 - bI t.foe))
structure RowG (ts : List Tie) (n : Nat) (s : Int) (row : List Int) : Prop where
  len : row.length = 2 * n
  pos : ∀ x ∈ row, 0 ≤ x
  zero : gI row (2 * s) = 0
  near : ∀ t ∈ ts, nearI row t = true
def rowL (f : Int → Int → Int) : Nat → List Int
  | 0 => []
  | n + 1 => rowL f n ++ [f n 0, f n 1]
theorem rowL_len (f : Int → Int → Int) : ∀ n, (rowL f n).length = 2 * n
  | 0 => rfl
  | n + 1 => by
    show (rowL f n ++ [f n 0, f n 1]).length = _
    rw [List.length_append, rowL_len f n]
    show 2 * n + 2 = _
    omega
theorem rowL_get (f : Int → Int → Int) {x o : Int} (h0 : 0 ≤ x) (ho : o = 0 ∨ o = 1) : ∀ {n : Nat}, x < n → gI (rowL f n) (2 * x + o) = f x o
  | 0, h => by omega
  | n + 1, h => by
    show (rowL f n ++ [f n 0, f n 1]).getD (2 * x + o).toNat 0 = _
    rw [List.getD_eq_getElem?_getD]
    by_cases e : x < n
    · rw [List.getElem?_append_left (by rw [rowL_len]; omega)]
      have := rowL_get f h0 ho e
      unfold gI at this
      rw [List.getD_eq_getElem?_getD] at this
      exact this
    · have e : x = n := by omega
      subst e
      rw [List.getElem?_append_right (by rw [rowL_len]; omega), rowL_len]
      rcases ho with rfl | rfl
      · rw [show ((2 * ((n : Nat) : Int) + 0).toNat - 2 * n) = 0 from by omega]
        rfl
      · rw [show ((2 * ((n : Nat) : Int) + 1).toNat - 2 * n) = 1 from by omega]
        rfl
theorem rowL_mem (f : Int → Int → Int) {v : Int} : ∀ {n : Nat}, v ∈ rowL f n → ∃ x o, v = f x o
  | n + 1, h => by
    rcases List.mem_append.mp h with z | z
    · exact rowL_mem f z
    · simp only [List.mem_cons, List.not_mem_nil, or_false] at z
      rcases z with z | z
      · exact ⟨_, _, z⟩
      · exact ⟨_, _, z⟩
def numV (es : List Sp3) (bey cap : Int) (half : Bool) (x o : Int) : Int := let v := (farV es x o).getD bey; let u := if half = true then v / 2 else v; if cap < u then cap else u
theorem num_near {u v cap : Int} {half : Bool} (h1 : u ≤ v + 1) (h2 : v ≤ u + 1) : nearZ (let w := if half = true then u / 2 else u; if cap < w then cap else w) (let w := if half = true then v / 2 else v; if cap < w then cap else w) = true := by
  unfold nearZ
  simp only [Bool.and_eq_true, decide_eq_true_eq]
  cases half
  · simp only [Bool.false_eq_true, if_false]
    constructor <;> split <;> split <;> omega
  · simp only [if_true]
    constructor <;> split <;> split <;> omega
theorem numV_near {ts : List Tie} {s : Int} {n : Nat} {es : List Sp3} {bey cap : Int} {half : Bool} (h : Far ts s n es) {t : Tie} (ht : t ∈ ts) {o : Int} (ho : o = 0 ∨ o = 1) : nearZ (numV es bey cap half t.one o) (numV es bey cap half t.other ((o + bI t.foe) % 2)) = true := by
  unfold numV
  rcases h.along ht ho with ⟨e1, e2⟩ | ⟨u, v, e1, e2, _, _, l1, l2⟩
  · rw [e1, e2]
    exact num_near (by omega) (by omega)
  · rw [e1, e2]
    exact num_near l1 l2
theorem numV_pos {ts : List Tie} {s : Int} {n : Nat} {es : List Sp3} {bey cap : Int} {half : Bool} (h : Far ts s n es) (hb : 0 ≤ bey) (hc : 0 ≤ cap) (x o : Int) : 0 ≤ numV es bey cap half x o := by
  have : 0 ≤ (farV es x o).getD bey := by
    by_cases e : (x, o) ∈ es.map key2
    · obtain ⟨v, hv⟩ := key_in e
      rw [farV_some h.nd hv]
      exact (h.ok _ hv).v
    · rw [farV_none e]
      exact hb
  unfold numV
  simp only
  cases half
  · simp only [Bool.false_eq_true, if_false]
    split <;> omega
  · simp only [if_true]
    split <;> omega
theorem row_good {ts : List Tie} {s : Int} {n : Nat} {es : List Sp3} {bey cap : Int} {half : Bool} (h : Far ts s n es) (ok : WebOk n ts) (hs : 0 ≤ s ∧ s < n) (hb : 0 ≤ bey) (hc : 0 ≤ cap) : RowG ts n s (rowL (numV es bey cap half) n) := by
  refine ⟨rowL_len _ _, fun x hx => ?_, ?_, fun t ht => ?_⟩
  · obtain ⟨a, b, rfl⟩ := rowL_mem _ hx
    exact numV_pos h hb hc a b
  · have := rowL_get (numV es bey cap half) (o := 0) hs.1 (.inl rfl) hs.2
    rw [Int.add_zero] at this
    rw [this]
    unfold numV
    rw [farV_some h.nd h.root]
    simp only [Option.getD_some]
    cases half <;> simp <;> omega
  · have o := ok.ok t ht
    have n0 := numV_near (bey := bey) (cap := cap) (half := half) h ht (o := 0) (.inl rfl)
    have n1 := numV_near (bey := bey) (cap := cap) (half := half) h ht (o := 1) (.inr rfl)
    have g1 := rowL_get (numV es bey cap half) (o := 0) o.1 (.inl rfl) o.2.1
    have g2 := rowL_get (numV es bey cap half) (o := 1) o.1 (.inr rfl) o.2.1
    have g3 := rowL_get (numV es bey cap half) (o := 0) o.2.2.1 (.inl rfl) o.2.2.2.1
    have g4 := rowL_get (numV es bey cap half) (o := 1) o.2.2.1 (.inr rfl) o.2.2.2.1
    unfold nearI
    rw [Int.add_zero] at g1 g3
    cases hf : t.foe
    · rw [hf] at n0 n1
      have e0 : bI false = 0 := rfl
      rw [e0] at n0 n1 ⊢
      rw [Int.add_zero, Int.sub_zero, g1, g3, g2, g4]
      rw [show ((0 : Int) + 0) % 2 = 0 from rfl] at n0
      rw [show ((1 : Int) + 0) % 2 = 1 from rfl] at n1
      rw [n0, n1]
      rfl
    · rw [hf] at n0 n1
      have e0 : bI true = 1 := rfl
      rw [e0] at n0 n1 ⊢
      rw [Int.add_sub_cancel, g1, g4, g2, g3]
      rw [show ((0 : Int) + 1) % 2 = 1 from rfl] at n0
      rw [show ((1 : Int) + 1) % 2 = 0 from rfl] at n1
      rw [n0, n1]
      rfl
def spRow15 : Sp := fun vs H Q _ => ∃ (wv : V) (n : Nat) (ts : List Tie) (s bey cap : Int) (half : Bool), vs = [wv, .int s, .int bey, .int cap, .bl half] ∧ WebAt H wv n ts ∧ WebOk n ts ∧ (0 ≤ s ∧ s < n) ∧ 0 ≤ bey ∧ 0 ≤ cap ∧ ∀ r row H', Same H H' → H' r = some (.tup (row.map V.int)) → RowG ts n s row → Q (.ref r) H'
def LayAt (H : Hp) (v : V) (n : Nat) (ts : List Tie) (rs : List (List Int)) : Prop := ∃ a vs, v = .ref a ∧ H a = some (.tup vs) ∧ Paired (IntsV H) vs rs ∧ rs.length = n ∧ ∀ (s : Nat) row, rs[s]? = some row → RowG ts n s row
theorem LayAt.tk {H H' : Hp} (k : Tk H H') {v : V} {n : Nat} {ts : List Tie} {rs : List (List Int)} (h : LayAt H v n ts rs) : LayAt H' v n ts rs := by
  obtain ⟨a, vs, e, h1, h2, h3, h4⟩ := h
  exact ⟨a, vs, e, k _ _ h1, Paired.mono (fun _ _ x => x.tk k) h2, h3, h4⟩
def spLayers : Sp := fun vs H Q _ => ∃ (d : Addr) (b : Nat) (wv : V) (n : Nat) (ts : List Tie), vs = [.ref d, wv] ∧ Well H d b ∧ b < 2 ^ 50 ∧ WebAt H wv n ts ∧ WebOk n ts ∧ ∀ v rs H', LayAt H' v n ts rs → Well H' d (b + 200) → Kp d d H H' → Q v H'
section
variable {P : Program} {w : World} {K : PySem.W.Frag} {mg : Str → Option Value} {base : Heap}
theorem ok_l_row {f : Addr} {fd : FuncData} (F : Fun K "_law_row" "_law_row" s_l_row f fd) (M : Free mg) (m_min : mg "min" = none) (D_l_far : Df P w K mg base 1 "_law_far" ["_law_web_here", "_law_place"] spFar) : FnOk P w K mg base CX0 2 f fd ["_law_web_here", "_law_place", "_law_beyond", "_law_cap", "_law_half"] spRow15 := by
  obtain ⟨f_l_far, fd_l_far, G_l_far, g_l_far, k_l_far, b_l_far⟩ := D_l_far
  refine F.ok sc_l_row (fun vs H Q E h => ?_) (fun cdv A outer sh H vs Q E hr h => ?_)
  · obtain ⟨wv, n, ts, s, bey, cap, half, rfl, _⟩ := h
    rfl
  · obtain ⟨wv, n, ts, s, bey, cap, half, rfl, hW, ok, hs, hb, hc, q⟩ := h
    have hu := room1 hr
    refine ⟨_, (pss_cons (ps_set (i := 5) sc_l_row.nd rfl (.inl rfl) (pe_call G_l_far (hr.mono (by decide)) (by rfl) g_l_far k_l_far b_l_far .nil pass0 (pa_cons (pv 0) (pa_cons (pv 1) pa_nil))))
      (pss_cons (ps_set (i := 6) sc_l_row.nd rfl (.inl rfl) (pe_lst pa_nil))
      (pss_cons (ps_for PassesOwn.never rfl (pi_range1 (by rfl) M.range (pa_cons (pe_ix ix_tup (pv 0) pe_int (fun _ _ => rfl)) pa_nil)) (pg_name (i := 7) sc_l_row.nd rfl (.inl rfl))
        (pss_one (ps_for PassesOwn.never rfl (pi_tup (pe_tup (pa_cons pe_int (pa_cons pe_int pa_nil)))) (pg_name (i := 8) sc_l_row.nd rfl (.inl rfl))
          (pss_cons (ps_set (i := 9) sc_l_row.nd rfl (.inl rfl) (pe_dget2 hu (pv 5) (pe_tup (pa_cons (pv 7) (pa_cons (pv 8) pa_nil))) (pv 2) ⟨rfl, rfl, rfl, rfl⟩))
          (Evl.pss_cut (ps_if (pt_val (pv 4))
            (pss_one (ps_set (i := 9) sc_l_row.nd rfl (.inl rfl) (pe_op op_fdiv (pv 9) pe_int)))
            pss_nil)
          (pss_one (ps_expr (pe_bm PySem.F.plainAttrs_list PySem.F.slot_list_append PySem.F.type_list_append mt_append (pv 6) (pa_cons (pe_callB (call_min2 rfl) (by rfl) m_min (by decide +kernel) (pa_cons (pv 9) (pa_cons (pv 3) pa_nil))) pa_nil)))))))))
      (pss_one (ps_ret (pe_callTy call_tuple_of (by rfl) M.tuple (by decide +kernel) (pa_cons (pv 6) pa_nil))))))), ?_⟩
    obtain ⟨wa, wb, us, rfl, hwa, hwb, hp⟩ := id hW
    have n1 : 1 ≤ n := by have := ok.lo; omega
    have n40 : n ≤ 40 := by have := ok.hi; omega
    refine ⟨.ref wa, rfl, .int s, rfl, .ref wa, n, ts, s, rfl, hW, ok, hs, fun D es H1 s1 hD far few => ?_⟩
    refine ⟨Nat.zero_le _, fun L nL => ?_⟩
    have eL := same_new (o := .lst []) nL
    have nL0 : H L = none := s1.free nL
    have hD2 := eL _ _ hD
    have hL2 := upd_same (H := H1) (a := L) (o := .lst [])
    have s2 := s1.trans eL
    have hLD : L ≠ D := (ne_of_none hD nL).symm
    generalize upd H1 L (.lst []) = H2 at hD2 hL2 s2
    refine ⟨.ref wa, rfl, wa, _, 0, .int n, rfl, rfl, SqT.of (s2 _ _ hwa), rfl, n, rfl, by omega, by omega, ?_⟩
    rw [Int.toNat_natCast]
    refine for_range (lo := 0) (n := n) (fun i σ' H' => ∃ (y7 y8 y9 : Option V), σ' = [some (.ref wa), some (.int s), some (.int bey), some (.int cap), some (.bl half), some (.ref D), some (.ref L), y7, y8, y9] ∧ H' L = some (.lst ((rowL (numV es bey cap half) i).map V.int)) ∧ H' D = some (.dT (kv3 es)) ∧ Same H H') ⟨none, none, none, rfl, hL2, hD2, s2⟩ ?_ ?_
    · clear hL2 hD2 s2 eL nL hD s1
      rintro i σ' H3 hi ⟨y7, y8, y9, rfl, hL, hD, s3⟩
      rw [show (0 : Int) + (i : Nat) = i from by omega]
      refine ⟨by show 2 ≤ sizeLine; decide, fun t0 nt => ?_⟩
      have et := same_new (o := .tup [.int 0, .int 1]) nt
      refine ⟨t0, rfl, ⟨_, SqT.of upd_same⟩, ?_⟩
      refine for_tup (xs := [V.int 0, V.int 1]) (fun j σ' H' => ∃ (y8 y9 : Option V), σ' = [some (.ref wa), some (.int s), some (.int bey), some (.int cap), some (.bl half), some (.ref D), some (.ref L), some (.int i), y8, y9] ∧ H' t0 = some (.tup [.int 0, .int 1]) ∧ H' L = some (.lst ((rowL (numV es bey cap half) i ++ [numV es bey cap half i 0, numV es bey cap half i 1].take j).map V.int)) ∧ H' D = some (.dT (kv3 es)) ∧ Same H H') ⟨_, _, rfl, upd_same, by rw [List.take_zero, List.append_nil]; exact et _ _ hL, et _ _ hD, s3.trans et⟩ (fun j σ' H' _ h => by
        obtain ⟨_, _, _, h, _⟩ := h
        exact SqT.of h) ?_ ?_
      · clear hL hD s3
        rintro j v σ' H4 ev ⟨y8, y9, rfl, ht0, hL, hD, s4⟩
        obtain ⟨o, rfl, ho, hto⟩ : ∃ o : Int, v = .int o ∧ (o = 0 ∨ o = 1) ∧ [numV es bey cap half i 0, numV es bey cap half i 1].take (j + 1) = [numV es bey cap half i 0, numV es bey cap half i 1].take j ++ [numV es bey cap half i o] := by
          match j, ev with
          | 0, ev => exact ⟨0, (Option.some.inj ev).symm, .inl rfl, rfl⟩
          | 1, ev => exact ⟨1, (Option.some.inj ev).symm, .inr rfl, rfl⟩
          | j + 2, ev => simp at ev
        refine ⟨.ref D, rfl, D, rfl, .inr ⟨_, .inl hD⟩, .int i, rfl, .int o, rfl, by show 2 ≤ sizeLine; decide, fun k0 nk => ?_⟩
        have ek := same_new (o := .tup [.int i, .int o]) nk
        have hget : ∃ g : Option V, DGet (upd H4 k0 (.tup [.int i, .int o])) D (.ref k0) g ∧ g.getD (.int bey) = .int ((farV es i o).getD bey) := by
          refine ⟨_, DGet.t (k := [Sum.inl (i : Int), Sum.inl o]) (ek _ _ hD) upd_same, ?_⟩
          by_cases e : ((i : Int), o) ∈ es.map key2
          · obtain ⟨v, hv⟩ := key_in e
            rw [kv3_some far.nd hv, farV_some far.nd hv]
            rfl
          · rw [kv3_none e, farV_none e]
            rfl
        obtain ⟨g, hg, eg⟩ := hget
        refine ⟨.int bey, rfl, g, hg, ?_⟩
        rw [eg]
        have ht5 := ek _ _ ht0
        have hL5 := ek _ _ hL
        have hD5 := ek _ _ hD
        have s5 := s4.trans ek
        generalize upd H4 k0 (.tup [.int i, .int o]) = H5 at ht5 hL5 hD5 s5
        refine ⟨fun σ' H' => σ' = [some (.ref wa), some (.int s), some (.int bey), some (.int cap), some (.bl half), some (.ref D), some (.ref L), some (.int i), some (.int o), some (.int (if half = true then ((farV es i o).getD bey) / 2 else (farV es i o).getD bey))] ∧ H' = H5, ?_, ?_⟩
        · refine ⟨.bl half, rfl, half, rfl, ?_⟩
          cases half
          · exact ⟨rfl, rfl⟩
          · exact ⟨.int _, rfl, _, 2, rfl, rfl, ⟨by decide, by decide⟩, rfl, rfl⟩
        rintro σ' H' ⟨rfl, eH⟩
        subst eH
        have ll : ((rowL (numV es bey cap half) i ++ [numV es bey cap half i 0, numV es bey cap half i 1].take j).map V.int).length ≤ 100 := by
          rw [List.length_map, List.length_append, rowL_len, List.length_take]
          simp
          omega
        refine ⟨.ref L, rfl, .inl ⟨rfl, _, SqL.of hL5⟩, .int _, rfl, .int cap, rfl, _, cap, rfl, L, _, _, rfl, rfl, hL5, small1000 (by omega), ?_⟩
        refine ⟨_, _, rfl, by rw [upd_ne (ne_of ht5 hL5 (by intro z; cases z))]; exact ht5, ?_, by rw [upd_ne (Ne.symm hLD)]; exact hD5, Same.mut s5 nL0⟩
        rw [upd_same, hto]
        simp only [List.map_append, List.append_assoc]
        rfl
      · rintro σ' H4 ⟨y8, y9, rfl, ht0, hL, hD, s4⟩
        exact ⟨_, _, _, rfl, hL, hD, s4⟩
    · rintro σ' H3 ⟨y7, y8, y9, rfl, hL, hD, s3⟩
      refine ⟨.ref L, rfl, L, _, rfl, .inl ⟨SqL.of hL, fun r nr => ?_⟩⟩
      exact q r _ _ (s3.trans (same_new nr)) upd_same (row_good far ok hs hb hc)
theorem ok_l_layers {f : Addr} {fd : FuncData} (F : Fun K "_law_layers" "_law_layers" s_l_layers f fd) (M : Free mg) (D_l_draw : Df P w K mg base 1 "_law_draw" ["_law_well_here", "_law_many"] spDraw) (D_l_row : Df P w K mg base 2 "_law_row" ["_law_web_here", "_law_place", "_law_beyond", "_law_cap", "_law_half"] spRow15) : FnOk P w K mg base CX0 3 f fd ["_law_well_here", "_law_web_here"] spLayers := by
  obtain ⟨f_l_draw, fd_l_draw, G_l_draw, g_l_draw, k_l_draw, b_l_draw⟩ := D_l_draw
  obtain ⟨f_l_row, fd_l_row, G_l_row, g_l_row, k_l_row, b_l_row⟩ := D_l_row
  refine F.ok sc_l_layers (fun vs H Q E h => ?_) (fun cdv A outer s H vs Q E hr h => ?_)
  · obtain ⟨d, b, wv, n, ts, rfl, _⟩ := h
    rfl
  · obtain ⟨d, b, wv, n, ts, rfl, hD, hB, hW, ok, q⟩ := h
    refine ⟨_, (pss_cons (ps_set (i := 2) sc_l_layers.nd rfl (.inl rfl) (pe_lst pa_nil))
      (pss_cons (ps_for PassesOwn.never rfl (pi_range1 (by rfl) M.range (pa_cons (pe_ix ix_tup (pv 1) pe_int (fun _ _ => rfl)) pa_nil)) (pg_name (i := 3) sc_l_layers.nd rfl (.inl rfl))
        (pss_cons (ps_set (i := 4) sc_l_layers.nd rfl (.inl rfl) (pe_call G_l_draw (hr.mono (by decide)) (by rfl) g_l_draw k_l_draw b_l_draw .nil pass0 (pa_cons (pv 0) (pa_cons pe_int pa_nil))))
        (pss_cons (ps_set (i := 5) sc_l_layers.nd rfl (.inl rfl) (pe_call G_l_draw (hr.mono (by decide)) (by rfl) g_l_draw k_l_draw b_l_draw .nil pass0 (pa_cons (pv 0) (pa_cons pe_int pa_nil))))
        (pss_cons (ps_set (i := 6) sc_l_layers.nd rfl (.inl rfl) (pe_call G_l_draw (hr.mono (by decide)) (by rfl) g_l_draw k_l_draw b_l_draw .nil pass0 (pa_cons (pv 0) (pa_cons pe_int pa_nil))))
        (Evl.pss_cut (ps_if (pt_cmpR op_lt (pv 4) pe_int (nomark _))
          (pss_one (ps_set (i := 6) sc_l_layers.nd rfl (.inl rfl) (pe_op op_pow pe_int pe_int)))
          pss_nil)
        (pss_one (ps_expr (pe_bm PySem.F.plainAttrs_list PySem.F.slot_list_append PySem.F.type_list_append mt_append (pv 2) (pa_cons (pe_call G_l_row (hr.mono (by decide)) (by rfl) g_l_row k_l_row b_l_row .nil pass0 (pa_cons (pv 1) (pa_cons (pv 3) (pa_cons (pv 5) (pa_cons (pv 6) (pa_cons (pe_cmpR op_eq (pv 4) pe_int (nomark _)) pa_nil)))))) pa_nil)))))))))
      (pss_one (ps_ret (pe_callTy call_tuple_of (by rfl) M.tuple (by decide +kernel) (pa_cons (pv 2) pa_nil)))))), ?_⟩
    obtain ⟨wa, wb, us, rfl, hwa, hwb, hp⟩ := id hW
    have n1 : 1 ≤ n := by have := ok.lo; omega
    have n40 : n ≤ 40 := by have := ok.hi; omega
    refine ⟨Nat.zero_le _, fun L nL => ?_⟩
    have ld := hD.ned nL
    have eL := same_new (o := .lst []) nL
    have D1 := hD.same eL
    have K1 : Kp d d H (upd H L (.lst [])) := Same.kp eL
    have hL1 := upd_same (H := H) (a := L) (o := .lst [])
    have hW1 := hW.tk (Same.tk eL)
    generalize upd H L (.lst []) = H1 at D1 K1 hL1 hW1 eL
    refine ⟨.ref wa, rfl, wa, _, 0, .int n, rfl, rfl, SqT.of (eL _ _ hwa), rfl, n, rfl, by omega, by omega, ?_⟩
    rw [Int.toNat_natCast]
    refine for_range (lo := 0) (n := n) (fun i σ' H' => ∃ (y3 y4 y5 y6 : Option V) (vs : List V) (rs : List (List Int)), σ' = [some (.ref d), some (.ref wa), some (.ref L), y3, y4, y5, y6] ∧ H' L = some (.lst vs) ∧ Paired (IntsV H') vs rs ∧ rs.length = i ∧ (∀ (s : Nat) row, rs[s]? = some row → RowG ts n s row) ∧ WebAt H' (.ref wa) n ts ∧ Well H' d (b + 3 * i) ∧ Kp d d H H') ⟨none, none, none, none, [], [], rfl, hL1, .nil, rfl, fun s row e => (by simp at e), hW1, D1, K1⟩ ?_ ?_
    · clear hL1 hW1 D1 K1 eL
      rintro i σ' H2 hi ⟨y3, y4, y5, y6, vs, rs, rfl, hL, hpr, lr, rg, hW2, D2, K2⟩
      rw [show (0 : Int) + (i : Nat) = i from by omega]
      refine ⟨.ref d, rfl, d, _, 6, rfl, D2, by omega, by decide, by decide, fun wy H3 a3 b3 D3 K3 => ?_⟩
      refine ⟨.ref d, rfl, d, _, 60, rfl, D3, by omega, by decide, by decide, fun bey H4 a4 b4 D4 K4 => ?_⟩
      refine ⟨.ref d, rfl, d, _, 8, rfl, D4, by omega, by decide, by decide, fun cap H5 a5 b5 D5 K5 => ?_⟩
      have K25 := (K3.trans K4).trans K5
      have tk := ((K3.tk D2).trans (K4.tk D3)).trans (K5.tk D4)
      refine ⟨fun σ' H' => ∃ cap : Int, σ' = [some (.ref d), some (.ref wa), some (.ref L), some (.int i), some (.int wy), some (.int bey), some (.int cap)] ∧ 0 ≤ cap ∧ H' = H5, ?_, ?_⟩
      · refine ⟨.int wy, rfl, wy, 4, rfl, rfl, _, rfl, ?_⟩
        refine ite2 (fun _ => ?_) (fun _ => ⟨cap, rfl, a5, rfl⟩)
        exact ⟨10, 9, rfl, rfl, ⟨by decide, by decide, by decide⟩, _, rfl, by decide, rfl⟩
      rintro σ' H' ⟨cap, rfl, hcap, eH⟩
      subst eH
      have hL5 := K25 _ _ ld ld hL
      have hp5 : Paired (IntsV H') vs rs := Paired.mono (fun _ _ x => x.tk tk) hpr
      have lv : vs.length = rs.length := Paired.length hpr
      refine ⟨.ref L, rfl, .inl ⟨rfl, _, SqL.of hL5⟩, .ref wa, rfl, .int i, rfl, .int bey, rfl, .int cap, rfl, .int wy, rfl, rfl, .ref wa, n, ts, i, bey, cap, _, rfl, hW2.tk tk, ok, ⟨by omega, by omega⟩, a4, hcap, fun r row H6 s6 hr6 good => ?_⟩
      have hL6 := s6 _ _ hL5
      refine ⟨L, vs, _, rfl, rfl, hL6, small1000 (by omega), ?_⟩
      have tk6 := tk_lst (ys := vs ++ [.ref r]) hL6
      have tkk := (Same.tk s6).trans tk6
      refine ⟨_, _, _, _, vs ++ [.ref r], rs ++ [row], rfl, upd_same, Paired.snoc (Paired.mono (fun _ _ x => x.tk tkk) hp5) ⟨r, rfl, tk6 _ _ hr6⟩, by simp [lr], fun s2 row2 e2 => ?_, (hW2.tk tk).tk tkk, ((D5.same s6).mut ld).mono (by omega), ((K2.trans K25).trans (Same.kp s6)).mut nL⟩
      by_cases hs2 : s2 < rs.length
      · rw [List.getElem?_append_left hs2] at e2
        exact rg s2 row2 e2
      · have : s2 = i := by
          have := (List.getElem?_eq_some_iff.mp e2).1
          rw [List.length_append] at this
          simp at this
          omega
        subst this
        rw [← lr, List.getElem?_append_right (Nat.le_refl _)] at e2
        have : row = row2 := by simpa using e2
        subst this
        exact good
    · rintro σ' H2 ⟨y3, y4, y5, y6, vs, rs, rfl, hL, hpr, lr, rg, hW2, D2, K2⟩
      refine ⟨.ref L, rfl, L, _, rfl, .inl ⟨SqL.of hL, fun r nr => ?_⟩⟩
      have er := same_new (o := .tup vs) nr
      exact q _ rs _ ⟨r, vs, rfl, upd_same, Paired.mono (fun _ _ x => x.tk (Same.tk er)) hpr, lr, rg⟩ ((D2.same er).mono (by omega)) (K2.trans (Same.kp er))
end
/-! ### what is asked of layers -/
def toI : V → Int
  | .int i => i
  | _ => 0
def PartK (H : Hp) (x : V) : Prop := Kn H x ∧ ∀ ys, parts H x = some ys → ∀ y ∈ ys, Kn H y
def ThingK (H : Hp) (v : V) : Prop := Kn H v ∧ ∀ xs, parts H v = some xs → ∀ x ∈ xs, PartK H x
theorem kt_parts {Ps : List Addr} {H H' : Hp} (k : Kt Ps H H') (t : Tabs Ps H) {v : V} (h : Kn H v) : parts H' v = parts H v := by
  cases v with
  | ref a =>
    unfold parts
    rcases h with ⟨xs, h⟩ | ⟨xs, h⟩ | ⟨xs, h⟩
    · simp only [h, k.lst t h]
    · simp only [h, k.tup t h]
    · simp only [h, k.dct t h]
  | _ => rfl
theorem parts_at {H : Hp} {v : V} {xs : List V} (h : parts H v = some xs) : ∃ a, v = .ref a ∧ H a = some (.tup xs) := by
  cases v with
  | ref a =>
    unfold parts at h
    cases e : H a with
    | none => simp only [e] at h; cases h
    | some o =>
      cases o with
      | tup ys => simp only [e] at h; cases h; exact ⟨a, rfl, e⟩
      | _ => simp only [e] at h; cases h
  | _ => cases h
theorem PartK.kt {Ps : List Addr} {H H' : Hp} (k : Kt Ps H H') (t : Tabs Ps H) {v : V} (h : PartK H v) : PartK H' v :=
  ⟨k.kn t h.1, fun ys e y hy => by
    rw [kt_parts k t h.1] at e
    exact k.kn t (h.2 ys e y hy)⟩
theorem ThingK.kt {Ps : List Addr} {H H' : Hp} (k : Kt Ps H H') (t : Tabs Ps H) {v : V} (h : ThingK H v) : ThingK H' v :=
  ⟨k.kn t h.1, fun ys e y hy => by
    rw [kt_parts k t h.1] at e
    exact (h.2 ys e y hy).kt k t⟩
theorem ints0 : ∀ {xs : List V}, xs.all (wfrom 0) = true → ∃ ns : List Int, xs = ns.map V.int ∧ ∀ n ∈ ns, 0 ≤ n
  | [], _ => ⟨[], rfl, fun n hn => by simp at hn⟩
  | x :: xs, h => by
    rw [List.all_cons, Bool.and_eq_true] at h
    obtain ⟨ns, e, h2⟩ := ints0 h.2
    cases x with
    | int i =>
      have h1 : decide ((0 : Int) ≤ i) = true := h.1
      refine ⟨i :: ns, by rw [e]; rfl, fun n hn => ?_⟩
      rcases List.mem_cons.mp hn with z | z
      · rw [z]
        exact of_decide_eq_true h1
      · exact h2 n z
    | _ => exact absurd (show false = true from h.1) Bool.false_ne_true
theorem all_ints {ns : List Int} (h : ∀ n ∈ ns, 0 ≤ n) : (ns.map V.int).all (wfrom 0) = true := by
  rw [List.all_eq_true]
  intro x hx
  obtain ⟨n, hn, rfl⟩ := List.mem_map.mp hx
  exact decide_eq_true (h n hn)
theorem toI_map (ns : List Int) : (ns.map V.int).map toI = ns := by
  rw [List.map_map]
  exact List.map_id ns
theorem atI_gI {ns : List Int} {i : Int} (h0 : 0 ≤ i) (h1 : i < (ns.length : Int)) : atI (ns.map V.int) i = some (.int (gI ns i)) := by
  refine atI_of h0 ?_
  unfold gI
  rw [List.getElem?_map, List.getD_eq_getElem?_getD, List.getElem?_eq_getElem (by omega)]
  rfl
def isRowB (n : Nat) : Option (List V) → Bool
  | some xs => decide (xs.length = 2 * n) && xs.all (wfrom 0)
  | none => false
def rowC (ts : List Tie) (num s : Int) (r : List Int) : Bool := decide (gI r (2 * s) = 0) && (decide (num ≤ gI r (2 * s + 1)) && ts.all (nearI r))
def rowB (n : Nat) (ts : List Tie) (num s : Int) (o : Option (List V)) : Bool := isRowB n o && rowC ts num s ((o.getD []).map toI)
def layB (H : Hp) (n : Nat) (ts : List Tie) (num : Int) (v : V) : Bool := match parts H v with
  | some rows => decide (rows.length = n) && (List.range n).all fun s : Nat => rowB n ts num (s : Int) (parts H (rows.getD s .non))
  | none => false
theorem take_all_step {α : Type} {p : α → Bool} {xs : List α} {i : Nat} {x : α} (ex : xs[i]? = some x) (h : (xs.take i).all p = true) : (xs.take (i + 1)).all p = p x := by
  rw [List.take_add_one, ex, List.all_append, h]
  simp
theorem all_no {α : Type} {p : α → Bool} {xs : List α} {i : Nat} {x : α} (ex : xs[i]? = some x) (h : p x = false) : xs.all p = false := by
  rw [Bool.eq_false_iff]
  intro z
  rw [List.all_eq_true] at z
  rw [z x (List.mem_of_getElem? ex)] at h
  cases h
theorem range_step {p : Nat → Bool} {n i : Nat} (h : (List.range i).all p = true) : (List.range (i + 1)).all p = p i := by
  rw [List.range_succ, List.all_append, h]
  simp
theorem range_no {p : Nat → Bool} {n i : Nat} (hi : i < n) (h : p i = false) : (List.range n).all p = false := by
  rw [Bool.eq_false_iff]
  intro z
  rw [List.all_eq_true] at z
  rw [z i (List.mem_range.mpr hi)] at h
  cases h
def spIsRow (Ps : List Addr) : Sp := fun vs H Q _ => ∃ (n : Nat) (v : V), vs = [.int n, v] ∧ PartK H v ∧ Tabs Ps H ∧ ∀ H', Kt Ps H H' → Q (.bl (isRowB n (parts H v))) H'
def spNear : Sp := fun vs H Q _ => ∃ a b : Int, vs = [.int a, .int b] ∧ Q (.bl (nearZ a b)) H
def spAlong : Sp := fun vs H Q _ => ∃ (a c : Addr) (n : Nat) (ns : List Int) (t : Tie), vs = [.ref a, .ref c] ∧ H a = some (.tup (ns.map V.int)) ∧ ns.length = 2 * n ∧ TieOk n t ∧ H c = some (.tup [.int t.one, .int t.other, .str (kindS t.foe)]) ∧ ∀ H', Same H H' → Q (.bl (nearI ns t)) H'
def spRowHolds (Ps : List Addr) : Sp := fun vs H Q _ => ∃ (wv : V) (n : Nat) (ts : List Tie) (num : Int) (s : Nat) (v : V), vs = [wv, .int num, .int s, v] ∧ WebAt H wv n ts ∧ WebOk n ts ∧ s < n ∧ PartK H v ∧ Tabs Ps H ∧ ∀ H', Kt Ps H H' → Q (.bl (rowB n ts num s (parts H v))) H'
def spLayersHold (Ps : List Addr) : Sp := fun vs H Q _ => ∃ (wv : V) (n : Nat) (ts : List Tie) (num : Int) (v : V), vs = [wv, .int num, v] ∧ WebAt H wv n ts ∧ WebOk n ts ∧ ThingK H v ∧ Tabs Ps H ∧ ∀ H', Kt Ps H H' → Q (.bl (layB H n ts num v)) H'
theorem mul2 (x : Int) : (-(2 ^ 20) : Int) ≤ 2 ∧ (2 : Int) ≤ 2 ^ 20 := ⟨by decide, by decide⟩
theorem dec_near (a b : Int) : decide ((if a - b < 0 then -(a - b) else a - b) ≤ 1) = nearZ a b := by
  unfold nearZ
  rw [Bool.eq_iff_iff, Bool.and_eq_true, decide_eq_true_iff, decide_eq_true_iff, decide_eq_true_iff]
  split <;> omega
section
variable {P : Program} {w : World} {K : PySem.W.Frag} {mg : Str → Option Value} {base : Heap}
theorem ok_is_row {f c Pt : Addr} {fd : FuncData} {Ps : List Addr} (F : FunC K "is_row" "is_row" s_is_row f fd c) (TB : GxR.TabB base mg c Pt) (hPt : Pt ∈ Ps) (m_all : mg "all" = none) (D_is_whole_from : Df P w K mg base 2 "is_whole_from" ["low", "thing"] spFrom) (D_is_tuple_of : Df P w K mg base 1 "is_tuple_of" ["length", "thing"] spTupleOf) : FnOk P w K mg base CX0 4 f fd ["many", "thing"] (spIsRow Ps) := by
  obtain ⟨f_is_whole_from, fd_is_whole_from, G_is_whole_from, g_is_whole_from, k_is_whole_from, b_is_whole_from⟩ := D_is_whole_from
  obtain ⟨f_is_tuple_of, fd_is_tuple_of, G_is_tuple_of, g_is_tuple_of, k_is_tuple_of, b_is_tuple_of⟩ := D_is_tuple_of
  refine F.ok sc_is_row (fun vs H Q E h => ?_) (fun A outer s H vs Q E hr h => ?_)
  · obtain ⟨n, v, rfl, _⟩ := h
    rfl
  · obtain ⟨n, v, rfl, hk, hT, q⟩ := h
    refine ⟨_, (pss_one (ps_ret (pe_and (pe_call G_is_tuple_of (hr.mono (by decide)) (by rfl) g_is_tuple_of k_is_tuple_of b_is_tuple_of .nil pass0 (pa_cons (pe_op op_mul pe_int (pv 0)) (pa_cons (pv 1) pa_nil))) (pe_one (pe_all (k := 2) (own := [("number", 2)]) (g := gName 2) hr TB rfl rfl sc_is_row.nd (by rfl) m_all (pi_tup (pv 1)) (blkOk_by (N := N_is_row) (sc := defScope s_is_row) (own := [("number", 2)]) (by decide +kernel)) ⟨rfl, by decide +kernel, by decide +kernel⟩ (show (".0" : Str) ∉ N_is_row by decide +kernel) (fun _ _ _ _ _ _ _ => (pg_name (i := 2) sc_is_row.nd rfl (.inl rfl))) (fun _ _ _ _ _ _ _ hr' => (pe_call G_is_whole_from hr' (by rfl) g_is_whole_from k_is_whole_from b_is_whole_from .nil pass0 (pa_cons pe_int (pa_cons (pv 2) pa_nil))))))))), ?_⟩
    refine ⟨.int n, rfl, 2, n, rfl, rfl, .inl ⟨by decide, by decide⟩, v, rfl, _, v, rfl, hk.1, _, rfl, ?_⟩
    cases hpv : parts H v with
    | none =>
      have e1 : lenIs H v (2 * (n : Int)) = false := by unfold lenIs; rw [hpv]
      rw [hpv] at q
      rw [e1]
      exact q _ (Kt.refl hT)
    | some xs =>
    have e1 : lenIs H v (2 * (n : Int)) = decide ((xs.length : Int) = 2 * (n : Int)) := by unfold lenIs; rw [hpv]
    rw [hpv] at q
    rw [e1]
    by_cases hl : xs.length = 2 * n
    · rw [decide_eq_true (show (xs.length : Int) = 2 * (n : Int) by omega)]
      have eb : isRowB n (some xs) = xs.all (wfrom 0) := by
        show (decide (xs.length = 2 * n) && xs.all (wfrom 0)) = _
        rw [decide_eq_true hl, Bool.true_and]
      rw [eb] at q
      obtain ⟨a, rfl, ea⟩ := parts_at hpv
      refine ⟨.ref a, rfl, a, rfl, ⟨_, SqT.of ea⟩, hT Pt hPt, fun i m H' => i + m = xs.length ∧ Kt Ps H H' ∧ (xs.take i).all (wfrom 0) = true, fun H2 hH2 => ⟨xs.length, by omega, Kt.tabbed hT hPt hH2, rfl⟩, fun i m H' hw => ?_⟩
      obtain ⟨em, kt, hal⟩ := hw
      have ea' := kt.tup hT ea
      by_cases hi : i < xs.length
      · refine .inr ⟨⟨_, _, SqT.of ea', List.getElem?_eq_getElem hi⟩, fun H3 => Kt Ps H H3 ∧ (xs.take (i + 1)).all (wfrom 0) = true, fun H3 n3 => ⟨m - 1, by omega, by omega, n3.1, n3.2⟩, fun x H3 hy => ?_⟩
        obtain ⟨rfl, fy⟩ := hy
        have ex : xs[i]? = some x := fy _ (SqT.of ea')
        refine ⟨rfl, x, rfl, 0, x, rfl, kt.kn hT (hk.2 xs hpv x (List.mem_of_getElem? ex)), _, rfl, ?_⟩
        cases hb : wfrom 0 x with
        | true => exact ⟨kt, (take_all_step ex hal).trans hb⟩
        | false =>
          rw [all_no ex hb] at q
          exact q _ kt
      · refine .inl ⟨⟨_, SqT.of ea', by omega⟩, ?_⟩
        rw [List.take_of_length_le (by omega)] at hal
        rw [hal] at q
        exact q _ kt
    · rw [decide_eq_false (show ¬ (xs.length : Int) = 2 * (n : Int) by omega)]
      have eb : isRowB n (some xs) = false := by
        show (decide (xs.length = 2 * n) && xs.all (wfrom 0)) = _
        rw [decide_eq_false hl, Bool.false_and]
      rw [eb] at q
      exact q _ (Kt.refl hT)
theorem ok_are_near {f : Addr} {fd : FuncData} (F : Fun K "are_near" "are_near" s_are_near f fd) (m_abs : mg "abs" = none) : FnOk P w K mg base CX0 1 f fd ["one", "other"] spNear := by
  refine F.ok sc_are_near (fun vs H Q E h => ?_) (fun cdv A outer s H vs Q E hr h => ?_)
  · obtain ⟨a, b, rfl, _⟩ := h
    rfl
  · obtain ⟨a, b, rfl, q⟩ := h
    refine ⟨_, (pss_one (ps_ret (pe_cmpR op_le (pe_callB call_abs (by rfl) m_abs (by decide +kernel) (pa_cons (pe_op op_sub (pv 0) (pv 1)) pa_nil)) pe_int (nomark _)))), ?_⟩
    refine ⟨.int a, rfl, .int b, rfl, a, b, rfl, rfl, _, rfl, _, 1, rfl, rfl, ?_⟩
    rw [← dec_near] at q
    exact q
theorem ok_near_along {f : Addr} {fd : FuncData} (F : Fun K "near_along" "near_along" s_near_along f fd) (D_are_near : Df P w K mg base 1 "are_near" ["one", "other"] spNear) : FnOk P w K mg base CX0 2 f fd ["row", "tie"] spAlong := by
  obtain ⟨f_are_near, fd_are_near, G_are_near, g_are_near, k_are_near, b_are_near⟩ := D_are_near
  refine F.ok sc_near_along (fun vs H Q E h => ?_) (fun cdv A outer s H vs Q E hr h => ?_)
  · obtain ⟨a, c, n, ns, t, rfl, _⟩ := h
    rfl
  · obtain ⟨a, c, n, ns, t, rfl, ha, ln, okt, hc, q⟩ := h
    refine ⟨_, (pss_cons (ps_asg (pv 1) (pg_tup rfl (pgs_cons (pg_name (i := 2) sc_near_along.nd rfl (.inl rfl)) (pgs_cons (pg_name (i := 3) sc_near_along.nd rfl (.inl rfl)) (pgs_cons (pg_name (i := 4) sc_near_along.nd rfl (.inl rfl)) pgs_nil)))))
      (Evl.pss_cut (ps_set (i := 5) sc_near_along.nd rfl (.inl rfl) (pe_ifExp (pt_cmpR op_eq (pv 4) pe_str (nomark _)) pe_int pe_int))
      (pss_one (ps_ret (pe_and (pe_call G_are_near (hr.mono (by decide)) (by rfl) g_are_near k_are_near b_are_near .nil pass0 (pa_cons (pe_ix ix_tup (pv 0) (pe_op op_mul pe_int (pv 2)) (fun _ _ => rfl)) (pa_cons (pe_ix ix_tup (pv 0) (pe_op op_add (pe_op op_mul pe_int (pv 3)) (pv 5)) (fun _ _ => rfl)) pa_nil))) (pe_one (pe_call G_are_near (hr.mono (by decide)) (by rfl) g_are_near k_are_near b_are_near .nil pass0 (pa_cons (pe_ix ix_tup (pv 0) (pe_op op_add (pe_op op_mul pe_int (pv 2)) pe_int) (fun _ _ => rfl)) (pa_cons (pe_ix ix_tup (pv 0) (pe_op op_sub (pe_op op_add (pe_op op_mul pe_int (pv 3)) pe_int) (pv 5)) (fun _ _ => rfl)) pa_nil))))))))), ?_⟩
    have ek : decide (V.str (kindS t.foe) = V.str "foe") = t.foe := by cases t.foe <;> decide +kernel
    refine ⟨.ref c, rfl, c, _, rfl, SqT.of hc, rfl, _, _, rfl, _, _, rfl, _, _, rfl, rfl, ?_⟩
    refine ⟨fun σ' H' => σ' = [some (.ref a), some (.ref c), some (.int t.one), some (.int t.other), some (.str (kindS t.foe)), some (.int (bI t.foe))] ∧ H' = H, ?_, ?_⟩
    · refine ⟨.str (kindS t.foe), rfl, rfl, _, rfl, ?_⟩
      rw [ek]
      cases t.foe
      · exact ⟨rfl, rfl⟩
      · exact ⟨rfl, rfl⟩
    rintro σ' H' ⟨rfl, eH⟩
    subst eH
    have b01 : bI t.foe = 0 ∨ bI t.foe = 1 := by unfold bI; split <;> simp
    have o := okt
    have ln' : (ns.length : Int) = 2 * (n : Int) := by omega
    obtain ⟨o1, o2, o3, o4, _⟩ := o
    refine ⟨.ref a, rfl, .int t.one, rfl, 2, t.one, rfl, rfl, .inl ⟨by decide, by decide⟩, a, _, 2 * t.one, _, rfl, rfl, SqT.of ha, atI_gI (by omega) (by omega), .ref a, rfl, .int t.other, rfl, 2, t.other, rfl, rfl, .inl ⟨by decide, by decide⟩, .int (bI t.foe), rfl, _, _, rfl, rfl, a, _, 2 * t.other + bI t.foe, _, rfl, rfl, SqT.of ha, atI_gI (by omega) (by omega), _, _, rfl, _, rfl, ?_⟩
    unfold nearI at q
    cases h1 : nearZ (gI ns (2 * t.one)) (gI ns (2 * t.other + bI t.foe)) with
    | false =>
      rw [h1, Bool.false_and] at q
      exact q _ (Same.refl _)
    | true =>
      rw [h1, Bool.true_and] at q
      exact ⟨.ref a, rfl, .int t.one, rfl, 2, t.one, rfl, rfl, .inl ⟨by decide, by decide⟩, _, 1, rfl, rfl, a, _, 2 * t.one + 1, _, rfl, rfl, SqT.of ha, atI_gI (by omega) (by omega), .ref a, rfl, .int t.other, rfl, 2, t.other, rfl, rfl, .inl ⟨by decide, by decide⟩, _, 1, rfl, rfl, .int (bI t.foe), rfl, _, _, rfl, rfl, a, _, 2 * t.other + 1 - bI t.foe, _, rfl, rfl, SqT.of ha, atI_gI (by omega) (by omega), _, _, rfl, q _ (Same.refl _)⟩
theorem ok_row_holds {f c Pt : Addr} {fd : FuncData} {Ps : List Addr} (F : FunC K "row_holds" "row_holds" s_row_holds f fd c) (TB : GxR.TabB base mg c Pt) (hPt : Pt ∈ Ps) (m_all : mg "all" = none) (D_is_row : Df P w K mg base 4 "is_row" ["many", "thing"] (spIsRow Ps)) (D_near_along : Df P w K mg base 2 "near_along" ["row", "tie"] spAlong) : FnOk P w K mg base CX0 6 f fd ["web", "number", "start", "thing"] (spRowHolds Ps) := by
  obtain ⟨f_is_row, fd_is_row, G_is_row, g_is_row, k_is_row, b_is_row⟩ := D_is_row
  obtain ⟨f_near_along, fd_near_along, G_near_along, g_near_along, k_near_along, b_near_along⟩ := D_near_along
  refine F.ok sc_row_holds (fun vs H Q E h => ?_) (fun A outer sh H vs Q E hr h => ?_)
  · obtain ⟨wv, n, ts, num, s, v, rfl, _⟩ := h
    rfl
  · obtain ⟨wv, n, ts, num, s, v, rfl, hW, ok, hs, hk, hT, q⟩ := h
    refine ⟨_, (pss_cons (ps_if (pt_not (pt_val (pe_call G_is_row (hr.mono (by decide)) (by rfl) g_is_row k_is_row b_is_row .nil pass0 (pa_cons (pe_ix ix_tup (pv 0) pe_int (fun _ _ => rfl)) (pa_cons (pv 3) pa_nil)))))
        (pss_one (ps_ret pe_bl))
        pss_nil)
      (pss_cons (ps_if (PW.pt (pw_or (pt_cmpR op_ne (pe_ix ix_tup (pv 3) (pe_op op_mul pe_int (pv 2)) (fun _ _ => rfl)) pe_int (nomark _)) (pw_or1 (pt_cmpR op_lt (pe_ix ix_tup (pv 3) (pe_op op_add (pe_op op_mul pe_int (pv 2)) pe_int) (fun _ _ => rfl)) (pv 1) (nomark _)))))
        (pss_one (ps_ret pe_bl))
        pss_nil)
      (pss_one (ps_ret (pe_all (k := 4) (own := [("tie", 4)]) (g := gName 4) hr TB rfl rfl sc_row_holds.nd (by rfl) m_all (pi_tup (pe_ix ix_tup (pv 0) pe_int (fun _ _ => rfl))) (blkOk_by (N := N_row_holds) (sc := defScope s_row_holds) (own := [("tie", 4)]) (by decide +kernel)) ⟨rfl, by decide +kernel, by decide +kernel⟩ (show (".0" : Str) ∉ N_row_holds by decide +kernel) (fun _ _ _ _ _ _ _ => (pg_name (i := 4) sc_row_holds.nd rfl (.inl rfl))) (fun _ _ _ _ _ _ _ hr' => (pe_call G_near_along (hr'.mono (by decide)) (by rfl) g_near_along k_near_along b_near_along .nil pass0 (pa_cons (pv 3) (pa_cons (pv 4) pa_nil))))))))), ?_⟩
    obtain ⟨wa, wb, us, rfl, hwa, hwb, hp⟩ := id hW
    have lu : us.length = ts.length := Paired.length hp
    refine ⟨.ref wa, rfl, wa, _, 0, .int n, rfl, rfl, SqT.of hwa, rfl, v, rfl, n, v, rfl, hk, hT, fun H1 k1 => ⟨_, rfl, ?_⟩⟩
    cases hb : isRowB n (parts H v) with
    | false =>
      have e : rowB n ts num s (parts H v) = false := by unfold rowB; rw [hb, Bool.false_and]
      rw [e] at q
      exact q _ k1
    | true =>
    cases hpv : parts H v with
    | none => rw [hpv] at hb; cases hb
    | some xs =>
    rw [hpv] at hb
    have hb' : (decide (xs.length = 2 * n) && xs.all (wfrom 0)) = true := hb
    rw [Bool.and_eq_true, decide_eq_true_iff] at hb'
    obtain ⟨ln, al⟩ := hb'
    obtain ⟨ns, rfl, pos⟩ := ints0 al
    rw [List.length_map] at ln
    have e : rowB n ts num s (parts H v) = rowC ts num s ns := by
      unfold rowB
      rw [hpv, hb, Bool.true_and]
      show rowC ts num s ((ns.map V.int).map toI) = _
      rw [toI_map]
    rw [e] at q
    obtain ⟨a, rfl, ea⟩ := parts_at hpv
    have ea1 := k1.tup hT ea
    have ln' : (ns.length : Int) = 2 * (n : Int) := by omega
    refine ⟨.ref a, rfl, .int s, rfl, 2, s, rfl, rfl, .inl ⟨by decide, by decide⟩, a, _, 2 * (s : Int), _, rfl, rfl, SqT.of ea1, atI_gI (by omega) (by omega), rfl, _, rfl, ?_⟩
    unfold rowC at q
    rw [dec_int]
    by_cases h0 : gI ns (2 * (s : Int)) = 0
    · rw [decide_eq_true h0] at q ⊢
      rw [Bool.true_and] at q
      refine ⟨.ref a, rfl, .int s, rfl, 2, s, rfl, rfl, .inl ⟨by decide, by decide⟩, _, 1, rfl, rfl, a, _, 2 * (s : Int) + 1, _, rfl, rfl, SqT.of ea1, atI_gI (by omega) (by omega), .int num, rfl, _, num, rfl, rfl, _, rfl, ?_⟩
      by_cases h1 : num ≤ gI ns (2 * (s : Int) + 1)
      · rw [decide_eq_true h1, Bool.true_and] at q
        rw [decide_eq_false (show ¬ gI ns (2 * (s : Int) + 1) < num by omega)]
        have hwa1 := k1.tup hT hwa
        have hwb1 := k1.tup hT hwb
        refine ⟨.ref wa, rfl, wa, _, 1, .ref wb, rfl, rfl, SqT.of hwa1, rfl, wb, rfl, ⟨_, SqT.of hwb1⟩, k1.tab Pt hPt, fun i m H' => i + m = ts.length ∧ Kt Ps H H' ∧ (ts.take i).all (nearI ns) = true, fun H2 hH2 => ⟨ts.length, by omega, k1.trans (Kt.tabbed k1.tab hPt hH2), rfl⟩, fun i m H' hw => ?_⟩
        obtain ⟨em, kt, hal⟩ := hw
        have hwb' := kt.tup hT hwb
        have ea' := kt.tup hT ea
        by_cases hi : i < ts.length
        · refine .inr ⟨⟨_, _, SqT.of hwb', List.getElem?_eq_getElem (show i < us.length by omega)⟩, fun H3 => Kt Ps H H3 ∧ (ts.take (i + 1)).all (nearI ns) = true, fun H3 n3 => ⟨m - 1, by omega, by omega, n3.1, n3.2⟩, fun x H3 hy => ?_⟩
          obtain ⟨rfl, fy⟩ := hy
          have ex : us[i]? = some x := fy _ (SqT.of hwb')
          obtain ⟨t, et, c, rfl, hc⟩ := Paired.at (ties_tk (kt.tk hT) hp) ex
          refine ⟨rfl, .ref a, rfl, .ref c, rfl, a, c, n, ns, t, rfl, ea', ln, ok.ok t (List.mem_of_getElem? et), hc, fun H4 s4 => ⟨_, rfl, ?_⟩⟩
          have kt4 : Kt Ps H H4 := kt.trans (Kt.same kt.tab s4)
          cases hb : nearI ns t with
          | true => exact ⟨kt4, (take_all_step et hal).trans hb⟩
          | false =>
            rw [all_no et hb] at q
            exact q _ kt4
        · refine .inl ⟨⟨_, SqT.of hwb', by omega⟩, ?_⟩
          rw [List.take_of_length_le (by omega)] at hal
          rw [hal] at q
          exact q _ kt
      · rw [decide_eq_false h1, Bool.false_and] at q
        rw [decide_eq_true (show gI ns (2 * (s : Int) + 1) < num by omega)]
        exact q _ k1
    · rw [decide_eq_false h0] at q ⊢
      rw [Bool.false_and] at q
      exact q _ k1
theorem ok_layers_hold {f c Pt : Addr} {fd : FuncData} {Ps : List Addr} (F : FunC K "layers_hold" "layers_hold" s_layers_hold f fd c) (TB : GxR.TabB base mg c Pt) (hPt : Pt ∈ Ps) (m_all : mg "all" = none) (m_enumerate : mg "enumerate" = none) (D_is_tuple_of : Df P w K mg base 1 "is_tuple_of" ["length", "thing"] spTupleOf) (D_row_holds : Df P w K mg base 6 "row_holds" ["web", "number", "start", "thing"] (spRowHolds Ps)) : FnOk P w K mg base CX0 8 f fd ["web", "number", "thing"] (spLayersHold Ps) := by
  obtain ⟨f_is_tuple_of, fd_is_tuple_of, G_is_tuple_of, g_is_tuple_of, k_is_tuple_of, b_is_tuple_of⟩ := D_is_tuple_of
  obtain ⟨f_row_holds, fd_row_holds, G_row_holds, g_row_holds, k_row_holds, b_row_holds⟩ := D_row_holds
  refine F.ok sc_layers_hold (fun vs H Q E h => ?_) (fun A outer s H vs Q E hr h => ?_)
  · obtain ⟨wv, n, ts, num, v, rfl, _⟩ := h
    rfl
  · obtain ⟨wv, n, ts, num, v, rfl, hW, ok, hk, hT, q⟩ := h
    refine ⟨_, (pss_cons (ps_if (pt_not (pt_val (pe_call G_is_tuple_of (hr.mono (by decide)) (by rfl) g_is_tuple_of k_is_tuple_of b_is_tuple_of .nil pass0 (pa_cons (pe_ix ix_tup (pv 0) pe_int (fun _ _ => rfl)) (pa_cons (pv 2) pa_nil)))))
        (pss_one (ps_ret pe_bl))
        pss_nil)
      (pss_one (ps_ret (pe_all (k := 6) (own := [("start", 3), ("row", 4)]) (g := gTup K 2 (gCons (gName 3) (gCons (gName 4) gNil))) hr TB rfl rfl sc_layers_hold.nd (by rfl) m_all (pi_enumT (by rfl) m_enumerate (pa_cons (pv 2) pa_nil)) (blkOk_by (N := N_layers_hold) (sc := defScope s_layers_hold) (own := [("start", 3), ("row", 4)]) (by decide +kernel)) ⟨rfl, by decide +kernel, by decide +kernel⟩ (show (".0" : Str) ∉ N_layers_hold by decide +kernel) (fun _ _ _ _ _ _ _ => (pg_tup rfl (pgs_cons (pg_name (i := 3) sc_layers_hold.nd rfl (.inl rfl)) (pgs_cons (pg_name (i := 4) sc_layers_hold.nd rfl (.inl rfl)) pgs_nil)))) (fun _ _ _ _ _ _ _ hr' => (pe_call G_row_holds hr' (by rfl) g_row_holds k_row_holds b_row_holds .nil pass0 (pa_cons (pv 0) (pa_cons (pv 1) (pa_cons (pv 3) (pa_cons (pv 4) pa_nil)))))))))), ?_⟩
    obtain ⟨wa, wb, us, rfl, hwa, hwb, hp⟩ := id hW
    refine ⟨.ref wa, rfl, wa, _, 0, .int n, rfl, rfl, SqT.of hwa, rfl, v, rfl, _, v, rfl, hk.1, _, rfl, ?_⟩
    cases hpv : parts H v with
    | none =>
      have e1 : lenIs H v (n : Int) = false := by unfold lenIs; rw [hpv]
      have e2 : layB H n ts num v = false := by unfold layB; rw [hpv]
      rw [e2] at q
      rw [e1]
      exact q _ (Kt.refl hT)
    | some rows =>
    have e1 : lenIs H v (n : Int) = decide ((rows.length : Int) = (n : Int)) := by unfold lenIs; rw [hpv]
    have e2 : layB H n ts num v = (decide (rows.length = n) && (List.range n).all fun s : Nat => rowB n ts num (s : Int) (parts H (rows.getD s .non))) := by unfold layB; rw [hpv]
    rw [e2] at q
    rw [e1]
    by_cases hl : rows.length = n
    · rw [decide_eq_true hl, Bool.true_and] at q
      rw [decide_eq_true (show (rows.length : Int) = (n : Int) by omega)]
      obtain ⟨a, rfl, ea⟩ := parts_at hpv
      refine ⟨.ref a, rfl, a, _, rfl, SqT.of ea, hT Pt hPt, fun i m H' => i + m = n ∧ Kt Ps H H' ∧ ((List.range i).all fun s : Nat => rowB n ts num (s : Int) (parts H (rows.getD s .non))) = true, fun H2 hH2 => ⟨n, by omega, Kt.tabbed hT hPt hH2, rfl⟩, fun i m H' hw => ?_⟩
      obtain ⟨em, kt, hal⟩ := hw
      have ea' := kt.tup hT ea
      by_cases hi : i < n
      · refine .inr ⟨⟨_, _, SqT.of ea', List.getElem?_eq_getElem (show i < rows.length by omega)⟩, fun H3 => Kt Ps H H3 ∧ ((List.range (i + 1)).all fun s : Nat => rowB n ts num (s : Int) (parts H (rows.getD s .non))) = true, fun H3 n3 => ⟨m - 1, by omega, by omega, n3.1, n3.2⟩, fun x H3 hy => ?_⟩
        obtain ⟨T, y, rfl, nT, rfl, fy⟩ := hy
        have ex : rows[i]? = some y := fy _ (SqT.of ea')
        have eT := same_new (o := .tup [.int (i : Nat), y]) nT
        have kt3 : Kt Ps H (upd H' T (.tup [.int (i : Nat), y])) := kt.trans (Kt.same kt.tab eT)
        have hpk := hk.2 rows hpv y (List.mem_of_getElem? ex)
        have eg : rows.getD i .non = y := by rw [List.getD_eq_getElem?_getD, ex]; rfl
        refine ⟨T, _, rfl, SqT.of upd_same, rfl, _, _, rfl, _, _, rfl, rfl, rfl, .ref wa, rfl, .int num, rfl, .int i, rfl, y, rfl, .ref wa, n, ts, num, i, y, rfl, hW.tk (kt3.tk hT), ok, hi, hpk.kt kt3 hT, kt3.tab, fun H4 k4 => ⟨_, rfl, ?_⟩⟩
        have kt4 := kt3.trans k4
        rw [kt_parts kt3 hT hpk.1]
        cases hb : rowB n ts num (i : Int) (parts H y) with
        | true => exact ⟨kt4, by rw [range_step (n := n) hal, eg]; exact hb⟩
        | false =>
          rw [range_no (n := n) hi (by rw [eg]; exact hb)] at q
          exact q _ kt4
      · refine .inl ⟨⟨_, SqT.of ea', by omega⟩, ?_⟩
        have : i = n := by omega
        subst this
        rw [hal] at q
        exact q _ kt
    · rw [decide_eq_false hl, Bool.false_and] at q
      rw [decide_eq_false (show ¬ (rows.length : Int) = (n : Int) by omega)]
      exact q _ (Kt.refl hT)
end
/-! ### the script stays -/
theorem Kt.seq {Ps : List Addr} {K : PySem.W.Frag} {H H' : Hp} {a : Addr} {xs : List V} (k : Kt Ps H H') (t : Tabs Ps H) (h : SqL K H a xs) : SqL K H' a xs := by
  rcases h with (h | ⟨o, h⟩) | h
  · exact .inl (.inl (k.lst t h))
  · exact .inl (.inr ⟨o, k.keep _ _ (t.out h fun _ z => by cases z) h⟩)
  · exact .inr h
theorem sql_ne {K : PySem.W.Frag} {H : Hp} {a d : Addr} {xs : List V} (h : SqL K H a xs) (nd : H d = none) : a ≠ d ∨ ∀ H', SqL K H' a xs := by
  rcases h with (h | ⟨o, h⟩) | h
  · exact .inl (ne_of_none h nd)
  · exact .inl (ne_of_none h nd)
  · exact .inr fun _ => .inr h
theorem sql_well {K : PySem.W.Frag} {H H' : Hp} {a d : Addr} {xs : List V} (h : SqL K H a xs) (ne : a ≠ d ∨ ∀ H', SqL K H' a xs) (k : Kp d d H H') : SqL K H' a xs := by
  rcases ne with ne | f
  · rcases h with (h | ⟨o, h⟩) | h
    · exact .inl (.inl (k _ _ ne ne h))
    · exact .inl (.inr ⟨o, k _ _ ne ne h⟩)
    · exact .inr h
  · exact f H'
theorem map_take_snoc {α β : Type} {f : α → β} {xs : List α} {i : Nat} {x : α} (h : xs[i]? = some x) : (xs.take (i + 1)).map f = (xs.take i).map f ++ [f x] := by
  rw [List.take_add_one, h, List.map_append]
  rfl
/-! ### len(set(t)) of a tuple of ints -/
theorem sub_len : ∀ {ks ns : List Int}, ks.Nodup → (∀ x ∈ ks, x ∈ ns) → ks.length ≤ ns.length
  | [], _, _, _ => Nat.zero_le _
  | k :: ks, ns, nd, h => by
    rw [List.nodup_cons] at nd
    have hk := h k (by simp)
    have q := sub_len (ks := ks) (ns := ns.erase k) nd.2 fun x hx => (List.mem_erase_of_ne (fun z => nd.1 (by rw [← z]; exact hx))).mpr (h x (List.mem_cons_of_mem _ hx))
    rw [List.length_erase_of_mem hk] at q
    have : 0 < ns.length := List.length_pos_of_mem hk
    rw [List.length_cons]
    omega
theorem twice : ∀ {ns : List Int}, ¬ ns.Nodup → ∃ x, x ∈ ns ∧ x ∈ ns.erase x
  | [], h => absurd List.nodup_nil h
  | y :: l, h => by
    by_cases hy : y ∈ l
    · exact ⟨y, by simp, by rw [List.erase_cons_head]; exact hy⟩
    · have hl : ¬ l.Nodup := fun z => h (List.nodup_cons.mpr ⟨hy, z⟩)
      obtain ⟨x, h1, h2⟩ := twice hl
      refine ⟨x, List.mem_cons_of_mem _ h1, ?_⟩
      have ne : y ≠ x := fun z => hy (by rw [z]; exact h1)
      rw [List.erase_cons_tail (by simpa using ne)]
      exact List.mem_cons_of_mem _ h2
theorem many_iff {ks ns : List Int} (nd : ks.Nodup) (h : ∀ x, x ∈ ns ↔ x ∈ ks) : ks.length = ns.length ↔ ns.Nodup := by
  constructor
  · intro e
    by_cases hn : ns.Nodup
    · exact hn
    · obtain ⟨x, h1, h2⟩ := twice hn
      have q := sub_len (ns := ns.erase x) nd fun y hy => by
        by_cases e2 : y = x
        · rw [e2]
          exact h2
        · exact (List.mem_erase_of_ne e2).mpr ((h y).mpr hy)
      rw [List.length_erase_of_mem h1] at q
      have : 0 < ns.length := List.length_pos_of_mem h1
      omega
  · intro hn
    have q1 := sub_len nd fun y hy => (h y).mpr hy
    have q2 := sub_len hn fun y hy => (h y).mp hy
    omega
def tLenSet (K : PySem.W.Frag) (ta : TE) : TE := fun σ H Q => ta σ H fun x H1 => ∃ (l : Addr) (ns : List Int), x = .ref l ∧ SqT K H1 l (ns.map V.int) ∧ ns.length ≤ 4000 ∧ ∀ c : Nat, (c = ns.length ↔ ns.Nodup) → Q (.int c) H1
theorem pe_lenSetT {X : Cx} {a : Expr} {ta : TE} {p p2 q pos : Pos} (hg : Gl X "len") (hm : X.mg "len" = none) (hg2 : Gl X "set") (hm2 : X.mg "set" = none) (ha : PE X a ta) (hc : X.calm = true := by rfl)
    (na : starEach [a] X.env = (false, eval a X.env) :: starEach [] X.env := by rfl) : PE X (.Call (.Name "len" p) [.Call (.Name "set" p2) [a] [] q] [] pos) (tLenSet X.K ta) := by
  refine ⟨fun pins s σ H Q I want => Call_ (ld_blt I hg hm PySem.boot_len (PyProof.Rows.callWith_builtin1 (PyProof.Rows.args_cons (Call_ (ld_blt I hg2 hm2 PyProof.Rows.boot_set (PyProof.Rows.callWith_type1 (PyProof.Rows.args_cons (thn (ha.run pins s σ H _ I want) fun v s1 got => PyProof.Rows.args_nil ?_) na) na rfl))) rfl) rfl rfl))⟩
  obtain ⟨x, H1, J, r1, l, ns, ex, hq, hl, q1⟩ := got
  subst ex
  obtain rfl : v = Value.ref l := r1
  obtain ⟨its, rel, tup, _⟩ := J.tuple hq
  refine call_set_tupI ns (J.ok.hd hc) tup (by simpa using rel.ints) (by unfold scanBound; omega) fun h' tk c hS hcl kp => PyProof.Rows.args_nil ?_
  obtain ⟨o, es, ep, t, ho, hex, hd, _, nd, mem, _, hf, hn, _⟩ := hS
  have J2 : Inv X pins σ H1 { s1 with heap := h', toks := tk } := J.kept kp
  have len : (es.toList.map keyOf).length = c := by rw [List.length_map, Array.length_toList, hn]
  have key : c = ns.length ↔ ns.Nodup := by
    rw [← len]
    refine many_iff nd fun y => ?_
    rw [← mem y, decide_eq_true_iff]
  exact call_len_set ho hex hd hf (by omega) ⟨.int c, H1, J2.tok _, ⟨_, by rw [hn]⟩, q1 c key⟩
/-! ### webs as data -/
def tieD (t : Tie) : PyData := .tuple [.int t.one, .int t.other, .str (kindS t.foe)]
def webD (n : Int) (ts : List Tie) : PyData := .tuple [.int n, .tuple (ts.map tieD)]
theorem kind_ok (b : Bool) : (PyData.str (kindS b)).canLay0 = true ∧ (kindS b).cps.size ≤ 100 := by cases b <;> decide +kernel
theorem dp_ties {K : PySem.W.Frag} {H : Hp} : ∀ {vs : List V} {ts : List Tie}, Paired (TieV H) vs ts → DpAll K H vs (ts.map tieD)
  | _, _, .nil => .nil
  | _, _, .cons r t => by
    obtain ⟨a, rfl, e⟩ := r
    exact .cons (.tup (SqT.of e) (.cons (.int _) (.cons (.int _) (.cons (.str _) .nil)))) (dp_ties t)
theorem WebAt.dp {K : PySem.W.Frag} {H : Hp} {v : V} {n : Int} {ts : List Tie} (h : WebAt H v n ts) : Dp K H v (webD n ts) := by
  obtain ⟨a, b, vs, rfl, h1, h2, h3⟩ := h
  exact .tup (SqT.of h1) (.cons (.int _) (.cons (.tup (SqT.of h2) (dp_ties h3)) .nil))
theorem lay_tie (t : Tie) : (tieD t).canLay0 = true := by
  unfold tieD
  have h := (kind_ok t.foe).1
  simp only [PyData.canLay0, PyData.canLayAll0, Bool.true_and, Bool.and_true] at h ⊢
  exact h
theorem lay_ties : ∀ ts : List Tie, PyData.canLayAll0 (ts.map tieD) = true
  | [] => by simp [PyData.canLayAll0]
  | t :: ts => by rw [List.map_cons, PyData.canLayAll0, lay_tie t, lay_ties ts]; rfl
theorem lay_web (n : Int) (ts : List Tie) : (webD n ts).canLay0 = true := by
  unfold webD
  rw [PyData.canLay0, PyData.canLayAll0, PyData.canLayAll0, PyData.canLay0, PyData.canLay0, lay_ties, PyData.canLayAll0]
  rfl
theorem deep_ties : ∀ ts : List Tie, PyData.depthAll (ts.map tieD) ≤ 1
  | [] => by simp [PyData.depthAll]
  | t :: ts => by
    have h := deep_ties ts
    have g : (tieD t).depth = 1 := by simp [tieD, PyData.depth, PyData.depthAll]
    rw [List.map_cons, PyData.depthAll, g]
    omega
theorem shaped_web (n : Int) (ts : List Tie) : SeqAt.shaped (webD n ts) = true := by
  have h := deep_ties ts
  have d : (webD n ts).depth ≤ 3 := by
    simp only [webD, PyData.depth, PyData.depthAll]
    omega
  unfold SeqAt.shaped
  rw [lay_web]
  simp
  omega
/-! ### rows of numbers, in lists -/
def listD (xs : List Int) : PyData := .list (xs.map PyData.int)
theorem shaped_listD (xs : List Int) : SeqAt.shaped (listD xs) = true := by
  unfold SeqAt.shaped listD
  rw [PyData.canLay0, PyData.depth, lay_ints, deep_ints]
  rfl
theorem eqvAll_ints : ∀ xs ys : List Int, PyData.eqvAll (xs.map PyData.int) (ys.map PyData.int) = decide (xs = ys)
  | [], [] => by simp [PyData.eqvAll]
  | [], y :: ys => by simp [PyData.eqvAll]
  | x :: xs, [] => by simp [PyData.eqvAll]
  | x :: xs, y :: ys => by
    rw [List.map_cons, List.map_cons, PyData.eqvAll, eqvAll_ints xs ys, PyData.eqv]
    by_cases h1 : x = y <;> by_cases h2 : xs = ys <;> simp [h1, h2]
theorem eqv_listD (xs ys : List Int) : PyData.eqv (listD xs) (listD ys) = decide (xs = ys) := by
  unfold listD
  rw [PyData.eqv]
  exact eqvAll_ints xs ys
theorem filter_rng_succ (p : Int → Bool) (i : Nat) : ((rng (i + 1)).filter p).map V.int = ((rng i).filter p).map V.int ++ (if p i = true then [V.int i] else []) := by
  rw [rng_succ, List.filter_append, List.map_append, List.filter_cons]
  by_cases h : p i = true
  · rw [if_pos h, if_pos h]
    rfl
  · rw [if_neg h, if_neg h]
    rfl
theorem filter_rng_len (p : Int → Bool) (i : Nat) : ((rng i).filter p).length ≤ i := by
  have := List.length_filter_le p (rng i)
  rw [rng_length] at this
  exact this
/-! ### the ring that is told (mathematics) -/
def foeS (ts : List Tie) : List Int → Int
  | [] => 0
  | m :: ms => bI (tieN ts m.toNat).foe + foeS ts ms
theorem foeS_snoc (ts : List Tie) (m : Int) : ∀ ms, foeS ts (ms ++ [m]) = foeS ts ms + bI (tieN ts m.toNat).foe
  | [] => by
    show bI (tieN ts m.toNat).foe + 0 = 0 + bI (tieN ts m.toNat).foe
    omega
  | x :: ms => by
    show bI (tieN ts x.toNat).foe + foeS ts (ms ++ [m]) = bI (tieN ts x.toNat).foe + foeS ts ms + _
    rw [foeS_snoc ts m ms]
    omega
structure RingO (ts : List Tie) (rs ms : List Int) : Prop where
  len : rs.length = ms.length
  two : 2 ≤ ms.length
  few : ms.length ≤ 100
  rp : ∀ x ∈ rs, 0 ≤ x
  mp : ∀ m ∈ ms, 0 ≤ m ∧ m < (ts.length : Int)
  rd : rs.Nodup
  md : ms.Nodup
  each : ∀ k : Nat, k < ms.length → ∃ x y m t, rs[k]? = some x ∧ rs[(k + 1) % rs.length]? = some y ∧ ms[k]? = some m ∧ ts[m.toNat]? = some t ∧ Jn t x y
  odd : foeS ts ms % 2 = 1
theorem rpk_in {n : Nat} {ts : List Tie} (ok : ∀ t ∈ ts, TieOk n t) {x y : Int} {k : Nat} {b : Bool} (h : RPk ts x k y b) : (k = 0 ∧ y = x ∧ b = false) ∨ ((0 ≤ x ∧ x < n) ∧ (0 ≤ y ∧ y < n)) := by
  induction h with
  | nil => exact .inl ⟨rfl, rfl, rfl⟩
  | step r ad ih =>
    right
    obtain ⟨t, ht, _, q⟩ := ad
    have o := ok t ht
    have yz : (0 ≤ (if t.one = t.one then t.one else t.one) ∧ True) := ⟨by simpa using o.1, trivial⟩
    rcases ih with ⟨_, e, _⟩ | ⟨hx, _⟩
    · subst e
      rcases q with ⟨a, b⟩ | ⟨a, b⟩
      · rw [← a, ← b]
        exact ⟨⟨o.1, o.2.1⟩, o.2.2.1, o.2.2.2.1⟩
      · rw [← a, ← b]
        exact ⟨⟨o.2.2.1, o.2.2.2.1⟩, o.1, o.2.1⟩
    · refine ⟨hx, ?_⟩
      rcases q with ⟨a, b⟩ | ⟨a, b⟩
      · rw [← b]
        exact ⟨o.2.2.1, o.2.2.2.1⟩
      · rw [← a]
        exact ⟨o.1, o.2.1⟩
theorem xor_cancel3 (a b c : Bool) : ((a ^^ b) ^^ (b ^^ c)) = (a ^^ c) := by cases a <;> cases b <;> cases c <;> rfl
theorem jn_two {t : Tie} {a b c d : Int} (h : Jn t a b) (g : Jn t c d) : (a = c ∧ b = d) ∨ (a = d ∧ b = c) := by
  rcases h with ⟨h1, h2⟩ | ⟨h1, h2⟩ <;> rcases g with ⟨g1, g2⟩ | ⟨g1, g2⟩ <;> omega
theorem ring_of {n : Nat} {ts : List Tie} (ok : ∀ t ∈ ts, TieOk n t) {s : Nat} {qs ns : List Int} (way : Way (dN ts) (2 * (s : Int) + 1) (2 * (s : Int)) qs ns) (least : ∀ (x : Int) (k : Nat), RPk ts x k x true → ns.length ≤ k) (few : ns.length ≤ 100) (s0 : (0 : Int) ≤ s) : RingO ts (qs.dropLast.map (· / 2)) (ns.map (· / 2)) := by
  have lq := way.len
  have hd := way.head
  have la := way.last
  have ea := way.each
  have nd := way.nodup
  let g : Nat → Int := fun i => qs.getD i 0
  have gq : ∀ i, i ≤ ns.length → qs[i]? = some (g i) := fun i hi => by
    show qs[i]? = some (qs.getD i 0)
    rw [List.getD_eq_getElem?_getD, List.getElem?_eq_getElem (by omega)]
    rfl
  have g0 : g 0 = 2 * (s : Int) := by
    have := gq 0 (Nat.zero_le _)
    rw [hd] at this
    exact (Option.some.inj this).symm
  have gL : g ns.length = 2 * (s : Int) + 1 := by
    have := gq ns.length (Nat.le_refl _)
    rw [la] at this
    exact (Option.some.inj this).symm
  have st : ∀ i, i < ns.length → ∃ (m : Int) (j : Nat) (t : Tie), ns[i]? = some m ∧ ts[j]? = some t ∧ m / 2 = (j : Int) ∧ 0 ≤ m ∧ Jn t (g i / 2) (g (i + 1) / 2) ∧ g (i + 1) % 2 = (g i % 2 + bI t.foe) % 2 := fun i hi => by
    obtain ⟨x, y, m, h1, h2, h3, h4⟩ := ea i hi
    rw [gq i (by omega)] at h1
    rw [gq (i + 1) (by omega)] at h2
    cases h1
    cases h2
    obtain ⟨j, t, e1, e2, e3, e4, e5⟩ := dN_to h4
    exact ⟨m, j, t, h3, e1, e2, e3, e4, e5⟩
  have seg : ∀ d i, i + d ≤ ns.length → RPk ts (g i / 2) d (g (i + d) / 2) (oB (g i) ^^ oB (g (i + d))) := fun d => by
    induction d with
    | zero =>
      intro i _
      rw [Nat.add_zero, Bool.xor_self]
      exact .nil
    | succ d ih =>
      intro i hi
      have r := ih i (by omega)
      obtain ⟨m, j, t, _, et, _, _, jn, pr⟩ := st (i + d) (by omega)
      have e : oB (g (i + (d + 1))) = (oB (g (i + d)) ^^ t.foe) := oB_add pr
      rw [e, ← Bool.xor_assoc]
      exact .step r ⟨t, List.mem_of_getElem? et, rfl, jn⟩
  have dist : ∀ i j, i < j → j < ns.length → g i / 2 ≠ g j / 2 := fun i j hij hj e => by
    have ne : g i ≠ g j := fun z => by
      have h1 := gq i (by omega)
      have h2 := gq j (by omega)
      rw [z] at h1
      have := (List.getElem?_inj (show i < qs.length by omega) nd).mp (h1.trans h2.symm)
      omega
    have r := seg (j - i) i (by omega)
    rw [show i + (j - i) = j from by omega, ← e] at r
    have po : (oB (g i) ^^ oB (g j)) = true := by
      have a : g i % 2 = 0 ∨ g i % 2 = 1 := by omega
      have b : g j % 2 = 0 ∨ g j % 2 = 1 := by omega
      unfold oB
      rcases a with a | a <;> rcases b with b | b <;> rw [a, b]
      · omega
      · rfl
      · rfl
      · omega
    rw [po] at r
    have := least _ _ r
    omega
  have p0L : g ns.length / 2 = g 0 / 2 := by rw [gL, g0]; omega
  have pos : 1 ≤ ns.length := by
    by_cases h : ns.length = 0
    · rw [h, g0] at gL
      omega
    · omega
  have two : 2 ≤ ns.length := by
    by_cases h : ns.length = 1
    · obtain ⟨m, j, t, _, et, _, _, jn, _⟩ := st 0 (by omega)
      rw [show 0 + 1 = ns.length from by omega, p0L] at jn
      have := (ok t (List.mem_of_getElem? et)).2.2.2.2
      rcases jn with ⟨a, b⟩ | ⟨a, b⟩ <;> exact absurd (a.trans b.symm) this
    · omega
  have rg : ∀ i, i < ns.length → (qs.dropLast.map (· / 2))[i]? = some (g i / 2) := fun i hi => by
    rw [List.getElem?_map, List.dropLast_eq_take, List.getElem?_take, if_pos (by omega), gq i (by omega)]
    rfl
  have lr : (qs.dropLast.map (· / 2)).length = ns.length := by rw [List.length_map, List.length_dropLast]; omega
  have mg' : ∀ {i : Nat} {m : Int}, ns[i]? = some m → (ns.map (· / 2))[i]? = some (m / 2) := fun h => by rw [List.getElem?_map, h]; rfl
  have nonneg : ∀ i, i < ns.length → 0 ≤ g i / 2 := fun i hi => by
    rcases rpk_in ok (seg 1 i (by omega)) with ⟨e, _⟩ | ⟨h, _⟩
    · omega
    · exact h.1
  refine ⟨by rw [lr, List.length_map], by rw [List.length_map]; exact two, by rw [List.length_map]; exact few, fun x hx => ?_, fun m hm => ?_, ?_, ?_, fun k hk => ?_, ?_⟩
  · obtain ⟨i, hi⟩ := List.getElem?_of_mem hx
    have hil : i < ns.length := by have := (List.getElem?_eq_some_iff.mp hi).1; omega
    rw [rg i hil] at hi
    cases hi
    exact nonneg i hil
  · obtain ⟨y, hy, rfl⟩ := List.mem_map.mp hm
    obtain ⟨i, hi⟩ := List.getElem?_of_mem hy
    obtain ⟨m, j, t, h1, et, e2, _⟩ := st i (List.getElem?_eq_some_iff.mp hi).1
    rw [hi] at h1
    cases h1
    have := (List.getElem?_eq_some_iff.mp et).1
    omega
  · unfold List.Nodup
    rw [List.pairwise_iff_getElem]
    intro i j hi hj hij e
    have h1 := rg i (by omega)
    have h2 := rg j (by omega)
    rw [List.getElem?_eq_getElem hi] at h1
    rw [List.getElem?_eq_getElem hj] at h2
    exact dist i j hij (by omega) (by rw [← Option.some.inj h1, ← Option.some.inj h2]; exact e)
  · unfold List.Nodup
    rw [List.pairwise_iff_getElem]
    intro i j hi hj hij e
    rw [List.length_map] at hi hj
    obtain ⟨mi, ji, ti, h1, eti, e2, _, jni, pri⟩ := st i hi
    obtain ⟨mj, jj, tj, h1', etj, e2', _, jnj, prj⟩ := st j hj
    have em : mi / 2 = mj / 2 := by
      have a := mg' h1
      have b := mg' h1'
      rw [List.getElem?_eq_getElem (by rw [List.length_map]; exact hi)] at a
      rw [List.getElem?_eq_getElem (by rw [List.length_map]; exact hj)] at b
      rw [← Option.some.inj a, ← Option.some.inj b]
      exact e
    have ej : ji = jj := by omega
    subst ej
    rw [eti] at etj
    cases etj
    rcases jn_two jni jnj with ⟨a, b⟩ | ⟨a, b⟩
    · exact dist i j hij hj a
    · by_cases hL : j + 1 < ns.length
      · exact dist i (j + 1) (by omega) hL a
      · have hj1 : j + 1 = ns.length := by omega
        rw [hj1, p0L] at a
        have i0 : i = 0 := by
          by_cases h : i = 0
          · exact h
          · exact absurd a.symm (dist 0 i (by omega) hi)
        subst i0
        have j1 : j = 1 := by
          by_cases h : j = 1
          · exact h
          · exact absurd b (dist 1 j (by omega) hj)
        subst j1
        rw [show 1 + 1 = ns.length from by omega, gL] at prj
        rw [show 0 + 1 = 1 from rfl, g0] at pri
        have := bI01 ti.foe
        omega
  · rw [List.length_map] at hk
    obtain ⟨m, j, t, h1, et, e2, e3, jn, _⟩ := st k hk
    refine ⟨g k / 2, g (k + 1) / 2, m / 2, t, rg k hk, ?_, mg' h1, by rw [e2, Int.toNat_natCast]; exact et, jn⟩
    rw [lr]
    by_cases h : k + 1 < ns.length
    · rw [Nat.mod_eq_of_lt h]
      exact rg (k + 1) h
    · have : k + 1 = ns.length := by omega
      rw [this, Nat.mod_self, rg 0 (by omega), p0L]
  · have par : ∀ k, k ≤ ns.length → foeS ts ((ns.map (· / 2)).take k) % 2 = g k % 2 := fun k => by
      induction k with
      | zero =>
        intro _
        rw [List.take_zero, g0]
        show (0 : Int) % 2 = _
        omega
      | succ k ih =>
        intro hk
        obtain ⟨m, j, t, h1, et, e2, _, _, pr⟩ := st k (by omega)
        rw [List.take_add_one, mg' h1, Option.toList_some, foeS_snoc, e2, Int.toNat_natCast, tieN_of et, pr]
        have := ih (by omega)
        omega
    have := par ns.length (Nat.le_refl _)
    rw [List.take_of_length_le (by rw [List.length_map]; exact Nat.le_refl _), gL] at this
    omega
/-! ### the layers that are told -/
theorem gI_rowW {ws : List We} {far : Int} {m : Nat} {x : Int} (h0 : 0 ≤ x) (h1 : x < m) : gI (rowW ws far m) x = ((lvW ws x).map fun k : Nat => (k : Int)).getD far := by
  unfold gI rowW
  rw [List.getD_eq_getElem?_getD, List.getElem?_map, List.getElem?_range (by omega)]
  show ((lvW ws ((x.toNat : Nat) : Int)).map fun k : Nat => (k : Int)).getD far = _
  rw [show ((x.toNat : Nat) : Int) = x from by omega]
theorem lv_near {ts : List Tie} {p : Nat} {ws : List We} (h : Wks ts p ws) {y z : Int} {f b : Bool} (ad : Adj ts y z f) (far : Int) : nearZ (((lvW ws (2 * y + bI b)).map fun k : Nat => (k : Int)).getD far) (((lvW ws (2 * z + bI (b ^^ f))).map fun k : Nat => (k : Int)).getD far) = true := by
  have ad2 : Adj ts z y f := by
    obtain ⟨t, ht, e, q⟩ := ad
    exact ⟨t, ht, e, q.symm⟩
  have one : ∀ {y z : Int} {b : Bool}, Adj ts y z f → ∀ k g, (2 * y + bI b, k, g) ∈ ws → ∃ k' g', (2 * z + bI (b ^^ f), k', g') ∈ ws ∧ k' ≤ k + 1 := fun ad k g he => by
    obtain ⟨m, hm⟩ := dN_of ad
    obtain ⟨k', g', h1, h2⟩ := h.cl _ he _ hm
    exact ⟨k', g', h1, h2⟩
  by_cases hin : (2 * y + bI b) ∈ ws.map (·.1)
  · obtain ⟨k, g, he⟩ := we_key hin
    obtain ⟨k', g', h1, h2⟩ := one ad k g he
    obtain ⟨k2, g2, h3, h4⟩ := one ad2 k' g' h1
    rw [show ((b ^^ f) ^^ f) = b from by cases b <;> cases f <;> rfl] at h3
    have := (we_one h.nd he h3).1
    rw [lvW_some h.nd he, lvW_some h.nd h1]
    show (decide ((k : Int) - (k' : Int) ≤ 1) && decide ((k' : Int) - (k : Int) ≤ 1)) = true
    rw [decide_eq_true (by omega), decide_eq_true (by omega)]
    rfl
  · have hno : (2 * z + bI (b ^^ f)) ∉ ws.map (·.1) := fun hz => by
      obtain ⟨k, g, he⟩ := we_key hz
      obtain ⟨k', g', h1, _⟩ := one ad2 k g he
      rw [show ((b ^^ f) ^^ f) = b from by cases b <;> cases f <;> rfl] at h1
      exact hin (List.mem_map.mpr ⟨_, h1, rfl⟩)
    rw [lvW_none hin, lvW_none hno]
    show (decide (far - far ≤ 1) && decide (far - far ≤ 1)) = true
    rw [decide_eq_true (by omega)]
    rfl
theorem row_told {n : Nat} {ts : List Tie} (ok : ∀ t ∈ ts, TieOk n t) {p L : Nat} (hp : p < n) {ws : List We} (h : Wks ts p ws) : RowG ts n p (rowW ws L (2 * n)) := by
  refine ⟨by unfold rowW; rw [List.length_map, List.length_range], fun x hx => ?_, ?_, fun t ht => ?_⟩
  · unfold rowW at hx
    obtain ⟨i, _, rfl⟩ := List.mem_map.mp hx
    cases lvW ws (i : Int) with
    | none => show (0 : Int) ≤ (L : Int); omega
    | some k => show (0 : Int) ≤ (k : Int); omega
  · rw [gI_rowW (by omega) (by push_cast; omega), lvW_some h.nd h.root]
    rfl
  · obtain ⟨o1, o2, o3, o4, _⟩ := ok t ht
    have ad : Adj ts t.one t.other t.foe := ⟨t, ht, rfl, .inl ⟨rfl, rfl⟩⟩
    have n0 := lv_near (b := false) h ad (L : Int)
    have n1 := lv_near (b := true) h ad (L : Int)
    have f01 := bI01 t.foe
    have e0 : bI (false ^^ t.foe) = bI t.foe := by cases t.foe <;> rfl
    have e1 : bI (true ^^ t.foe) = 1 - bI t.foe := by cases t.foe <;> rfl
    rw [e0, show bI false = 0 from rfl, Int.add_zero] at n0
    rw [e1, show bI true = 1 from rfl, show 2 * t.other + (1 - bI t.foe) = 2 * t.other + 1 - bI t.foe from by omega] at n1
    unfold nearI
    rw [gI_rowW (by omega) (by push_cast; omega), gI_rowW (by omega) (by push_cast; omega), gI_rowW (by omega) (by push_cast; omega), gI_rowW (by omega) (by push_cast; omega), n0, n1]
    rfl
/-! ### k20: chosen ties whose every place is met twice (mathematics) -/
def d1 (t : Tie) (x : Int) : Nat := (if t.one = x then 1 else 0) + (if t.other = x then 1 else 0)
def dg : List Tie → Int → Nat
  | [], _ => 0
  | t :: T, x => d1 t x + dg T x
theorem dg_snoc (t : Tie) (x : Int) : ∀ T, dg (T ++ [t]) x = dg T x + d1 t x
  | [] => by show d1 t x + 0 = 0 + d1 t x; omega
  | u :: T => by
    show d1 u x + dg (T ++ [t]) x = d1 u x + dg T x + d1 t x
    rw [dg_snoc t x T]
    omega
theorem sum_two {f g : Int → Nat} : ∀ ks : List Int, (ks.map fun k => f k + g k).sum = (ks.map f).sum + (ks.map g).sum
  | [] => rfl
  | k :: ks => by
    simp only [List.map_cons, List.sum_cons]
    rw [sum_two ks]
    omega
theorem sum_none {a : Int} {w : Int → Nat} : ∀ {ks : List Int}, a ∉ ks → (ks.map fun k => (if a = k then 1 else 0) * w k).sum = 0
  | [], _ => rfl
  | k :: ks, h => by
    simp only [List.map_cons, List.sum_cons]
    rw [sum_none (ks := ks) fun z => h (List.mem_cons_of_mem _ z), if_neg (show ¬ a = k from fun z => h (z ▸ List.mem_cons_self))]
    omega
theorem sum_at {a : Int} {w : Int → Nat} : ∀ {ks : List Int}, ks.Nodup → a ∈ ks → (ks.map fun k => (if a = k then 1 else 0) * w k).sum = w a
  | [], _, h => by cases h
  | k :: ks, nd, h => by
    simp only [List.map_cons, List.sum_cons]
    have nd' := List.nodup_cons.mp nd
    by_cases e : a = k
    · rw [e, sum_none nd'.1, if_pos rfl]
      omega
    · have : a ∈ ks := (List.mem_cons.mp h).resolve_left e
      rw [sum_at nd'.2 this, if_neg e]
      omega
theorem sum_dg {w : Int → Nat} {ks : List Int} (nd : ks.Nodup) : ∀ {T : List Tie}, (∀ t ∈ T, t.one ∈ ks ∧ t.other ∈ ks) → (T.map fun t => w t.one + w t.other).sum = (ks.map fun k => dg T k * w k).sum
  | [], _ => by
    show 0 = (ks.map fun k => 0 * w k).sum
    induction ks with
    | nil => rfl
    | cons k ks ih =>
      simp only [List.map_cons, List.sum_cons]
      rw [← ih (List.nodup_cons.mp nd).2 (fun t ht => by cases ht)]
      omega
  | t :: T, h => by
    obtain ⟨h1, h2⟩ := h t List.mem_cons_self
    have e : (ks.map fun k => dg (t :: T) k * w k) = ks.map fun k => ((if t.one = k then 1 else 0) * w k + (if t.other = k then 1 else 0) * w k) + dg T k * w k :=
      List.map_congr_left fun k _ => by
        show (d1 t k + dg T k) * w k = _
        unfold d1
        rw [Nat.add_mul, Nat.add_mul]
    rw [e, sum_two, sum_two, sum_at nd h1, sum_at nd h2, ← sum_dg nd fun t ht => h t (List.mem_cons_of_mem _ ht)]
    simp only [List.map_cons, List.sum_cons]
theorem sum_deg2 {w : Int → Nat} {ks : List Int} {T : List Tie} (nd : ks.Nodup) (h : ∀ t ∈ T, t.one ∈ ks ∧ t.other ∈ ks) (d : ∀ k ∈ ks, dg T k = 2) : (T.map fun t => w t.one + w t.other).sum = 2 * (ks.map w).sum := by
  rw [sum_dg nd h]
  have e : (ks.map fun k => dg T k * w k) = ks.map fun k => w k + w k := List.map_congr_left fun k hk => by rw [d k hk]; omega
  rw [e, sum_two]
  omega
theorem len_deg2 {ks : List Int} {T : List Tie} (nd : ks.Nodup) (h : ∀ t ∈ T, t.one ∈ ks ∧ t.other ∈ ks) (d : ∀ k ∈ ks, dg T k = 2) : T.length = ks.length := by
  have := sum_deg2 (w := fun _ => 1) nd h d
  have c1 : ∀ T : List Tie, (T.map fun _ => (1 : Nat) + 1).sum = 2 * T.length := fun T => by
    induction T with
    | nil => rfl
    | cons t T ih => simp only [List.map_cons, List.sum_cons, List.length_cons]; omega
  have c2 : ∀ T : List Int, (T.map fun _ => (1 : Nat)).sum = T.length := fun T => by
    induction T with
    | nil => rfl
    | cons t T ih => simp only [List.map_cons, List.sum_cons, List.length_cons]; omega
  rw [c1, c2] at this
  omega
def foeN (T : List Tie) : Nat := (T.filter fun t => t.foe).length
theorem foe_even {c : Int → Bool} {ks : List Int} {T : List Tie} (nd : ks.Nodup) (h : ∀ t ∈ T, t.one ∈ ks ∧ t.other ∈ ks) (d : ∀ k ∈ ks, dg T k = 2) (hc : ∀ t ∈ T, (c t.one ^^ c t.other) = t.foe) : foeN T % 2 = 0 := by
  have e := sum_deg2 (w := fun x => if c x = true then 1 else 0) nd h d
  have par : ∀ T : List Tie, (∀ t ∈ T, (c t.one ^^ c t.other) = t.foe) → foeN T % 2 = (T.map fun t => (if c t.one = true then 1 else 0) + if c t.other = true then 1 else 0).sum % 2 := by
    intro T
    induction T with
    | nil => intro _; rfl
    | cons t T ih =>
      intro hT
      have i := ih fun t ht => hT t (List.mem_cons_of_mem _ ht)
      have ht := hT t List.mem_cons_self
      unfold foeN at i ⊢
      simp only [List.map_cons, List.sum_cons, List.filter_cons]
      cases a : c t.one <;> cases b : c t.other <;> rw [a, b] at ht <;> rw [← ht] <;> simp <;> omega
  rw [par T hc, e]
  omega
/-! walks -/
theorem RPk.trans {ts : List Tie} {x y z : Int} {k l : Nat} {b c : Bool} (h : RPk ts x k y b) (g : RPk ts y l z c) : RPk ts x (k + l) z (b ^^ c) := by
  induction g with
  | nil => rw [Bool.xor_false]; exact h
  | step _ ad ih => rw [← Bool.xor_assoc]; exact ih.step ad
theorem RPk.symm {ts : List Tie} {x y : Int} {k : Nat} {b : Bool} (h : RPk ts x k y b) : RPk ts y k x b := by
  induction h with
  | nil => exact .nil
  | @step k u z b f _ ad ih =>
    have := (RPk.step .nil ad.symm).trans ih
    rw [Bool.false_xor, Bool.xor_comm, Nat.add_comm] at this
    exact this
theorem RPk.mono {T ts : List Tie} (sub : ∀ t ∈ T, t ∈ ts) {x y : Int} {k : Nat} {b : Bool} (h : RPk T x k y b) : RPk ts x k y b := by
  induction h with
  | nil => exact .nil
  | step _ ad ih =>
    obtain ⟨t, ht, e⟩ := ad
    exact ih.step ⟨t, sub t ht, e⟩
theorem col_ex {T : List Tie} (no : ∀ x k, ¬ RPk T x k x true) : ∃ c : Int → Bool, ∀ t ∈ T, (c t.one ^^ c t.other) = t.foe := by
  classical
  let rep : Int → Int := fun x => Classical.epsilon fun r => ∃ k b, RPk T r k x b
  have hrep : ∀ x, ∃ k b, RPk T (rep x) k x b := fun x => Classical.epsilon_spec (p := fun r => ∃ k b, RPk T r k x b) ⟨x, 0, false, .nil⟩
  have one : ∀ {r x : Int} {k l : Nat} {b b' : Bool}, RPk T r k x b → RPk T r l x b' → b = b' := fun {r x k l b b'} h g => by
    have := h.trans g.symm
    cases b <;> cases b' <;> first | rfl | exact (no _ _ this).elim
  refine ⟨fun x => decide (∃ k, RPk T (rep x) k x true), fun t ht => ?_⟩
  have ad : Adj T t.one t.other t.foe := ⟨t, ht, rfl, .inl ⟨rfl, rfl⟩⟩
  have er : rep t.one = rep t.other := by
    have : (fun r => ∃ k b, RPk T r k t.one b) = fun r => ∃ k b, RPk T r k t.other b := funext fun r => propext ⟨fun ⟨k, b, h⟩ => ⟨_, _, h.step ad⟩, fun ⟨k, b, h⟩ => ⟨_, _, h.step ad.symm⟩⟩
    show Classical.epsilon _ = Classical.epsilon _
    rw [this]
  obtain ⟨k, b, h⟩ := hrep t.one
  have h2 := h.step ad
  have col : ∀ {x : Int} {k : Nat} {b : Bool}, RPk T (rep x) k x b → decide (∃ k, RPk T (rep x) k x true) = b := fun {x k b} h => by
    cases b
    · exact decide_eq_false fun ⟨l, g⟩ => by cases one h g
    · exact decide_eq_true ⟨k, h⟩
  show (decide _ ^^ decide _) = _
  rw [col h]
  rw [er] at h2
  rw [col h2]
  cases b <;> cases t.foe <;> rfl
theorem RPk.fn {ts : List Tie} {x y : Int} {k : Nat} {b : Bool} (h : RPk ts x k y b) : ∃ (f : Nat → Int) (g : Nat → Bool), f 0 = x ∧ g 0 = false ∧ f k = y ∧ g k = b ∧ ∀ i, i < k → ∃ fo, Adj ts (f i) (f (i + 1)) fo ∧ g (i + 1) = (g i ^^ fo) := by
  induction h with
  | nil => exact ⟨fun _ => x, fun _ => false, rfl, rfl, rfl, rfl, fun i hi => by omega⟩
  | @step k u z b fo _ ad ih =>
    obtain ⟨f, g, f0, g0, fk, gk, st⟩ := ih
    refine ⟨fun i => if i ≤ k then f i else z, fun i => if i ≤ k then g i else b ^^ fo, by show (if 0 ≤ k then _ else _) = _; rw [if_pos (by omega), f0], by show (if 0 ≤ k then _ else _) = _; rw [if_pos (by omega), g0], if_neg (by omega), if_neg (by omega), fun i hi => ?_⟩
    by_cases e : i < k
    · obtain ⟨w, a1, a2⟩ := st i e
      refine ⟨w, ?_, ?_⟩
      · show Adj ts (if i ≤ k then f i else z) (if i + 1 ≤ k then f (i + 1) else z) w
        rw [if_pos (by omega), if_pos (by omega)]
        exact a1
      · show (if i + 1 ≤ k then g (i + 1) else b ^^ fo) = ((if i ≤ k then g i else b ^^ fo) ^^ w)
        rw [if_pos (by omega), if_pos (by omega)]
        exact a2
    · obtain rfl : i = k := by omega
      refine ⟨fo, ?_, ?_⟩
      · show Adj ts (if i ≤ i then f i else z) (if i + 1 ≤ i then f (i + 1) else z) fo
        rw [if_pos (by omega), if_neg (by omega), fk]
        exact ad
      · show (if i + 1 ≤ i then g (i + 1) else b ^^ fo) = ((if i ≤ i then g i else b ^^ fo) ^^ fo)
        rw [if_neg (by omega), if_pos (by omega), gk]
theorem fn_rpk {ts : List Tie} {k : Nat} {f : Nat → Int} {g : Nat → Bool} (st : ∀ i, i < k → ∃ fo, Adj ts (f i) (f (i + 1)) fo ∧ g (i + 1) = (g i ^^ fo)) (i : Nat) : ∀ d, i + d ≤ k → RPk ts (f i) d (f (i + d)) (g i ^^ g (i + d))
  | 0, _ => by rw [Nat.add_zero, Bool.xor_self]; exact .nil
  | d + 1, h => by
    obtain ⟨fo, a1, a2⟩ := st (i + d) (by omega)
    have := (fn_rpk st i d (by omega)).step a1
    rw [Bool.xor_assoc, ← a2] at this
    exact this
theorem short_odd {T : List Tie} {ks : List Int} (hk : ∀ t ∈ T, t.one ∈ ks ∧ t.other ∈ ks) : ∀ (m k : Nat) (x : Int), k ≤ m → RPk T x k x true → ∃ x L, L ≤ ks.length ∧ RPk T x L x true
  | m, k, x, hm, h => by
    by_cases hl : k ≤ ks.length
    · exact ⟨x, k, hl, h⟩
    · obtain ⟨f, g, f0, g0, fk, gk, st⟩ := h.fn
      have rep : ∃ i j, i < j ∧ j < k ∧ f i = f j := by
        refine Classical.byContradiction fun no => ?_
        have nd : ((List.range k).map f).Nodup := by
          rw [List.nodup_iff_pairwise_ne, List.pairwise_map]
          refine (List.pairwise_lt_range).imp_of_mem fun {a b} ha hb lt e => no ⟨a, b, lt, List.mem_range.mp hb, e⟩
        have := sub_len nd fun y hy => by
          obtain ⟨i, hi, rfl⟩ := List.mem_map.mp hy
          obtain ⟨fo, ⟨t, ht, _, q⟩, _⟩ := st i (List.mem_range.mp hi)
          obtain ⟨h1, h2⟩ := hk t ht
          rcases q with ⟨a, _⟩ | ⟨_, a⟩
          · exact a ▸ h1
          · exact a ▸ h2
        rw [List.length_map, List.length_range] at this
        omega
      obtain ⟨i, j, ij, jk, e⟩ := rep
      have A := fn_rpk st i (j - i) (by omega)
      have B1 := fn_rpk st 0 i (by omega)
      have B2 := fn_rpk st j (k - j) (by omega)
      rw [show i + (j - i) = j by omega, ← e] at A
      rw [show j + (k - j) = k by omega, ← e, fk, gk] at B2
      rw [Nat.zero_add, g0, f0, Bool.false_xor] at B1
      have B := B1.trans B2
      cases m with
      | zero => omega
      | succ m =>
        cases par : (g i ^^ g j) with
        | true =>
          rw [par] at A
          exact short_odd hk m _ _ (by omega) A
        | false =>
          have : (g i ^^ (g j ^^ true)) = true := by rw [← Bool.xor_assoc, par]; rfl
          rw [this] at B
          exact short_odd hk m _ _ (by omega) B
theorem deg2_walk {ts T : List Tie} {ks : List Int} (sub : ∀ t ∈ T, t ∈ ts) (nd : ks.Nodup) (h : ∀ t ∈ T, t.one ∈ ks ∧ t.other ∈ ks) (d : ∀ k ∈ ks, dg T k = 2) (od : foeN T % 2 = 1) : ∃ x L, L ≤ T.length ∧ RPk ts x L x true := by
  by_cases ex : ∃ x k, RPk T x k x true
  · obtain ⟨x, k, r⟩ := ex
    obtain ⟨y, L, hl, g⟩ := short_odd h k k x (Nat.le_refl _) r
    rw [← len_deg2 nd h d] at hl
    exact ⟨y, L, hl, g.mono sub⟩
  · obtain ⟨c, hc⟩ := col_ex fun x k r => ex ⟨x, k, r⟩
    have := foe_even nd h d hc
    omega
/-! ### k20: a ring told is among the choices (mathematics) -/
def addk (ks : List Int) (x : Int) : List Int := if x ∈ ks then ks else ks ++ [x]
theorem mem_addk {ks : List Int} {x y : Int} : y ∈ addk ks x ↔ y ∈ ks ∨ y = x := by
  unfold addk
  by_cases h : x ∈ ks
  · rw [if_pos h]
    exact ⟨.inl, fun q => q.elim id fun e => e ▸ h⟩
  · rw [if_neg h]
    simp
theorem nd_addk {ks : List Int} (nd : ks.Nodup) (x : Int) : (addk ks x).Nodup := by
  unfold addk
  by_cases h : x ∈ ks
  · rw [if_pos h]; exact nd
  · rw [if_neg h]
    exact List.nodup_append.mpr ⟨nd, by simp, fun a ha b hb e => h (by rw [List.mem_singleton.mp hb] at e; exact e ▸ ha)⟩
def keyS (ks : List Int) (t : Tie) : List Int := addk (addk ks t.one) t.other
def keysM (T : List Tie) : List Int := T.foldl keyS []
theorem keys_mem : ∀ (T : List Tie) (ks : List Int) (y : Int), y ∈ T.foldl keyS ks ↔ y ∈ ks ∨ ∃ t ∈ T, y = t.one ∨ y = t.other
  | [], ks, y => by simp
  | t :: T, ks, y => by
    rw [List.foldl_cons, keys_mem T]
    unfold keyS
    rw [mem_addk, mem_addk]
    constructor
    · rintro (((h | h) | h) | ⟨u, hu, h⟩)
      · exact .inl h
      · exact .inr ⟨t, List.mem_cons_self, .inl h⟩
      · exact .inr ⟨t, List.mem_cons_self, .inr h⟩
      · exact .inr ⟨u, List.mem_cons_of_mem _ hu, h⟩
    · rintro (h | ⟨u, hu, h⟩)
      · exact .inl (.inl (.inl h))
      · rcases List.mem_cons.mp hu with rfl | hu
        · rcases h with h | h
          · exact .inl (.inl (.inr h))
          · exact .inl (.inr h)
        · exact .inr ⟨u, hu, h⟩
theorem keys_nd : ∀ (T : List Tie) (ks : List Int), ks.Nodup → (T.foldl keyS ks).Nodup
  | [], _, h => h
  | t :: T, ks, h => keys_nd T _ (nd_addk (nd_addk h _) _)
theorem mem_keysM {T : List Tie} {y : Int} : y ∈ keysM T ↔ ∃ t ∈ T, y = t.one ∨ y = t.other := by
  unfold keysM
  rw [keys_mem]
  simp
theorem keysM_nd (T : List Tie) : (keysM T).Nodup := keys_nd T [] List.nodup_nil
theorem keysM_cov {T : List Tie} : ∀ t ∈ T, t.one ∈ keysM T ∧ t.other ∈ keysM T := fun t ht => ⟨mem_keysM.mpr ⟨t, ht, .inl rfl⟩, mem_keysM.mpr ⟨t, ht, .inr rfl⟩⟩
def seeT (s : List Int) (t : Tie) : List Int := if t.one ∈ s ∧ t.other ∉ s then s ++ [t.other] else if t.other ∈ s ∧ t.one ∉ s then s ++ [t.one] else s
theorem seeT_sub {s : List Int} {t : Tie} {x : Int} (h : x ∈ s) : x ∈ seeT s t := by
  unfold seeT
  split
  · exact List.mem_append_left _ h
  · split
    · exact List.mem_append_left _ h
    · exact h
theorem seeT_jn {s : List Int} {t : Tie} {a b : Int} (j : Jn t a b) (h : a ∈ s) : b ∈ seeT s t := by
  unfold seeT
  rcases j with ⟨rfl, rfl⟩ | ⟨rfl, rfl⟩
  · by_cases e : t.other ∈ s
    · rw [if_neg fun z => z.2 e, if_neg fun z => z.2 h]; exact e
    · rw [if_pos ⟨h, e⟩]; simp
  · by_cases e : t.one ∈ s
    · rw [if_neg fun z => z.2 h, if_neg fun z => z.2 e]; exact e
    · rw [if_neg fun z => e z.1, if_pos ⟨h, e⟩]; simp
theorem nd_snoc {s : List Int} {x : Int} (nd : s.Nodup) (h : x ∉ s) : (s ++ [x]).Nodup :=
  List.nodup_append.mpr ⟨nd, by simp, fun a ha b hb e => h (by rw [List.mem_singleton.mp hb] at e; exact e ▸ ha)⟩
theorem seeT_nd {s : List Int} {t : Tie} (nd : s.Nodup) : (seeT s t).Nodup := by
  unfold seeT
  split
  · rename_i h; exact nd_snoc nd h.2
  · split
    · rename_i h; exact nd_snoc nd h.2
    · exact nd
theorem seeT_in {s R : List Int} {t : Tie} (hs : ∀ x ∈ s, x ∈ R) (h1 : t.one ∈ R) (h2 : t.other ∈ R) : ∀ x ∈ seeT s t, x ∈ R := by
  unfold seeT
  intro x hx
  split at hx
  · rcases List.mem_append.mp hx with h | h
    · exact hs x h
    · rw [List.mem_singleton.mp h]; exact h2
  · split at hx
    · rcases List.mem_append.mp hx with h | h
      · exact hs x h
      · rw [List.mem_singleton.mp h]; exact h1
    · exact hs x hx
theorem seeR_sub : ∀ {T : List Tie} {s : List Int} {x : Int}, x ∈ s → x ∈ T.foldl seeT s
  | [], _, _, h => h
  | t :: T, _, _, h => seeR_sub (T := T) (seeT_sub h)
theorem seeR_jn : ∀ {T : List Tie} {s : List Int} {t : Tie} {a b : Int}, t ∈ T → Jn t a b → a ∈ s → b ∈ T.foldl seeT s
  | u :: T, s, t, a, b, ht, j, h => by
    rw [List.foldl_cons]
    rcases List.mem_cons.mp ht with rfl | ht
    · exact seeR_sub (seeT_jn j h)
    · exact seeR_jn ht j (seeT_sub h)
theorem seeR_nd : ∀ {T : List Tie} {s : List Int}, s.Nodup → (T.foldl seeT s).Nodup
  | [], _, h => h
  | t :: T, _, h => seeR_nd (T := T) (seeT_nd h)
theorem seeR_in {R : List Int} : ∀ {T : List Tie} {s : List Int}, (∀ x ∈ s, x ∈ R) → (∀ t ∈ T, t.one ∈ R ∧ t.other ∈ R) → ∀ x ∈ T.foldl seeT s, x ∈ R
  | [], _, h, _ => h
  | t :: T, _, h, g => seeR_in (T := T) (seeT_in h (g t List.mem_cons_self).1 (g t List.mem_cons_self).2) fun u hu => g u (List.mem_cons_of_mem _ hu)
def seeN (T : List Tie) (s : Int) : Nat → List Int
  | 0 => [s]
  | i + 1 => T.foldl seeT (seeN T s i)
theorem seeN_nd (T : List Tie) (s : Int) : ∀ i, (seeN T s i).Nodup
  | 0 => by simp [seeN]
  | i + 1 => seeR_nd (seeN_nd T s i)
theorem seeN_in {R : List Int} {T : List Tie} {s : Int} (h : s ∈ R) (g : ∀ t ∈ T, t.one ∈ R ∧ t.other ∈ R) : ∀ i, ∀ x ∈ seeN T s i, x ∈ R
  | 0 => fun x hx => by rw [List.mem_singleton.mp hx]; exact h
  | i + 1 => seeR_in (seeN_in h g i) g
theorem seeN_le {T : List Tie} {s : Int} {i : Nat} {x : Int} (h : x ∈ seeN T s i) : ∀ d, x ∈ seeN T s (i + d)
  | 0 => h
  | d + 1 => seeR_sub (seeN_le h d)
def roundB (T : List Tie) : Bool := (keysM T).all (fun k => decide (dg T k = 2)) && decide ((seeN T (tieN T 0).one T.length).length = (keysM T).length)
/-! a ring meets each place twice -/
theorem dg_sum (x : Int) : ∀ T : List Tie, dg T x = (T.map fun t => d1 t x).sum
  | [] => rfl
  | t :: T => by
    show d1 t x + dg T x = _
    rw [dg_sum x T, List.map_cons, List.sum_cons]
theorem dg_perm {T S : List Tie} (p : T.Perm S) (x : Int) : dg T x = dg S x := by
  induction p with
  | nil => rfl
  | cons t _ ih => show d1 t x + _ = d1 t x + _; rw [ih]
  | swap t u T => show d1 u x + (d1 t x + dg T x) = d1 t x + (d1 u x + dg T x); omega
  | trans _ _ a b => exact a.trans b
theorem foeN_perm {T S : List Tie} (p : T.Perm S) : foeN T = foeN S := (p.filter _).length_eq
theorem sum_rot (h : Nat → Nat) (m : Nat) : ((List.range (m + 1)).map fun k => h ((k + 1) % (m + 1))).sum = ((List.range (m + 1)).map h).sum := by
  have e1 : ((List.range m).map fun k => h ((k + 1) % (m + 1))) = (List.range m).map fun k => h (k + 1) := List.map_congr_left fun k hk => by
    rw [Nat.mod_eq_of_lt (by have := List.mem_range.mp hk; omega)]
  conv => lhs; rw [List.range_succ, List.map_append, List.sum_append, e1]
  conv => rhs; rw [List.range_succ_eq_map, List.map_cons, List.sum_cons, List.map_map]
  show _ + (h ((m + 1) % (m + 1)) + 0) = h 0 + ((List.range m).map (h ∘ Nat.succ)).sum
  rw [Nat.mod_self]
  show ((List.range m).map fun k => h (k + 1)).sum + (h 0 + 0) = h 0 + ((List.range m).map fun k => h (k + 1)).sum
  omega
theorem sum_two' {f g : Nat → Nat} : ∀ ks : List Nat, (ks.map fun k => f k + g k).sum = (ks.map f).sum + (ks.map g).sum
  | [] => rfl
  | k :: ks => by
    simp only [List.map_cons, List.sum_cons]
    rw [sum_two' ks]
    omega
theorem cnt0 {x : Int} : ∀ {ks : List Int}, x ∉ ks → (ks.map fun k => if k = x then 1 else 0).sum = 0
  | [], _ => rfl
  | k :: ks, h => by
    simp only [List.map_cons, List.sum_cons]
    rw [cnt0 (ks := ks) fun z => h (List.mem_cons_of_mem _ z), if_neg (show ¬ k = x from fun z => h (z ▸ List.mem_cons_self))]
theorem cnt1 {x : Int} : ∀ {ks : List Int}, ks.Nodup → x ∈ ks → (ks.map fun k => if k = x then 1 else 0).sum = 1
  | [], _, h => by cases h
  | k :: ks, nd, h => by
    simp only [List.map_cons, List.sum_cons]
    have nd' := List.nodup_cons.mp nd
    by_cases e : k = x
    · rw [cnt0 (e ▸ nd'.1), if_pos e]
    · rw [cnt1 nd'.2 ((List.mem_cons.mp h).resolve_left fun z => e z.symm), if_neg e]
theorem jn_d1 {t : Tie} {a b : Int} (j : Jn t a b) (x : Int) : d1 t x = (if a = x then 1 else 0) + if b = x then 1 else 0 := by
  unfold d1
  rcases j with ⟨rfl, rfl⟩ | ⟨rfl, rfl⟩
  · rfl
  · exact Nat.add_comm ..
def ringT (ts : List Tie) (ms : List Int) : List Tie := ms.map fun m => tieN ts m.toNat
theorem RingO.jn {ts : List Tie} {rs ms : List Int} (h : RingO ts rs ms) {k : Nat} (hk : k < ms.length) : Jn (tieN ts (ms.getD k 0).toNat) (rs.getD k 0) (rs.getD ((k + 1) % ms.length) 0) := by
  obtain ⟨x, y, m, t, h1, h2, h3, h4, j⟩ := h.each k hk
  rw [h.len] at h2
  rw [List.getD_eq_getElem?_getD, List.getD_eq_getElem?_getD, List.getD_eq_getElem?_getD, h1, h2, h3]
  show Jn (tieN ts m.toNat) x y
  rw [tieN_of h4]
  exact j
theorem range_getD {α : Type} (d : α) : ∀ xs : List α, (List.range xs.length).map (fun k => xs.getD k d) = xs := fun xs => by
  refine List.ext_getElem (by simp) fun k h1 h2 => ?_
  rw [List.getElem_map, List.getElem_range, List.getD_eq_getElem?_getD, List.getElem?_eq_getElem h2]
  rfl
theorem ring_dg {ts : List Tie} {rs ms : List Int} (h : RingO ts rs ms) {x : Int} (hx : x ∈ rs) : dg (ringT ts ms) x = 2 := by
  have l := h.len
  have two := h.two
  have e : (ringT ts ms).map (fun t => d1 t x) = (List.range ms.length).map fun k => (if rs.getD k 0 = x then 1 else 0) + if rs.getD ((k + 1) % ms.length) 0 = x then 1 else 0 := by
    conv => lhs; rw [ringT, ← range_getD 0 ms, List.map_map, List.map_map]
    exact List.map_congr_left fun k hk => jn_d1 (h.jn (List.mem_range.mp hk)) x
  have r : ((List.range ms.length).map fun k => if rs.getD k 0 = x then 1 else 0).sum = 1 := by
    have q := cnt1 h.rd hx
    rw [← range_getD 0 rs, List.map_map, l] at q
    exact q
  rw [dg_sum, e, sum_two', r]
  have s := sum_rot (fun k => if rs.getD k 0 = x then 1 else 0) (ms.length - 1)
  rw [show ms.length - 1 + 1 = ms.length by omega, r] at s
  show 1 + ((List.range ms.length).map fun k => if rs.getD ((k + 1) % ms.length) 0 = x then 1 else 0).sum = 2
  rw [s]
theorem ring_end {ts : List Tie} {rs ms : List Int} (h : RingO ts rs ms) : ∀ t ∈ ringT ts ms, t.one ∈ rs ∧ t.other ∈ rs := fun t ht => by
  have l := h.len
  have two := h.two
  unfold ringT at ht
  obtain ⟨m, hm, rfl⟩ := List.mem_map.mp ht
  obtain ⟨k, hk⟩ := List.getElem?_of_mem hm
  have kl := (List.getElem?_eq_some_iff.mp hk).1
  have j := h.jn kl
  rw [List.getD_eq_getElem?_getD (l := ms), hk] at j
  have m1 : ∀ i, i < ms.length → rs.getD i 0 ∈ rs := fun i hi => by
    rw [List.getD_eq_getElem?_getD, List.getElem?_eq_getElem (by omega)]
    exact List.getElem_mem _
  have a1 := m1 k kl
  have a2 := m1 ((k + 1) % ms.length) (Nat.mod_lt _ (by omega))
  rcases j with ⟨e1, e2⟩ | ⟨e1, e2⟩
  · exact ⟨e1 ▸ a1, e2 ▸ a2⟩
  · exact ⟨e1 ▸ a2, e2 ▸ a1⟩
theorem ring_round {ts : List Tie} {rs ms : List Int} (h : RingO ts rs ms) {T : List Tie} (p : T.Perm (ringT ts ms)) : roundB T = true := by
  have l := h.len
  have two := h.two
  have lT : T.length = ms.length := by rw [p.length_eq]; unfold ringT; rw [List.length_map]
  have hend : ∀ t ∈ T, t.one ∈ rs ∧ t.other ∈ rs := fun t ht => ring_end h t (p.mem_iff.mp ht)
  have hks : ∀ x ∈ keysM T, x ∈ rs := fun x hx => by
    obtain ⟨t, ht, e⟩ := mem_keysM.mp hx
    rcases e with rfl | rfl
    · exact (hend t ht).1
    · exact (hend t ht).2
  have inT : ∀ k, k < ms.length → tieN ts (ms.getD k 0).toNat ∈ T := fun k hk => p.mem_iff.mpr (by
    unfold ringT
    refine List.mem_map.mpr ⟨_, ?_, rfl⟩
    rw [List.getD_eq_getElem?_getD, List.getElem?_eq_getElem hk]
    exact List.getElem_mem _)
  have inr : ∀ x ∈ rs, ∃ k, k < ms.length ∧ rs.getD k 0 = x := fun x hx => by
    obtain ⟨k, hk⟩ := List.getElem?_of_mem hx
    have := (List.getElem?_eq_some_iff.mp hk).1
    exact ⟨k, by omega, by rw [List.getD_eq_getElem?_getD, hk]; rfl⟩
  have kr : (keysM T).length = rs.length := Nat.le_antisymm (sub_len (keysM_nd T) hks) (sub_len h.rd fun x hx => by
    obtain ⟨k, hk, rfl⟩ := inr x hx
    have := keysM_cov _ (inT k hk)
    rcases h.jn hk with ⟨e1, _⟩ | ⟨_, e2⟩
    · exact e1 ▸ this.1
    · exact e2 ▸ this.2)
  unfold roundB
  rw [Bool.and_eq_true]
  refine ⟨List.all_eq_true.mpr fun k hk => decide_eq_true ?_, decide_eq_true ?_⟩
  · rw [dg_perm p]
    exact ring_dg h (hks k hk)
  · have h0 : (tieN T 0).one ∈ rs := by
      have : T[0]? = some (tieN T 0) := by
        unfold tieN
        rw [List.getD_eq_getElem?_getD, List.getElem?_eq_getElem (show 0 < T.length by omega)]
        rfl
      exact (hend _ (List.mem_of_getElem? this)).1
    rw [kr]
    obtain ⟨j, hj, ej⟩ := inr _ h0
    have go : ∀ i, rs.getD ((j + i) % ms.length) 0 ∈ seeN T (tieN T 0).one i := fun i => by
      induction i with
      | zero =>
        rw [Nat.add_zero, Nat.mod_eq_of_lt hj, ej]
        exact List.mem_singleton.mpr rfl
      | succ i ih =>
        have hm : (j + i) % ms.length < ms.length := Nat.mod_lt _ (by omega)
        have := seeR_jn (inT _ hm) (h.jn hm) ih
        rw [Nat.mod_add_mod] at this
        exact this
    refine Nat.le_antisymm (sub_len (seeN_nd ..) (seeN_in h0 hend _)) (sub_len h.rd fun x hx => ?_)
    obtain ⟨q, hq, rfl⟩ := inr x hx
    have g := go ((q + ms.length - j) % ms.length)
    rw [Nat.add_mod_mod, show j + (q + ms.length - j) = q + ms.length by omega, Nat.add_mod_right, Nat.mod_eq_of_lt hq] at g
    have hl : (q + ms.length - j) % ms.length < ms.length := Nat.mod_lt _ (by omega)
    have := seeN_le g (T.length - (q + ms.length - j) % ms.length)
    rw [show (q + ms.length - j) % ms.length + (T.length - (q + ms.length - j) % ms.length) = T.length by omega] at this
    exact this
/-! the choices -/
def pickN (m ch : Nat) : List Nat := (List.range m).filter fun k => decide (ch / 2 ^ k % 2 = 1)
def pickT (ts : List Tie) (ch : Nat) : List Tie := (pickN ts.length ch).map (tieN ts)
def sizeOk (n : Nat) (T : List Tie) : Bool := decide (foeN T % 2 = 1) && ((decide (1 < T.length) && decide (T.length ≤ n)) && roundB T)
theorem bits (p : Nat → Bool) : ∀ n, ∃ ch, ch < 2 ^ n ∧ ∀ k, k < n → (ch / 2 ^ k % 2 = 1 ↔ p k = true)
  | 0 => ⟨0, by decide, fun k hk => by omega⟩
  | n + 1 => by
    obtain ⟨ch, hl, hc⟩ := bits p n
    have e2 : 2 ^ (n + 1) = 2 ^ n + 2 ^ n := by rw [Nat.pow_succ]; omega
    cases e : p n
    · refine ⟨ch, by omega, fun k hk => ?_⟩
      by_cases h : k < n
      · exact hc k h
      · obtain rfl : k = n := by omega
        rw [Nat.div_eq_of_lt hl, e]
        simp
    · refine ⟨ch + 2 ^ n, by omega, fun k hk => ?_⟩
      by_cases h : k < n
      · have : ch + 2 ^ n = ch + 2 ^ k * (2 * 2 ^ (n - k - 1)) := by
          rw [← Nat.pow_succ', ← Nat.pow_add, show k + (n - k - 1 + 1) = n by omega]
        rw [this, Nat.add_mul_div_left _ _ (Nat.two_pow_pos k), Nat.add_mul_mod_self_left]
        exact hc k h
      · obtain rfl : k = n := by omega
        rw [Nat.add_div_right _ (Nat.two_pow_pos k), Nat.div_eq_of_lt hl, e]
        simp
theorem ring_pick {ts : List Tie} {rs ms : List Int} (h : RingO ts rs ms) (few : ts.length ≤ 8) : ∃ ch, 1 ≤ ch ∧ ch < 256 ∧ (pickT ts ch).Perm (ringT ts ms) := by
  obtain ⟨ch, hl, hc⟩ := bits (fun k => decide ((k : Int) ∈ ms)) 8
  have two := h.two
  have mem : ∀ k, k ∈ pickN ts.length ch ↔ k ∈ ms.map Int.toNat := fun k => by
    unfold pickN
    rw [List.mem_filter, List.mem_range, decide_eq_true_iff, List.mem_map]
    constructor
    · rintro ⟨h1, h2⟩
      have := (hc k (by omega)).mp h2
      exact ⟨k, of_decide_eq_true this, by omega⟩
    · rintro ⟨m, hm, rfl⟩
      have := h.mp m hm
      refine ⟨by omega, (hc _ (by omega)).mpr (decide_eq_true ?_)⟩
      rw [show ((m.toNat : Nat) : Int) = m by omega]
      exact hm
  have nd1 : (pickN ts.length ch).Nodup := List.nodup_range.filter _
  have nd2 : (ms.map Int.toNat).Nodup := by
    rw [List.nodup_iff_pairwise_ne, List.pairwise_map]
    refine (List.nodup_iff_pairwise_ne.mp h.md).imp_of_mem fun {a b} ha hb ne e => ne ?_
    have := h.mp a ha
    have := h.mp b hb
    omega
  have p := (List.perm_ext_iff_of_nodup nd1 nd2).mpr mem
  refine ⟨ch, ?_, hl, ?_⟩
  · rcases Nat.eq_zero_or_pos ch with rfl | h
    · exfalso
      have : ∀ k, k ∉ ms.map Int.toNat := fun k hk => by
        have := (mem k).mpr hk
        unfold pickN at this
        rw [List.mem_filter, Nat.zero_div] at this
        simp at this
      cases hm : ms with
      | nil => rw [hm] at two; simp at two
      | cons m ms' => exact this m.toNat (by rw [hm]; simp)
    · exact h
  · have := p.map (tieN ts)
    rw [List.map_map] at this
    exact this
theorem foeS_N (ts : List Tie) : ∀ ms : List Int, foeS ts ms = (foeN (ringT ts ms) : Int)
  | [] => rfl
  | m :: ms => by
    show bI (tieN ts m.toNat).foe + foeS ts ms = _
    rw [foeS_N ts ms]
    unfold foeN ringT
    rw [List.map_cons, List.filter_cons]
    cases (tieN ts m.toNat).foe
    · show (0 : Int) + _ = _; simp
    · show (1 : Int) + _ = _; simp; omega
theorem ring_size {n : Nat} {ts : List Tie} {rs ms : List Int} (h : RingO ts rs ms) (few : ts.length ≤ 8) (hn : ms.length ≤ n) : ∃ ch, 1 ≤ ch ∧ ch < 256 ∧ sizeOk n (pickT ts ch) = true ∧ (pickT ts ch).length = ms.length := by
  obtain ⟨ch, c1, c2, p⟩ := ring_pick h few
  have l : (pickT ts ch).length = ms.length := by rw [p.length_eq]; unfold ringT; rw [List.length_map]
  have two := h.two
  have od := h.odd
  rw [foeS_N, ← foeN_perm p] at od
  refine ⟨ch, c1, c2, ?_, l⟩
  unfold sizeOk
  rw [ring_round h p, decide_eq_true (show foeN (pickT ts ch) % 2 = 1 by omega), decide_eq_true (show 1 < (pickT ts ch).length by omega), decide_eq_true (show (pickT ts ch).length ≤ n by omega)]
  rfl
theorem size_walk {n : Nat} {ts : List Tie} {ch : Nat} (h : sizeOk n (pickT ts ch) = true) : ∃ x L, L ≤ (pickT ts ch).length ∧ RPk ts x L x true := by
  unfold sizeOk at h
  rw [Bool.and_eq_true, Bool.and_eq_true] at h
  obtain ⟨h1, _, h2⟩ := h
  unfold roundB at h2
  rw [Bool.and_eq_true] at h2
  refine deg2_walk (ks := keysM (pickT ts ch)) (fun t ht => ?_) (keysM_nd _) keysM_cov (fun k hk => of_decide_eq_true (List.all_eq_true.mp h2.1 k hk)) (of_decide_eq_true h1)
  unfold pickT pickN at ht
  obtain ⟨k, hk, rfl⟩ := List.mem_map.mp ht
  have hl := List.mem_range.mp (List.mem_filter.mp hk).1
  unfold tieN
  rw [List.getD_eq_getElem?_getD, List.getElem?_eq_getElem hl]
  exact List.getElem_mem _
/-! ### k20: _law_is_round -/
def kvF (ks : List Int) (f : Int → Nat) : List (Key × V) := ks.map fun k => (Sum.inl k, V.int (f k : Nat))
theorem kvF_val {f : Int → Nat} {x : Int} : ∀ {ks : List Int}, valV (kvF ks f) (Sum.inl x) = if x ∈ ks then some (.int (f x : Nat)) else none
  | [] => rfl
  | k :: ks => by
    show valV ((Sum.inl k, V.int (f k : Nat)) :: kvF ks f) (Sum.inl x) = _
    by_cases e : k = x
    · rw [valV_pos (p := ((Sum.inl k : Key), V.int (f k : Nat))) (show (Sum.inl k : Key) = Sum.inl x by rw [e]), e, if_pos List.mem_cons_self]
    · rw [valV_neg (p := ((Sum.inl k : Key), V.int (f k : Nat))) (show ¬ (Sum.inl k : Key) = Sum.inl x from fun z => e (Sum.inl.inj z)), kvF_val (ks := ks)]
      by_cases h : x ∈ ks
      · rw [if_pos h, if_pos (List.mem_cons_of_mem _ h)]
      · rw [if_neg h, if_neg fun z => h ((List.mem_cons.mp z).resolve_left fun q => e q.symm)]
theorem kvF_get {f : Int → Nat} {ks : List Int} {x : Int} (h0 : x ∉ ks → f x = 0) : (valV (kvF ks f) (Sum.inl x)).getD (.int 0) = .int (f x : Nat) := by
  rw [kvF_val]
  by_cases h : x ∈ ks
  · rw [if_pos h]; rfl
  · rw [if_neg h, h0 h]; rfl
theorem kvF_put {f : Int → Nat} {ks : List Int} {x : Int} : putK (kvF ks f) (Sum.inl x) (.int ((f x : Nat) + 1)) = kvF (addk ks x) (fun k => f k + if x = k then 1 else 0) := by
  unfold putK
  rw [valV_any, kvF_val]
  unfold addk
  by_cases h : x ∈ ks
  · rw [if_pos h, if_pos h]
    show List.map (fun kv : Key × V => if kv.1 = Sum.inl x then (kv.1, V.int ((f x : Nat) + 1)) else kv) (kvF ks f) = _
    unfold kvF
    rw [List.map_map]
    refine List.map_congr_left fun k _ => ?_
    show (if (Sum.inl k : Key) = Sum.inl x then ((Sum.inl k : Key), V.int ((f x : Nat) + 1)) else (Sum.inl k, V.int (f k : Nat))) = _
    by_cases e : k = x
    · rw [e, if_pos rfl]
      show ((Sum.inl x : Key), V.int ((f x : Nat) + 1)) = (Sum.inl x, V.int ((f x + if x = x then 1 else 0 : Nat)))
      rw [if_pos rfl]; rfl
    · rw [if_neg fun z => e (Sum.inl.inj z)]
      show ((Sum.inl k : Key), V.int (f k : Nat)) = (Sum.inl k, V.int ((f k + if x = k then 1 else 0 : Nat)))
      rw [if_neg (show ¬ x = k from fun z => e z.symm)]; rfl
  · rw [if_neg h, if_neg h, if_neg (by simp)]
    unfold kvF
    rw [List.map_append]
    refine congr (congrArg _ (List.map_congr_left fun k hk => ?_)) ?_
    · show ((Sum.inl k : Key), V.int (f k : Nat)) = (Sum.inl k, V.int ((f k + if x = k then 1 else 0 : Nat)))
      rw [if_neg (show ¬ x = k from fun z => h (z ▸ hk))]; rfl
    · show [((Sum.inl x : Key), V.int ((f x : Nat) + 1))] = [(Sum.inl x, V.int ((f x + if x = x then 1 else 0 : Nat)))]
      rw [if_pos rfl]; rfl
theorem kvF_len (ks : List Int) (f : Int → Nat) : (kvF ks f).length = ks.length := List.length_map ..
theorem keyS_len (ks : List Int) (t : Tie) : (keyS ks t).length ≤ ks.length + 2 := by
  unfold keyS addk
  repeat' split
  all_goals simp
theorem keys_len : ∀ (T : List Tie) (ks : List Int), (T.foldl keyS ks).length ≤ ks.length + 2 * T.length
  | [], ks => by simp
  | t :: T, ks => by
    have := keys_len T (keyS ks t)
    have := keyS_len ks t
    rw [List.foldl_cons, List.length_cons]
    omega
theorem dg_no {x : Int} {T : List Tie} (h : x ∉ keysM T) : dg T x = 0 := by
  rw [dg_sum]
  have : ∀ t ∈ T, d1 t x = 0 := fun t ht => by
    have c := keysM_cov t ht
    unfold d1
    rw [if_neg (show ¬ t.one = x from fun z => h (z ▸ c.1)), if_neg (show ¬ t.other = x from fun z => h (z ▸ c.2))]
  clear h
  induction T with
  | nil => rfl
  | cons t T ih =>
    rw [List.map_cons, List.sum_cons, this t List.mem_cons_self, ih fun u hu => this u (List.mem_cons_of_mem _ hu)]
theorem keysM_snoc (T : List Tie) (t : Tie) : keysM (T ++ [t]) = keyS (keysM T) t := by
  unfold keysM
  rw [List.foldl_append]
  rfl
theorem seeR_len (s : List Int) (t : Tie) : (seeT s t).length ≤ s.length + 1 := by
  unfold seeT
  repeat' split
  all_goals simp
theorem in_intsR (z : Int) (ns : List Int) : inV (.int z) (ns.map V.int) = decide (z ∈ ns) := by
  rw [Bool.eq_iff_iff, decide_eq_true_iff]
  unfold inV
  rw [List.any_map, List.any_eq_true]
  constructor
  · rintro ⟨x, hx, e⟩
    have e' : (x == z) = true := e
    rw [beq_iff_eq] at e'
    rw [← e']
    exact hx
  · intro h
    exact ⟨z, h, by show (z == z) = true; simp⟩
theorem flat_intsR (xs : List Int) : (xs.map V.int).all flatV = true := by
  rw [List.all_map, List.all_eq_true]
  intro x _
  rfl
theorem seeN_len {T : List Tie} {s : Int} (i : Nat) : (seeN T s i).length ≤ 1 + 2 * T.length := by
  have := sub_len (seeN_nd T s i) (seeN_in (R := s :: keysM T) List.mem_cons_self (fun t ht => ⟨List.mem_cons_of_mem _ (keysM_cov t ht).1, List.mem_cons_of_mem _ (keysM_cov t ht).2⟩) i)
  have k := keys_len T []
  rw [List.length_cons] at this
  have e : keysM T = T.foldl keyS [] := rfl
  rw [e] at this
  simp at k
  omega
def spRound : Sp := fun vs H Q _ => ∃ (S : Addr) (us : List V) (T : List Tie), vs = [.ref S] ∧ H S = some (.lst us) ∧ Paired (TieV H) us T ∧ 0 < T.length ∧ T.length ≤ 8 ∧ ∀ H', Same H H' → Q (.bl (roundB T)) H'
section
variable {P : Program} {w : World} {K : PySem.W.Frag} {mg : Str → Option Value} {base : Heap}
set_option maxHeartbeats 2000000 in
theorem ok_l_is_round {f : Addr} {fd : FuncData} (F : Fun K "_law_is_round" "_law_is_round" s_l_is_round f fd) (M : Free mg) : FnOk P w K mg base CX0 1 f fd ["_law_some"] spRound := by
  refine F.ok sc_l_is_round (fun vs H Q E h => ?_) (fun cdv A outer s H vs Q E hr h => ?_)
  · obtain ⟨S, us, T, rfl, _⟩ := h
    rfl
  · obtain ⟨S, us, T, rfl, hS, hp, l0, l8, q⟩ := h
    have hu := room1 hr
    refine ⟨_, (pss_cons (ps_set (i := 1) sc_l_is_round.nd rfl (.inr rfl) pe_dnewK)
      (pss_cons (ps_for PassesOwn.never rfl (pi_list (pv 0)) (pg_tup rfl (pgs_cons (pg_name (i := 2) sc_l_is_round.nd rfl (.inl rfl)) (pgs_cons (pg_name (i := 3) sc_l_is_round.nd rfl (.inl rfl)) (pgs_cons (pg_name (i := 4) sc_l_is_round.nd rfl (.inl rfl)) pgs_nil))))
        (pss_cons (ps_dput hu (pv 1) (pv 2) (pe_op op_add (pe_dget2 hu (pv 1) (pv 2) pe_int ⟨rfl, rfl, rfl, rfl⟩) pe_int) rfl)
        (pss_one (ps_dput hu (pv 1) (pv 3) (pe_op op_add (pe_dget2 hu (pv 1) (pv 3) pe_int ⟨rfl, rfl, rfl, rfl⟩) pe_int) rfl))))
      (pss_cons (ps_if (pt_cmpR (op_neE hr.units0) (pe_lock (pe_lc (own := [("_law_place", 5)]) (g := (gName 5)) (te := tVar 5) rfl sc_l_is_round.nd (pi_keys (pv 1)) (blkOk_by (N := N_l_is_round) (sc := defScope s_l_is_round) (own := [("_law_place", 5)]) (by decide +kernel)) (fun _ _ _ _ _ => (pg_name (i := 5) sc_l_is_round.nd rfl (.inl rfl))) (fun _ _ _ _ _ => (pts_one (pt_cmpR op_ne (pe_dget hu (pv 1) (pv 5) (fun _ _ => rfl)) pe_int (nomark _)))) (fun _ _ _ _ _ => (pv 5)))) (pe_lst pa_nil) (nomark _))
        (pss_one (ps_ret pe_bl))
        pss_nil)
      (pss_cons (ps_set (i := 6) sc_l_is_round.nd rfl (.inl rfl) (pe_lst (pa_cons (pe_ix ix_tup (pe_ix ix_list (pv 0) pe_int (fun _ _ => rfl)) pe_int (fun _ _ => rfl)) pa_nil)))
      (pss_cons (ps_for PassesOwn.never rfl (pi_range1 (by rfl) M.range (pa_cons (pe_callB call_len_seq (by rfl) M.len PySem.boot_len (pa_cons (pv 0) pa_nil)) pa_nil)) (pg_name (i := 7) sc_l_is_round.nd rfl (.inl rfl))
        (pss_one (ps_for PassesOwn.never rfl (pi_list (pv 0)) (pg_tup rfl (pgs_cons (pg_name (i := 2) sc_l_is_round.nd rfl (.inl rfl)) (pgs_cons (pg_name (i := 3) sc_l_is_round.nd rfl (.inl rfl)) (pgs_cons (pg_name (i := 4) sc_l_is_round.nd rfl (.inl rfl)) pgs_nil))))
          (pss_one (ps_if (PW.pt (pw_and (pt_cmpR op_in_seq (pv 2) (pv 6) rfl) (pw_and1 (pt_cmpR op_notIn_seq (pv 3) (pv 6) rfl))))
            (pss_one (ps_expr (pe_bm PySem.F.plainAttrs_list PySem.F.slot_list_append PySem.F.type_list_append mt_append (pv 6) (pa_cons (pv 3) pa_nil))))
            (pss_one (ps_if (PW.pt (pw_and (pt_cmpR op_in_seq (pv 3) (pv 6) rfl) (pw_and1 (pt_cmpR op_notIn_seq (pv 2) (pv 6) rfl))))
              (pss_one (ps_expr (pe_bm PySem.F.plainAttrs_list PySem.F.slot_list_append PySem.F.type_list_append mt_append (pv 6) (pa_cons (pv 2) pa_nil))))
              pss_nil)))))))
      (pss_one (ps_ret (pe_cmpR op_eq (pe_callB call_len_seq (by rfl) M.len PySem.boot_len (pa_cons (pv 6) pa_nil)) (pe_callB call_lenD (by rfl) M.len PySem.boot_len (pa_cons (pv 1) pa_nil)) (nomark _))))))))), ?_⟩
    have hul : us.length = T.length := Paired.length hp
    refine fun D nD => ?_
    have hD0 : (upd H D (.dK [])) D = some (.dK (kvF (keysM (T.take 0)) (dg (T.take 0)))) := upd_same
    have s1 : Same H (upd H D (.dK [])) := same_new nD
    have pt : ∀ {H' : Hp}, Same H H' → Paired (TieV H') us T := fun {H'} s => Paired.mono (fun _ _ x => by obtain ⟨a, e, h⟩ := x; exact ⟨a, e, s _ _ h⟩) hp
    refine ⟨.ref S, rfl, S, rfl, ⟨us, SqL.of (s1 _ _ hS)⟩, ?_⟩
    refine for_list (xs := us) (fun i σ' H' => ∃ (y2 y3 y4 : Option V), σ' = [some (.ref S), some (.ref D), y2, y3, y4, none, none, none] ∧ H' D = some (.dK (kvF (keysM (T.take i)) (dg (T.take i)))) ∧ Same H H') ⟨_, _, _, rfl, hD0, s1⟩ (fun i σ' H' _ h => by
      obtain ⟨_, _, _, _, _, s⟩ := h
      exact SqL.of (s _ _ hS)) ?_ ?_
    · rintro i x σ' H1 ex ⟨y2, y3, y4, rfl, hD, s2⟩
      obtain ⟨t, et, c, rfl, hc⟩ := Paired.at hp ex
      have etk : T.take (i + 1) = T.take i ++ [t] := by rw [List.take_add_one, et]; rfl
      have lk := keys_len (T.take i) []
      have ltk : (T.take i).length ≤ 8 := by rw [List.length_take]; omega
      have lka : (keysM (T.take i)).length ≤ 16 := by
        show ((T.take i).foldl keyS []).length ≤ 16
        simp only [List.length_nil] at lk
        omega
      refine ⟨c, _, rfl, SqT.of (s2 _ _ hc), rfl, _, _, rfl, _, _, rfl, _, _, rfl, rfl, ?_⟩
      have small : ∀ {n : Nat}, n ≤ 20 → n < sizeLine := fun {n} h => by have : sizeLine = sizeLine := rfl; exact small1000 (by omega)
      have g1 : DGet H1 D (.int t.one) (valV (kvF (keysM (T.take i)) (dg (T.take i))) (Sum.inl t.one)) := DGet.k (k := Sum.inl t.one) hD
      refine ⟨.ref D, rfl, D, rfl, .inl ⟨_, .inl hD⟩, .int t.one, rfl, _, g1, ?_⟩
      rw [kvF_get fun z => dg_no z]
      refine ⟨_, _, rfl, rfl, .ref D, rfl, .int t.one, rfl, D, _, rfl, DPut.k (k := Sum.inl t.one) hD (small (by rw [kvF_len]; omega)), ?_⟩
      rw [kvF_put]
      have hD2 : (upd H1 D (.dK (kvF (addk (keysM (T.take i)) t.one) fun k => dg (T.take i) k + if t.one = k then 1 else 0))) D = some (.dK (kvF (addk (keysM (T.take i)) t.one) fun k => dg (T.take i) k + if t.one = k then 1 else 0)) := upd_same
      have s3 := Same.mut (o := .dK (kvF (addk (keysM (T.take i)) t.one) fun k => dg (T.take i) k + if t.one = k then 1 else 0)) s2 nD
      generalize upd H1 D (.dK (kvF (addk (keysM (T.take i)) t.one) fun k => dg (T.take i) k + if t.one = k then 1 else 0)) = H2 at hD2 s3
      have g2 : DGet H2 D (.int t.other) (valV (kvF (addk (keysM (T.take i)) t.one) fun k => dg (T.take i) k + if t.one = k then 1 else 0) (Sum.inl t.other)) := DGet.k (k := Sum.inl t.other) hD2
      refine ⟨.ref D, rfl, D, rfl, .inl ⟨_, .inl hD2⟩, .int t.other, rfl, _, g2, ?_⟩
      have no2 : t.other ∉ addk (keysM (T.take i)) t.one → (dg (T.take i) t.other + if t.one = t.other then 1 else 0) = 0 := fun z => by
        rw [mem_addk] at z
        rw [dg_no fun q => z (.inl q), if_neg fun q => z (.inr q.symm)]
      rw [kvF_get no2]
      have l2 : (addk (keysM (T.take i)) t.one).length ≤ 17 := by
        unfold addk
        split
        · omega
        · rw [List.length_append]; show _ + 1 ≤ 17; omega
      refine ⟨_, _, rfl, rfl, .ref D, rfl, .int t.other, rfl, D, _, rfl, DPut.k (k := Sum.inl t.other) hD2 (small (by rw [kvF_len]; omega)), ?_⟩
      rw [kvF_put (f := fun k => dg (T.take i) k + if t.one = k then 1 else 0)]
      refine ⟨_, _, _, rfl, ?_, Same.mut s3 nD⟩
      rw [etk, keysM_snoc]
      have ef : (dg (T.take i ++ [t])) = fun k => (dg (T.take i) k + if t.one = k then 1 else 0) + if t.other = k then 1 else 0 := funext fun k => by
        rw [dg_snoc]
        unfold d1
        omega
      rw [ef]
      exact upd_same
    · rintro σ' H1 ⟨y2, y3, y4, rfl, hD, s2⟩
      rw [hul, List.take_length] at hD
      have lk := keys_len T []
      have lka : (keysM T).length ≤ 16 := by
        show (T.foldl keyS []).length ≤ 16
        simp only [List.length_nil] at lk
        omega
      -- the places met other than twice
      refine ⟨D, _, hD, trivial, fun od => ?_⟩
      refine ⟨.ref D, rfl, D, od, rfl, .inl ⟨_, upd_same, fun Z nZ => ?_⟩⟩
      have hDf : (upd H1 D (.frz od (.dK (kvF (keysM T) (dg T))))) D = some (.frz od (.dK (kvF (keysM T) (dg T)))) := upd_same
      have hZD : Z ≠ D := fun z => by rw [z, hDf] at nZ; cases nZ
      have nZ1 : H1 Z = none := by rw [upd_ne hZD] at nZ; exact nZ
      have sZ : Same H (upd (upd H1 D (.frz od (.dK (kvF (keysM T) (dg T))))) Z (.lst [])) := (Same.mut s2 nD).trans (same_new nZ)
      have nZ0 : H Z = none := s2.free nZ1
      refine lc_it (walk_keys (kvs := kvF (keysM T) (dg T))) (fun i H' => H' Z = some (.lst ((((keysM T).take i).filter fun k => decide (¬ dg T k = 2)).map V.int)) ∧ H' D = some (.frz od (.dK (kvF (keysM T) (dg T)))) ∧ Same H H') ⟨upd_same, by rw [upd_ne hZD.symm]; exact hDf, sZ⟩ (fun i H' _ h => h.2.1) ?_ ?_
      · rintro i x H2 H3 hi ⟨hZ, hDz, s3⟩ ⟨rfl, k, v, ek, rfl⟩
        obtain ⟨k0, ek0, e⟩ : ∃ k0, (keysM T)[i]? = some k0 ∧ ((Sum.inl k0 : Key), V.int (dg T k0 : Nat)) = (k, v) := by
          unfold kvF at ek
          rw [List.getElem?_map] at ek
          exact Option.map_eq_some_iff.mp ek
        cases e
        have hmem := List.mem_of_getElem? ek0
        have et : (((keysM T).take (i + 1)).filter fun k => decide (¬ dg T k = 2)) = (((keysM T).take i).filter fun k => decide (¬ dg T k = 2)) ++ if dg T k0 = 2 then [] else [k0] := by
          rw [List.take_add_one, ek0, List.filter_append]
          congr 1
          by_cases e2 : dg T k0 = 2
          · rw [if_pos e2]; simp [e2]
          · rw [if_neg e2]; simp [e2]
        refine ⟨rfl, .ref D, rfl, .int k0, rfl, D, .int (dg T k0 : Nat), rfl, .inl ⟨_, Sum.inl k0, .inr ⟨od, hDz⟩, rfl, (by rw [kvF_val, if_pos hmem])⟩, rfl, _, rfl, ?_⟩
        rw [dec_int]
        by_cases e2 : dg T k0 = 2
        · rw [decide_eq_true (show ((dg T k0 : Nat) : Int) = 2 by omega)]
          show _ ∧ _ ∧ _
          rw [et, if_pos e2, List.append_nil]
          exact ⟨hZ, hDz, s3⟩
        · rw [decide_eq_false (show ¬ ((dg T k0 : Nat) : Int) = 2 by omega)]
          refine ⟨.int k0, rfl, _, hZ, ?_, ?_⟩
          · have a1 := List.length_filter_le (fun k => decide (¬ dg T k = 2)) ((keysM T).take i)
            have a2 := List.length_take_le' i (keysM T)
            rw [List.length_map]
            exact small1000 (by omega)
          · rw [et, if_neg e2, List.map_append]
            exact ⟨upd_same, by rw [upd_ne hZD.symm]; exact hDz, Same.mut s3 nZ0⟩
      · rintro H2 ⟨hZ, hDz, s3⟩
        refine ⟨hDz, ?_⟩
        rw [kvF_len, List.take_length] at hZ
        have s4 : Same H (upd H2 D (.dK (kvF (keysM T) (dg T)))) := Same.mut s3 nD
        have hD4 : (upd H2 D (.dK (kvF (keysM T) (dg T)))) D = some (.dK (kvF (keysM T) (dg T))) := upd_same
        have hZ4 : (upd H2 D (.dK (kvF (keysM T) (dg T)))) Z = some (.lst (((keysM T).filter fun k => decide (¬ dg T k = 2)).map V.int)) := by rw [upd_ne hZD]; exact hZ
        generalize upd H2 D (.dK (kvF (keysM T) (dg T))) = H3 at s4 hD4 hZ4
        refine ⟨Nat.zero_le _, fun E nE => ⟨Z, E, _, rfl, rfl, SqL.of (same_new nE _ _ hZ4), SqL.of upd_same, ?_⟩⟩
        have sE := same_new (o := .lst []) nE
        have s5 := s4.trans sE
        have hD5 := sE _ _ hD4
        generalize upd H3 E (.lst []) = H5 at s5 hD5
        by_cases al : (keysM T).all (fun k => decide (dg T k = 2)) = true
        · have fe : ((keysM T).filter fun k => decide (¬ dg T k = 2)) = [] := by
            rw [List.filter_eq_nil_iff]
            intro k hk
            have := List.all_eq_true.mp al k hk
            have := of_decide_eq_true this
            simp [this]
          rw [fe]
          refine ⟨_, rfl, ?_⟩
          have rb : roundB T = decide ((seeN T (tieN T 0).one T.length).length = (keysM T).length) := by
            unfold roundB
            rw [al, Bool.true_and]
          -- where it begins
          obtain ⟨t0, et0⟩ : ∃ t0, T[0]? = some t0 := ⟨_, List.getElem?_eq_getElem l0⟩
          obtain ⟨u0, eu0, c0, rfl, hc0⟩ := Paired.at' hp et0
          have e0 : tieN T 0 = t0 := tieN_of et0
          rw [e0] at rb
          refine ⟨.ref S, rfl, S, _, 0, .ref c0, rfl, rfl, SqL.of (s5 _ _ hS), atI_nat eu0, c0, _, 0, .int t0.one, rfl, rfl, SqT.of (s5 _ _ hc0), rfl, by show 1 ≤ sizeLine; decide, fun L nL => ?_⟩
          have sL := same_new (o := .lst [V.int t0.one]) nL
          have nL0 : H L = none := s5.free nL
          have hLD : L ≠ D := (ne_of_none hD5 nL).symm
          have hD6 := sL _ _ hD5
          have hL6 : (upd H5 L (.lst [V.int t0.one])) L = some (.lst ((seeN T t0.one 0).map V.int)) := upd_same
          have s6 := s5.trans sL
          generalize upd H5 L (.lst [V.int t0.one]) = H6 at hD6 hL6 s6
          refine ⟨.ref S, rfl, S, us, rfl, .inl (SqL.of (s6 _ _ hS)), us.length, rfl, by omega, by omega, ?_⟩
          rw [Int.toNat_natCast]
          refine for_range (lo := 0) (n := us.length) (fun i σ' H' => ∃ (y2 y3 y4 y7 : Option V), σ' = [some (.ref S), some (.ref D), y2, y3, y4, none, some (.ref L), y7] ∧ H' L = some (.lst ((seeN T t0.one i).map V.int)) ∧ H' D = some (.dK (kvF (keysM T) (dg T))) ∧ Same H H') ⟨_, _, _, _, rfl, hL6, hD6, s6⟩ ?_ ?_
          · rintro i σ' H7 hi ⟨y2, y3, y4, y7, rfl, hL7, hD7, s7⟩
            refine ⟨.ref S, rfl, S, rfl, ⟨us, SqL.of (s7 _ _ hS)⟩, ?_⟩
            refine for_list (xs := us) (fun j σ' H' => ∃ (y2 y3 y4 : Option V), σ' = [some (.ref S), some (.ref D), y2, y3, y4, none, some (.ref L), some (.int (0 + (i : Nat)))] ∧ H' L = some (.lst (((T.take j).foldl seeT (seeN T t0.one i)).map V.int)) ∧ H' D = some (.dK (kvF (keysM T) (dg T))) ∧ Same H H') ⟨_, _, _, rfl, hL7, hD7, s7⟩ (fun i σ' H' _ h => by
              obtain ⟨_, _, _, _, _, _, s⟩ := h
              exact SqL.of (s _ _ hS)) ?_ ?_
            · rintro j x σ' H8 ex ⟨y2, y3, y4, rfl, hL8, hD8, s8⟩
              obtain ⟨t, et, c, rfl, hc⟩ := Paired.at hp ex
              have etk : (T.take (j + 1)).foldl seeT (seeN T t0.one i) = seeT ((T.take j).foldl seeT (seeN T t0.one i)) t := by
                rw [List.take_add_one, et, List.foldl_append]; rfl
              have lq : ((T.take j).foldl seeT (seeN T t0.one i)).length ≤ 17 := by
                have a := sub_len (seeR_nd (T := T.take j) (seeN_nd T t0.one i)) (seeR_in (R := t0.one :: keysM T) (seeN_in List.mem_cons_self (fun t ht => ⟨List.mem_cons_of_mem _ (keysM_cov t ht).1, List.mem_cons_of_mem _ (keysM_cov t ht).2⟩) i) (fun t ht => ⟨List.mem_cons_of_mem _ (keysM_cov t (List.mem_of_mem_take ht)).1, List.mem_cons_of_mem _ (keysM_cov t (List.mem_of_mem_take ht)).2⟩))
                rw [List.length_cons] at a
                omega
              refine ⟨c, _, rfl, SqT.of (s8 _ _ hc), rfl, _, _, rfl, _, _, rfl, _, _, rfl, rfl, ?_⟩
              refine ⟨.int t.one, rfl, .ref L, rfl, L, _, rfl, .inl (SqL.of hL8), rfl, flat_intsR _, _, rfl, ?_⟩
              rw [in_intsR]
              generalize ez : (T.take j).foldl seeT (seeN T t0.one i) = z at etk lq hL8
              have fin : ∀ (b : Int), b ∉ z → seeT z t = z ++ [b] → ∃ (y2 y3 y4 : Option V), [some (V.ref S), some (V.ref D), some (V.int t.one), some (V.int t.other), some (V.str (kindS t.foe)), none, some (V.ref L), some (V.int (0 + (i : Nat)))] = [some (.ref S), some (.ref D), y2, y3, y4, none, some (.ref L), some (.int (0 + (i : Nat)))] ∧ (upd H8 L (.lst (z.map V.int ++ [.int b]))) L = some (.lst (((T.take (j + 1)).foldl seeT (seeN T t0.one i)).map V.int)) ∧ (upd H8 L (.lst (z.map V.int ++ [.int b]))) D = some (.dK (kvF (keysM T) (dg T))) ∧ Same H (upd H8 L (.lst (z.map V.int ++ [.int b]))) := fun b hb e =>
                ⟨_, _, _, rfl, by rw [etk, e, List.map_append]; exact upd_same, by rw [upd_ne hLD.symm]; exact hD8, Same.mut s8 nL0⟩
              have keep : seeT z t = z → ∃ (y2 y3 y4 : Option V), [some (V.ref S), some (V.ref D), some (V.int t.one), some (V.int t.other), some (V.str (kindS t.foe)), none, some (V.ref L), some (V.int (0 + (i : Nat)))] = [some (.ref S), some (.ref D), y2, y3, y4, none, some (.ref L), some (.int (0 + (i : Nat)))] ∧ H8 L = some (.lst (((T.take (j + 1)).foldl seeT (seeN T t0.one i)).map V.int)) ∧ H8 D = some (.dK (kvF (keysM T) (dg T))) ∧ Same H H8 := fun e => ⟨_, _, _, rfl, by rw [etk, e]; exact hL8, hD8, s8⟩
              have sm : (z.map V.int).length < sizeLine := by rw [List.length_map]; exact small1000 (by omega)
              by_cases h1 : t.one ∈ z <;> by_cases h2 : t.other ∈ z
              · have e : seeT z t = z := by unfold seeT; rw [if_neg fun q => q.2 h2, if_neg fun q => q.2 h1]
                rw [decide_eq_true h1]
                refine ⟨.int t.other, rfl, .ref L, rfl, L, _, rfl, .inl (SqL.of hL8), rfl, flat_intsR _, _, rfl, ?_⟩
                rw [in_intsR, decide_eq_true h2]
                refine ⟨.int t.other, rfl, .ref L, rfl, L, _, rfl, .inl (SqL.of hL8), rfl, flat_intsR _, _, rfl, ?_⟩
                rw [in_intsR, decide_eq_true h2]
                refine ⟨.int t.one, rfl, .ref L, rfl, L, _, rfl, .inl (SqL.of hL8), rfl, flat_intsR _, _, rfl, ?_⟩
                rw [in_intsR, decide_eq_true h1]
                exact keep e
              · have e : seeT z t = z ++ [t.other] := by unfold seeT; rw [if_pos ⟨h1, h2⟩]
                rw [decide_eq_true h1]
                refine ⟨.int t.other, rfl, .ref L, rfl, L, _, rfl, .inl (SqL.of hL8), rfl, flat_intsR _, _, rfl, ?_⟩
                rw [in_intsR, decide_eq_false h2]
                exact ⟨.ref L, rfl, .inl ⟨rfl, _, SqL.of hL8⟩, .int t.other, rfl, L, _, _, rfl, rfl, hL8, sm, fin _ h2 e⟩
              · have e : seeT z t = z ++ [t.one] := by unfold seeT; rw [if_neg fun q => h1 q.1, if_pos ⟨h2, h1⟩]
                rw [decide_eq_false h1]
                refine ⟨.int t.other, rfl, .ref L, rfl, L, _, rfl, .inl (SqL.of hL8), rfl, flat_intsR _, _, rfl, ?_⟩
                rw [in_intsR, decide_eq_true h2]
                refine ⟨.int t.one, rfl, .ref L, rfl, L, _, rfl, .inl (SqL.of hL8), rfl, flat_intsR _, _, rfl, ?_⟩
                rw [in_intsR, decide_eq_false h1]
                exact ⟨.ref L, rfl, .inl ⟨rfl, _, SqL.of hL8⟩, .int t.one, rfl, L, _, _, rfl, rfl, hL8, sm, fin _ h1 e⟩
              · have e : seeT z t = z := by unfold seeT; rw [if_neg fun q => h1 q.1, if_neg fun q => h2 q.1]
                rw [decide_eq_false h1]
                refine ⟨.int t.other, rfl, .ref L, rfl, L, _, rfl, .inl (SqL.of hL8), rfl, flat_intsR _, _, rfl, ?_⟩
                rw [in_intsR, decide_eq_false h2]
                exact keep e
            · rintro σ' H8 ⟨y2, y3, y4, rfl, hL8, hD8, s8⟩
              rw [hul, List.take_length] at hL8
              exact ⟨_, _, _, _, rfl, hL8, hD8, s8⟩
          · rintro σ' H7 ⟨y2, y3, y4, y7, rfl, hL7, hD7, s7⟩
            refine ⟨.ref L, rfl, L, _, rfl, .inl (SqL.of hL7), .ref D, rfl, D, _, rfl, hD7, rfl, ?_⟩
            rw [dec_int, hul, List.length_map, kvF_len]
            have := q _ s7
            rw [rb] at this
            rw [show decide (((seeN T t0.one T.length).length : Int) = ((keysM T).length : Int)) = decide ((seeN T t0.one T.length).length = (keysM T).length) from by rw [decide_eq_decide]; omega]
            exact this
        · have fe : ∃ k ks, ((keysM T).filter fun k => decide (¬ dg T k = 2)) = k :: ks := by
            cases e : ((keysM T).filter fun k => decide (¬ dg T k = 2)) with
            | cons k ks => exact ⟨k, ks, rfl⟩
            | nil =>
              exfalso
              refine al (List.all_eq_true.mpr fun k hk => ?_)
              have := List.filter_eq_nil_iff.mp e k hk
              simpa using this
          obtain ⟨k, ks, fe⟩ := fe
          rw [fe]
          have := q _ s5
          unfold roundB at this
          rw [Bool.eq_false_iff.mpr al, Bool.false_and] at this
          exact ⟨_, rfl, this⟩
end
/-! ### k20: _law_odd_sizes -/
def sizesN (n : Nat) (ts : List Tie) (m : Nat) : List Nat := (List.range m).filterMap fun j => if sizeOk n (pickT ts (j + 1)) = true then some (pickT ts (j + 1)).length else none
theorem sizesN_succ (n : Nat) (ts : List Tie) (m : Nat) : sizesN n ts (m + 1) = sizesN n ts m ++ if sizeOk n (pickT ts (m + 1)) = true then [(pickT ts (m + 1)).length] else [] := by
  unfold sizesN
  rw [List.range_succ, List.filterMap_append]
  by_cases h : sizeOk n (pickT ts (m + 1)) = true
  · simp [h]
  · simp [h]
theorem sizesN_len (n : Nat) (ts : List Tie) (m : Nat) : (sizesN n ts m).length ≤ m := by
  have := List.length_filterMap_le (fun j => if sizeOk n (pickT ts (j + 1)) = true then some (pickT ts (j + 1)).length else none) (List.range m)
  rw [List.length_range] at this
  exact this
def szI (n : Nat) (ts : List Tie) (m : Nat) : List V := (sizesN n ts m).map fun k : Nat => V.int (k : Int)
theorem pickT_len (ts : List Tie) (ch : Nat) : (pickT ts ch).length ≤ ts.length := by
  unfold pickT pickN
  have := List.length_filter_le (fun k => decide (ch / 2 ^ k % 2 = 1)) (List.range ts.length)
  rw [List.length_range] at this
  rw [List.length_map]
  exact this
def pickM (ts : List Tie) (ch m : Nat) : List Tie := (pickN m ch).map (tieN ts)
theorem pickM_succ (ts : List Tie) (ch m : Nat) : pickM ts ch (m + 1) = pickM ts ch m ++ if ch / 2 ^ m % 2 = 1 then [tieN ts m] else [] := by
  unfold pickM pickN
  rw [List.range_succ, List.filter_append, List.map_append]
  by_cases h : ch / 2 ^ m % 2 = 1
  · rw [if_pos h]; simp [h]
  · rw [if_neg h]; simp [h]
theorem pickM_len (ts : List Tie) (ch m : Nat) : (pickM ts ch m).length ≤ m := by
  unfold pickM pickN
  have := List.length_filter_le (fun k => decide (ch / 2 ^ k % 2 = 1)) (List.range m)
  rw [List.length_range] at this
  rw [List.length_map]
  exact this
theorem Paired.app' {α β : Type} {R : α → β → Prop} : ∀ {xs : List α} {ys : List β} {xs' : List α} {ys' : List β}, Paired R xs ys → Paired R xs' ys' → Paired R (xs ++ xs') (ys ++ ys')
  | _, _, _, _, .nil, h => h
  | _, _, _, _, .cons a b, h => .cons a (Paired.app' b h)
def spSizes : Sp := fun vs H Q _ => ∃ (wv : V) (n : Nat) (ts : List Tie), vs = [wv] ∧ WebAt H wv n ts ∧ WebOk n ts ∧ ts.length ≤ 8 ∧ ∀ L H', Same H H' → H L = none → H' L = some (.lst (szI n ts 255)) → Q (.ref L) H'
section
variable {P : Program} {w : World} {K : PySem.W.Frag} {mg : Str → Option Value} {base : Heap}
set_option maxHeartbeats 2000000 in
theorem ok_l_odd_sizes {f : Addr} {fd : FuncData} (F : Fun K "_law_odd_sizes" "_law_odd_sizes" s_l_odd_sizes f fd) (M : Free mg) (D_l_is_round : Df P w K mg base 1 "_law_is_round" ["_law_some"] spRound) : FnOk P w K mg base CX0 2 f fd ["_law_web_here"] spSizes := by
  obtain ⟨f_l_is_round, fd_l_is_round, G_l_is_round, g_l_is_round, k_l_is_round, b_l_is_round⟩ := D_l_is_round
  refine F.ok sc_l_odd_sizes (fun vs H Q E h => ?_) (fun cdv A outer s H vs Q E hr h => ?_)
  · obtain ⟨wv, n, ts, rfl, _⟩ := h
    rfl
  · obtain ⟨wv, n, ts, rfl, hW, ok, l8, q⟩ := h
    refine ⟨_, (pss_cons (ps_set (i := 1) sc_l_odd_sizes.nd rfl (.inr rfl) (pe_ix ix_tup (pv 0) pe_int (fun _ _ => rfl)))
      (pss_cons (ps_set (i := 2) sc_l_odd_sizes.nd rfl (.inl rfl) (pe_lst pa_nil))
      (pss_cons (ps_for PassesOwn.never rfl (pi_range2 (by rfl) M.range (pa_cons pe_int (pa_cons (pe_op op_pow pe_int pe_int) pa_nil))) (pg_name (i := 3) sc_l_odd_sizes.nd rfl (.inr rfl))
        (pss_cons (ps_setLc (i := 4) (own := [("_law_k", 5)]) (g := (gName 5)) rfl sc_l_odd_sizes.nd rfl rfl (sw_true rfl rfl rfl (by decide +kernel)) (pi_range1 (by rfl) M.range (pa_cons (pe_callB call_len_seq (by rfl) M.len PySem.boot_len (pa_cons (pv 1) pa_nil)) pa_nil)) (blkOk_by (N := N_l_odd_sizes) (sc := defScope s_l_odd_sizes) (own := [("_law_k", 5)]) (by decide +kernel)) (fun _ _ _ _ _ => (pg_name (i := 5) sc_l_odd_sizes.nd rfl (.inl rfl))) (fun _ _ _ _ _ => (pts_one (pt_cmpR op_eq (pe_op op_mod (pe_op op_fdivW (pv 3) (pe_ix (r := rIxL K) ix_list (pe_lst (pa_cons pe_int (pa_cons pe_int (pa_cons pe_int (pa_cons pe_int (pa_cons pe_int (pa_cons pe_int (pa_cons pe_int (pa_cons pe_int pa_nil))))))))) (pv 5) (fun _ _ => rfl))) pe_int) pe_int (nomark _)))) (fun _ _ _ _ _ => (pe_ix (r := rIxT K) ix_tup (pv 1) (pv 5) (fun _ _ => rfl))))
        (pss_cons (ps_set (i := 6) sc_l_odd_sizes.nd rfl (.inl rfl) (pe_callB call_len_seq (by rfl) M.len PySem.boot_len (pa_cons (pe_lc (own := [("_law_tie", 7)]) (g := (gName 7)) (te := tVar 7) rfl sc_l_odd_sizes.nd (pi_list (pv 4)) (blkOk_by (N := N_l_odd_sizes) (sc := defScope s_l_odd_sizes) (own := [("_law_tie", 7)]) (by decide +kernel)) (fun _ _ _ _ _ => (pg_name (i := 7) sc_l_odd_sizes.nd rfl (.inl rfl))) (fun _ _ _ _ _ => (pts_one (pt_cmpR op_eq (pe_ix (r := rIxT K) ix_tup (pv 7) pe_int (fun _ _ => rfl)) pe_str (nomark _)))) (fun _ _ _ _ _ => (pv 7))) pa_nil)))
        (pss_one (ps_if (PW.pt (pw_and (pt_cmpR op_lt (pv 3) (pe_op op_pow pe_int pe_int) (nomark _)) (pw_and (pt_cmpR op_eq (pe_op op_mod (pv 6) pe_int) pe_int (nomark _)) (pw_and (pt_chain op_lt op_le pe_int (pe_callB call_len_seq (by rfl) M.len PySem.boot_len (pa_cons (pv 4) pa_nil)) (pe_ix ix_tup (pv 0) pe_int (fun _ _ => rfl))) (pw_and1 (pt_val (pe_call G_l_is_round (hr.mono (by decide)) (by rfl) g_l_is_round k_l_is_round b_l_is_round .nil pass0 (pa_cons (pv 4) pa_nil))))))))
          (pss_one (ps_expr (pe_bm PySem.F.plainAttrs_list PySem.F.slot_list_append PySem.F.type_list_append mt_append (pv 2) (pa_cons (pe_callB call_len_seq (by rfl) M.len PySem.boot_len (pa_cons (pv 4) pa_nil)) pa_nil))))
          pss_nil)))))
      (pss_one (ps_ret (pv 2)))))), ?_⟩
    obtain ⟨wa, wb, us, rfl, hwa, hwb, hp⟩ := id hW
    have n1 := ok.lo
    have n40 := ok.hi
    have hul : us.length = ts.length := Paired.length hp
    refine ⟨.ref wa, rfl, wa, _, 1, .ref wb, rfl, rfl, SqT.of hwa, rfl, Nat.zero_le _, fun L nL => ?_⟩
    have s1 : Same H (upd H L (.lst [])) := same_new nL
    have hL1 : (upd H L (.lst [])) L = some (.lst (szI n ts 0)) := upd_same
    generalize upd H L (.lst []) = H1 at s1 hL1
    have pw8 : ∀ k : Nat, k < 8 → atI [V.int 1, .int 2, .int 4, .int 8, .int 16, .int 32, .int 64, .int 128] (k : Nat) = some (.int ((2 ^ k : Nat) : Int)) := fun k hk =>
      match k, hk with
      | 0, _ => rfl | 1, _ => rfl | 2, _ => rfl | 3, _ => rfl | 4, _ => rfl | 5, _ => rfl | 6, _ => rfl | 7, _ => rfl
      | n + 8, h => by omega
    have lg8 : ∀ k : Nat, k < 8 → (((2 ^ k : Nat) : Int)).natAbs.log2 < 9000 := fun k hk =>
      match k, hk with
      | 0, _ => by decide | 1, _ => by decide | 2, _ => by decide | 3, _ => by decide | 4, _ => by decide | 5, _ => by decide | 6, _ => by decide | 7, _ => by decide
      | n + 8, h => by omega
    have ptv : ∀ {H' H'' : Hp} {vs : List V} {T : List Tie}, Same H' H'' → Paired (TieV H') vs T → Paired (TieV H'') vs T := fun {H' H'' vs T} s => Paired.mono (fun _ _ x => by obtain ⟨a, e, h⟩ := x; exact ⟨a, e, s _ _ h⟩)
    refine ⟨2, 8, rfl, rfl, ⟨by decide, by decide, by decide⟩, 1, (2 : Int) ^ (8 : Int).toNat, rfl, by decide, ?_⟩
    rw [show ((2 : Int) ^ (8 : Int).toNat - 1).toNat = 255 from by decide]
    refine for_range (lo := 1) (n := 255) (fun i σ' H' => ∃ (y3 y4 y6 : Option V), σ' = [some (.ref wa), some (.ref wb), some (.ref L), y3, y4, none, y6, none] ∧ H' L = some (.lst (szI n ts i)) ∧ Same H H') ⟨_, _, _, rfl, hL1, s1⟩ ?_ ?_
    · clear hL1 s1
      rintro i σ' H2 hi ⟨y3, y4, y6, rfl, hL2, s2⟩
      refine ⟨.ref wb, rfl, wb, us, rfl, .inr (SqT.of (s2 _ _ hwb)), us.length, rfl, by omega, by omega, fun S nS => ?_⟩
      rw [Int.toNat_natCast]
      have nS0 : H S = none := s2.free nS
      refine lc_range (lo := 0) (n := us.length) (fun k H' => ∃ vs : List V, H' S = some (.lst vs) ∧ Paired (TieV H') vs (pickM ts (i + 1) k) ∧ Same H2 H') ⟨[], upd_same, .nil, same_new nS⟩ ?_ ?_
      · rintro k H3 hk ⟨vs, hS3, hv3, s3⟩
        have k8 : k < 8 := by omega
        refine ⟨rfl, .int (1 + (i : Nat)), rfl, by show 8 ≤ sizeLine; decide, fun Z nZ => ?_⟩
        have sZ := same_new (o := .lst [V.int 1, .int 2, .int 4, .int 8, .int 16, .int 32, .int 64, .int 128]) nZ
        refine ⟨.int (0 + (k : Nat)), rfl, Z, _, (0 + (k : Nat)), .int ((2 ^ k : Nat) : Int), rfl, rfl, SqL.of upd_same, (by rw [Int.zero_add]; exact pw8 k k8), _, _, rfl, rfl, ⟨by have := Nat.two_pow_pos k; omega, lg8 k k8⟩, _, _, rfl, rfl, (by show (0 : Int) < 2; decide), rfl, _, rfl, ?_⟩
        have s4 := s3.trans sZ
        have hS4 := sZ _ _ hS3
        have hv4 := ptv sZ hv3
        generalize upd H3 Z (.lst [V.int 1, .int 2, .int 4, .int 8, .int 16, .int 32, .int 64, .int 128]) = H4 at s4 hS4 hv4
        rw [dec_int, show (1 + (i : Nat) : Int) / ((2 ^ k : Nat) : Int) % 2 = (((i + 1) / 2 ^ k % 2 : Nat) : Int) from by push_cast; rw [Int.add_comm]]
        obtain ⟨t, et⟩ : ∃ t, ts[k]? = some t := ⟨_, List.getElem?_eq_getElem (by omega)⟩
        obtain ⟨u, eu, c, rfl, hc⟩ := Paired.at' hp et
        have lv := Paired.length hv4
        have lm := pickM_len ts (i + 1) k
        by_cases e : (i + 1) / 2 ^ k % 2 = 1
        · rw [decide_eq_true (show (((i + 1) / 2 ^ k % 2 : Nat) : Int) = 1 by omega)]
          refine ⟨.ref wb, rfl, .int (0 + (k : Nat)), rfl, wb, us, (0 + (k : Nat)), .ref c, rfl, rfl, SqT.of (s4 _ _ (s2 _ _ hwb)), (by rw [Int.zero_add]; exact atI_nat eu), _, hS4, small1000 (by omega), _, upd_same, ?_, Same.mut s4 nS⟩
          rw [pickM_succ, if_pos e, tieN_of et]
          have sm : ∀ {v : V} {t : Tie}, TieV H4 v t → TieV (upd H4 S (.lst (vs ++ [.ref c]))) v t := fun {v t} x => by
            obtain ⟨a, e, h⟩ := x
            exact ⟨a, e, by rw [upd_ne (fun z => by rw [z, hS4] at h; cases h)]; exact h⟩
          exact Paired.app' (Paired.mono (fun _ _ x => sm x) hv4) (.cons (sm ⟨c, rfl, s4 _ _ (s2 _ _ hc)⟩) .nil)
        · rw [decide_eq_false (show ¬ (((i + 1) / 2 ^ k % 2 : Nat) : Int) = 1 by omega)]
          refine ⟨vs, hS4, ?_, s4⟩
          rw [pickM_succ, if_neg e, List.append_nil]
          exact hv4
      · rintro H3 ⟨vs, hS3, hv3, s3⟩
        rw [hul] at hv3
        have hv3 : Paired (TieV H3) vs (pickT ts (i + 1)) := hv3
        have lv := Paired.length hv3
        have lp := pickT_len ts (i + 1)
        have hL3 := s3 _ _ hL2
        have s23 := s2.trans s3
        generalize eT : pickT ts (i + 1) = T at hv3 lv lp
        -- how many foes
        refine ⟨.ref S, rfl, S, rfl, ⟨_, SqL.of hS3⟩, fun Z nZ => ?_⟩
        refine lc_list (xs := vs) (fun j H' => ∃ ws : List V, H' Z = some (.lst ws) ∧ ws.length = foeN (T.take j) ∧ Same H3 H') ⟨[], upd_same, rfl, same_new nZ⟩ (fun j H' _ h => by
          obtain ⟨_, _, _, s⟩ := h
          exact SqL.of (s _ _ hS3)) ?_ ?_
        · rintro j x H4 ex ⟨ws, hZ4, lw, s4⟩
          obtain ⟨t, et, c, rfl, hc⟩ := Paired.at hv3 ex
          have ef : foeN (T.take (j + 1)) = foeN (T.take j) + if t.foe = true then 1 else 0 := by
            unfold foeN
            rw [List.take_add_one, et, List.filter_append, List.length_append]
            congr 1
            cases e : t.foe <;> simp [e]
          have lf' : foeN (T.take j) ≤ 8 := by
            have a := List.length_filter_le (fun t : Tie => t.foe) (T.take j)
            have b := List.length_take_le' j T
            unfold foeN
            omega
          have ek : decide (V.str (kindS t.foe) = V.str "foe") = t.foe := by cases t.foe <;> decide +kernel
          refine ⟨rfl, .ref c, rfl, c, _, 2, .str (kindS t.foe), rfl, rfl, SqT.of (s4 _ _ hc), rfl, rfl, _, rfl, ?_⟩
          rw [ek]
          cases e : t.foe with
          | true =>
            rw [e, if_pos rfl] at ef
            exact ⟨.ref c, rfl, _, hZ4, small1000 (by omega), _, upd_same, by rw [List.length_append, lw, ef]; rfl, Same.mut s4 nZ⟩
          | false =>
            rw [e, if_neg (by decide)] at ef
            exact ⟨ws, hZ4, by rw [lw, ef]; rfl, s4⟩
        · rintro H4 ⟨ws, hZ4, lw, s4⟩
          rw [lv, List.take_length] at lw
          have s24 := s23.trans s4
          have hL4 := s4 _ _ hL3
          have hS4 := s4 _ _ hS3
          have hv4 := ptv s4 hv3
          have stop : sizeOk n T = false → ∀ {H' : Hp} {y6 : Option V}, H' L = some (.lst (szI n ts i)) → Same H H' → ∃ (y3 y4 y6' : Option V), [some (V.ref wa), some (V.ref wb), some (V.ref L), some (V.int (1 + (i : Nat))), some (V.ref S), none, y6, none] = [some (.ref wa), some (.ref wb), some (.ref L), y3, y4, none, y6', none] ∧ H' L = some (.lst (szI n ts (i + 1))) ∧ Same H H' := fun e {H' y6} h1 h2 => ⟨_, _, _, rfl, by
            unfold szI
            rw [sizesN_succ, eT, e, if_neg (by decide), List.append_nil]
            exact h1, h2⟩
          refine ⟨Z, ws, rfl, .inl (SqL.of hZ4), ?_⟩
          refine ⟨.int (1 + (i : Nat)), rfl, 2, 8, rfl, rfl, ⟨by decide, by decide, by decide⟩, _, _, rfl, rfl, _, rfl, ?_⟩
          rw [decide_eq_true (show (1 + (i : Nat) : Int) < (2 : Int) ^ (8 : Int).toNat from by show (1 + (i : Nat) : Int) < 256; omega)]
          refine ⟨.int ws.length, rfl, _, _, rfl, rfl, (by show (0 : Int) < 2; decide), rfl, _, rfl, ?_⟩
          rw [dec_int, lw, show ((foeN T : Nat) : Int) % 2 = ((foeN T % 2 : Nat) : Int) from by push_cast; rfl]
          by_cases e1 : foeN T % 2 = 1
          · rw [decide_eq_true (show ((foeN T % 2 : Nat) : Int) = 1 by omega)]
            refine ⟨.ref S, rfl, S, _, rfl, .inl (SqL.of hS4), _, _, rfl, rfl, _, rfl, ?_⟩
            rw [lv]
            by_cases e2 : 1 < T.length
            · rw [decide_eq_true (show (1 : Int) < (T.length : Int) by omega)]
              refine ⟨.ref wa, rfl, wa, _, 0, .int n, rfl, rfl, SqT.of (s24 _ _ hwa), rfl, _, _, rfl, rfl, _, rfl, ?_⟩
              by_cases e3 : T.length ≤ n
              · rw [decide_eq_true (show (T.length : Int) ≤ (n : Int) by omega)]
                refine ⟨.ref S, rfl, S, vs, T, rfl, hS4, hv4, by omega, by omega, fun H5 s5 => ?_⟩
                refine ⟨_, rfl, ?_⟩
                cases e4 : roundB T with
                | true =>
                  have so : sizeOk n T = true := by
                    unfold sizeOk
                    rw [decide_eq_true e1, decide_eq_true e2, decide_eq_true e3, e4]
                    rfl
                  have ll := sizesN_len n ts i
                  refine ⟨.ref L, rfl, .inl ⟨rfl, _, SqL.of (s5 _ _ hL4)⟩, .ref S, rfl, S, _, rfl, .inl (SqL.of (s5 _ _ hS4)), L, _, _, rfl, rfl, s5 _ _ hL4, (by unfold szI; rw [List.length_map]; exact small1000 (by omega)), ?_⟩
                  refine ⟨_, _, _, rfl, ?_, Same.mut (s24.trans s5) nL⟩
                  rw [upd_same]
                  unfold szI
                  rw [sizesN_succ, eT, so, if_pos rfl, List.map_append, lv]
                  rfl
                | false =>
                  exact stop (by unfold sizeOk; rw [e4]; simp) (s5 _ _ hL4) (s24.trans s5)
              · rw [decide_eq_false (show ¬ (T.length : Int) ≤ (n : Int) by omega)]
                exact stop (by unfold sizeOk; rw [decide_eq_false e3]; simp) hL4 s24
            · rw [decide_eq_false (show ¬ (1 : Int) < (T.length : Int) by omega)]
              exact ⟨_, rfl, stop (by unfold sizeOk; rw [decide_eq_false e2]; simp) hL4 s24⟩
          · rw [decide_eq_false (show ¬ ((foeN T % 2 : Nat) : Int) = 1 by omega)]
            exact stop (by unfold sizeOk; rw [decide_eq_false e1]; rfl) hL4 s24
    · rintro σ' H2 ⟨y3, y4, y6, rfl, hL2, s2⟩
      exact ⟨.ref L, rfl, q _ _ s2 nL hL2⟩
end
/-! ### k20: _law_web -/
theorem pickK (v : Int) (h0 : 0 ≤ v) (h1 : v < 2) : ∃ fo : Bool, atI [V.str "friend", V.str "foe"] v = some (.str (kindS fo)) := by
  have h01 : v = 0 ∨ v = 1 := by omega
  rcases h01 with e | e <;> subst e
  · exact ⟨false, rfl⟩
  · exact ⟨true, rfl⟩
def spWeb20 : Sp := fun vs H Q _ => ∃ (d : Addr) (b : Nat), vs = [.ref d] ∧ Well H d b ∧ b < 2 ^ 50 ∧
  ∀ v n ts H', WebAt H' v n ts → WebOk n ts → n ≤ 6 → ts.length ≤ 8 → Well H' d (b + 100) → Kp d d H H' → Q v H'
section
variable {P : Program} {w : World} {K : PySem.W.Frag} {mg : Str → Option Value} {base : Heap}
set_option maxHeartbeats 4000000 in
theorem ok_l_web {f : Addr} {fd : FuncData} (F : Fun K "_law_web" "_law_web" s_l_web f fd) (M : Free mg) (D_l_draw : Df P w K mg base 1 "_law_draw" ["_law_well_here", "_law_many"] spDraw) : FnOk P w K mg base CX0 2 f fd ["_law_well_here"] spWeb20 := by
  obtain ⟨f_l_draw, fd_l_draw, G_l_draw, g_l_draw, k_l_draw, b_l_draw⟩ := D_l_draw
  refine F.ok sc_l_web (fun vs H Q E h => ?_) (fun cdv A outer s H vs Q E hr h => ?_)
  · obtain ⟨d, b, rfl, _⟩ := h
    rfl
  · obtain ⟨d, b, rfl, hD, hB, q⟩ := h
    refine ⟨_, (Evl.pss_cut (ps_set (i := 1) sc_l_web.nd rfl (.inl rfl) (pe_op op_add pe_int (pe_call G_l_draw (hr.mono (by decide)) (by rfl) g_l_draw k_l_draw b_l_draw .nil pass0 (pa_cons (pv 0) (pa_cons pe_int pa_nil)))))
      (pss_cons (ps_set (i := 2) sc_l_web.nd rfl (.inl rfl) (pe_call G_l_draw (hr.mono (by decide)) (by rfl) g_l_draw k_l_draw b_l_draw .nil pass0 (pa_cons (pv 0) (pa_cons pe_int pa_nil))))
      (Evl.pss_cut (ps_setLc (i := 3) (own := [("_law_place", 4)]) (g := (gName 4)) (tt := tYes) rfl sc_l_web.nd rfl rfl (sw_true rfl rfl rfl (by decide +kernel)) (pi_range1 (by rfl) M.range (pa_cons (pv 1) pa_nil)) (blkOk_by (N := N_l_web) (sc := defScope s_l_web) (own := [("_law_place", 4)]) (by decide +kernel)) (fun _ _ _ _ _ => (pg_name (i := 4) sc_l_web.nd rfl (.inl rfl))) (fun _ _ _ _ _ => pts_nil) (fun _ _ _ _ _ => (pe_call G_l_draw (hr.mono (by decide)) (by rfl) g_l_draw k_l_draw b_l_draw .nil pass0 (pa_cons (pv 0) (pa_cons pe_int pa_nil)))))
      (pss_cons (ps_set (i := 5) sc_l_web.nd rfl (.inl rfl) (pe_lst pa_nil))
      (Evl.pss_cut (ps_for PassesOwn.never rfl (pi_range1 (by rfl) M.range (pa_cons (pe_op op_mul (pe_call G_l_draw (hr.mono (by decide)) (by rfl) g_l_draw k_l_draw b_l_draw .nil pass0 (pa_cons (pv 0) (pa_cons pe_int pa_nil))) (pe_callTy call_int1 (by rfl) M.int (by decide +kernel) (pa_cons (pe_cmpR op_gt (pv 1) pe_int (nomark _)) pa_nil))) pa_nil)) (pg_name (i := 6) sc_l_web.nd rfl (.inl rfl))
        (pss_cons (ps_set (i := 7) sc_l_web.nd rfl (.inl rfl) (pe_call G_l_draw (hr.mono (by decide)) (by rfl) g_l_draw k_l_draw b_l_draw .nil pass0 (pa_cons (pv 0) (pa_cons (pv 1) pa_nil))))
        (pss_cons (ps_set (i := 8) sc_l_web.nd rfl (.inl rfl) (pe_op op_mod (pe_op op_add (pe_op op_add (pv 7) pe_int) (pe_call G_l_draw (hr.mono (by decide)) (by rfl) g_l_draw k_l_draw b_l_draw .nil pass0 (pa_cons (pv 0) (pa_cons (pe_op op_sub (pv 1) pe_int) pa_nil)))) (pv 1)))
        (Evl.pss_cut (ps_if (PW.pt (pw_and (pt_cmpR (op_neE hr.units0) (pv 5) (pe_lst pa_nil) (nomark _)) (pw_and1 (pt_cmpR op_eq (pe_call G_l_draw (hr.mono (by decide)) (by rfl) g_l_draw k_l_draw b_l_draw .nil pass0 (pa_cons (pv 0) (pa_cons pe_int pa_nil))) pe_int (nomark _)))))
          (pss_one (ps_asg (pe_slice sl_tupU (pe_ix ix_list (pv 5) (pe_call G_l_draw (hr.mono (by decide)) (by rfl) g_l_draw k_l_draw b_l_draw .nil pass0 (pa_cons (pv 0) (pa_cons (pe_callB call_len_seq (by rfl) M.len PySem.boot_len (pa_cons (pv 5) pa_nil)) pa_nil))) (fun _ _ => rfl)) po_none (po_some pe_int)) (pg_tup rfl (pgs_cons (pg_name (i := 8) sc_l_web.nd rfl (.inl rfl)) (pgs_cons (pg_name (i := 7) sc_l_web.nd rfl (.inl rfl)) pgs_nil)))))
          pss_nil)
        (pss_cons (ps_set (i := 9) sc_l_web.nd rfl (.inl rfl) (pe_ix ix_list (pe_lst (pa_cons pe_str (pa_cons pe_str pa_nil))) (pe_callTy call_int1 (by rfl) M.int (by decide +kernel) (pa_cons (pe_cmpR op_ne (pe_ix ix_list (pv 3) (pv 7) (fun _ _ => rfl)) (pe_ix ix_list (pv 3) (pv 8) (fun _ _ => rfl)) (nomark _)) pa_nil)) (fun _ _ => rfl)))
        (Evl.pss_cut (ps_if (pt_cmpR op_lt (pv 2) pe_int (nomark _))
          (pss_one (ps_set (i := 9) sc_l_web.nd rfl (.inl rfl) (pe_ix ix_list (pe_lst (pa_cons pe_str (pa_cons pe_str pa_nil))) (pe_call G_l_draw (hr.mono (by decide)) (by rfl) g_l_draw k_l_draw b_l_draw .nil pass0 (pa_cons (pv 0) (pa_cons pe_int pa_nil))) (fun _ _ => rfl))))
          pss_nil)
        (pss_one (ps_expr (pe_bm PySem.F.plainAttrs_list PySem.F.slot_list_append PySem.F.type_list_append mt_append (pv 5) (pa_cons (pe_tup (pa_cons (pv 7) (pa_cons (pv 8) (pa_cons (pv 9) pa_nil)))) pa_nil))))))))))
      (Evl.pss_cut (ps_if (PW.pt (pw_and (pt_cmpR op_eq (pv 2) pe_int (nomark _)) (pw_and1 (pt_cmpR (op_neE hr.units0) (pv 5) (pe_lst pa_nil) (nomark _)))))
        (pss_cons (ps_set (i := 10) sc_l_web.nd rfl (.inl rfl) (pe_call G_l_draw (hr.mono (by decide)) (by rfl) g_l_draw k_l_draw b_l_draw .nil pass0 (pa_cons (pv 0) (pa_cons (pe_callB call_len_seq (by rfl) M.len PySem.boot_len (pa_cons (pv 5) pa_nil)) pa_nil))))
        (pss_cons (ps_asg (pe_ix ix_list (pv 5) (pv 10) (fun _ _ => rfl)) (pg_tup rfl (pgs_cons (pg_name (i := 7) sc_l_web.nd rfl (.inl rfl)) (pgs_cons (pg_name (i := 8) sc_l_web.nd rfl (.inl rfl)) (pgs_cons (pg_name (i := 9) sc_l_web.nd rfl (.inl rfl)) pgs_nil)))))
        (pss_one (ps_asg (pe_tup (pa_cons (pv 7) (pa_cons (pv 8) (pa_cons (pe_ix ix_list (pe_lst (pa_cons pe_str (pa_cons pe_str pa_nil))) (pe_callTy call_int1 (by rfl) M.int (by decide +kernel) (pa_cons (pe_cmpR op_eq (pv 9) pe_str (nomark _)) pa_nil)) (fun _ _ => rfl)) pa_nil)))) (pg_sub (pv 5) (pv 10) set_list)))))
        pss_nil)
      (pss_one (ps_ret (pe_tup (pa_cons (pv 1) (pa_cons (pe_callTy call_tuple_of (by rfl) M.tuple (by decide +kernel) (pa_cons (pv 5) pa_nil)) pa_nil))))))))))), ?_⟩
    refine ⟨fun σ' H' => ∃ n : Nat, σ' = [some (.ref d), some (.int n), none, none, none, none, none, none, none, none, none] ∧ 1 ≤ n ∧ n ≤ 6 ∧ Well H' d (b + 1) ∧ Kp d d H H', ?_, ?_⟩
    · refine ⟨.ref d, rfl, d, b, 6, rfl, hD, by omega, by decide, by decide, fun v H1 a1 b1 D1 K1 => ⟨1, v, rfl, rfl, (1 + v).toNat, ?_, by omega, by omega, D1, K1⟩⟩
      rw [show (((1 + v).toNat : Nat) : Int) = 1 + v from by omega]
      rfl
    rintro σ' H1 ⟨n, rfl, n1, n6, D1, K1⟩
    refine ⟨.ref d, rfl, d, _, 4, rfl, D1, by omega, by decide, by decide, fun wy H2 a2 b2 D2 K2 => ?_⟩
    have K12 := K1.trans K2
    -- sides
    refine ⟨fun σ' H' => ∃ (y4 : Option V) (S : Addr) (ys : List Int), σ' = [some (.ref d), some (.int n), some (.int wy), some (.ref S), y4, none, none, none, none, none, none] ∧ H' S = some (.lst (ys.map V.int)) ∧ S ≠ d ∧ ys.length = n ∧ Well H' d (b + 8) ∧ Kp d d H H' ∧ H S = none, ?_, ?_⟩
    · refine ⟨.int n, rfl, n, rfl, by omega, by omega, fun Z nZ => ?_⟩
      have zd := D2.ned nZ
      have nZ0 := K12.free nZ zd zd
      refine lc_range (lo := 0) (n := n) (fun j H' => ∃ ys : List Int, H' Z = some (.lst (ys.map V.int)) ∧ ys.length = j ∧ Well H' d (b + 2 + j) ∧ Kp d d H H') ⟨[], upd_same, rfl, D2.new nZ, K12.trans (Kp.new nZ)⟩ ?_ ?_
      · rintro j H3 hj ⟨ys, hZ, ly, D3, K3⟩
        refine ⟨rfl, .ref d, rfl, d, _, 2, rfl, D3, by omega, by decide, by decide, fun v H4 a4 b4 D4 K4 => ?_⟩
        exact ⟨_, K4 _ _ zd zd hZ, by rw [List.length_map]; exact small1000 (by omega), ys ++ [v], by rw [upd_same, List.map_append]; rfl, by simp [ly], (D4.mut zd).mono (by omega), (K3.trans K4).mut nZ0⟩
      · rintro H3 ⟨ys, hZ, ly, D3, K3⟩
        exact ⟨_, Z, ys, rfl, hZ, zd, ly, D3.mono (by omega), K3, nZ0⟩
    clear D1 K1 D2 K2 K12 H1 H2
    rintro σ' H1 ⟨y4, S, ys, rfl, hS, sd, ly, D1, K1, nS⟩
    refine ⟨Nat.zero_le _, fun L nL => ?_⟩
    have ld := D1.ned nL
    have nL0 := K1.free nL ld ld
    have lS : L ≠ S := (ne_of_none hS nL).symm
    have eL := same_new (o := .lst []) nL
    have hS2 := eL _ _ hS
    have hL2 := upd_same (H := H1) (a := L) (o := .lst [])
    have D2 := D1.same eL
    have K2 := K1.trans (Same.kp eL)
    generalize upd H1 L (.lst []) = H2 at hS2 hL2 D2 K2
    refine ⟨fun σ' H' => ∃ (y4 y6 y7 y8 y9 : Option V) (us : List V) (ts : List Tie), σ' = [some (.ref d), some (.int n), some (.int wy), some (.ref S), y4, some (.ref L), y6, y7, y8, y9, none] ∧ H' L = some (.lst us) ∧ Paired (TieV H') us ts ∧ (∀ t ∈ ts, TieOk n t) ∧ ts.length ≤ 8 ∧ Well H' d (b + 9 + 5 * 8) ∧ Kp d d H H', ?_, ?_⟩
    · refine ⟨.ref d, rfl, d, _, 9, rfl, D2, by omega, by decide, by decide, fun z H0 z0 z1 D0 K0 => ?_⟩
      have hS2 := K0 _ _ sd sd hS2
      have hL2 := K0 _ _ ld ld hL2
      have K2 := K2.trans K0
      have zN : z * (if decide ((1 : Int) < n) = true then 1 else 0) ≤ 8 ∧ 0 ≤ z * (if decide ((1 : Int) < n) = true then 1 else 0) ∧ (0 < z * (if decide ((1 : Int) < n) = true then 1 else 0) → 2 ≤ n) := by
        by_cases h : (1 : Int) < n
        · rw [decide_eq_true h, if_pos rfl, Int.mul_one]
          exact ⟨by omega, by omega, fun _ => by omega⟩
        · rw [decide_eq_false h, if_neg (by simp), Int.mul_zero]
          exact ⟨by omega, by omega, fun z => by omega⟩
      refine ⟨.int n, rfl, n, 1, rfl, rfl, .inr ⟨_, rfl, z, _, rfl, rfl, .inl ⟨by omega, by omega⟩, _, rfl, by omega, by omega, ?_⟩⟩
      generalize hN : z * (if decide ((1 : Int) < n) = true then 1 else 0) = N at zN
      clear D2
      refine for_range (lo := 0) (n := N.toNat) (fun i σ' H' => ∃ (y4 y6 y7 y8 y9 : Option V) (us : List V) (ts : List Tie), σ' = [some (.ref d), some (.int n), some (.int wy), some (.ref S), y4, some (.ref L), y6, y7, y8, y9, none] ∧ H' L = some (.lst us) ∧ H' S = some (.lst (ys.map V.int)) ∧ Paired (TieV H') us ts ∧ (∀ t ∈ ts, TieOk n t) ∧ ts.length = i ∧ Well H' d (b + 9 + 5 * i) ∧ Kp d d H H') ⟨_, none, none, none, none, [], [], rfl, hL2, hS2, .nil, fun t ht => (by cases ht), rfl, D0, K2⟩ ?_ ?_
      · clear hL2 hS2 D0 K2 K0
        rintro i σ' H3 hi ⟨y4, y6, y7, y8, y9, us, ts, rfl, hL, hS, hp, ok, lt, D3, K3⟩
        have n2 := zN.2.2 (by omega)
        have lu : us.length = ts.length := Paired.length hp
        -- one
        refine ⟨.ref d, rfl, .int n, rfl, d, _, n, rfl, D3, by omega, by omega, by omega, fun x0 H4 a4 b4 D4 K4 => ?_⟩
        refine ⟨.int x0, rfl, x0, 1, rfl, rfl, .ref d, rfl, .int n, rfl, n, 1, rfl, rfl, d, _, (n : Int) - 1, rfl, D4, by omega, by omega, by omega, fun v5 H5 a5 b5 D5 K5 => ?_⟩
        refine ⟨_, _, rfl, rfl, .int n, rfl, _, n, rfl, rfl, (by show (0 : Int) < n; omega), ?_⟩
        have ok0 : TieOk n ⟨x0, (x0 + 1 + v5) % n, false⟩ := ⟨a4, b4, (mod_rng (by omega)).1, (mod_rng (by omega)).2, other_ne a4 b4 a5 b5⟩
        have K35 := (K3.trans K4).trans K5
        have hL5 := K5 _ _ ld ld (K4 _ _ ld ld hL)
        have hS5 := K5 _ _ sd sd (K4 _ _ sd sd hS)
        have hp5 := ties_tk (K5.tk D4) (ties_tk (K4.tk D3) hp)
        clear hL hS hp K3 K4 K5 D4
        refine ⟨fun σ' H' => ∃ (x y : Int), σ' = [some (.ref d), some (.int n), some (.int wy), some (.ref S), y4, some (.ref L), some (.int (0 + (i : Nat))), some (.int x), some (.int y), y9, none] ∧ TieOk n ⟨x, y, false⟩ ∧ H' L = some (.lst us) ∧ H' S = some (.lst (ys.map V.int)) ∧ Paired (TieV H') us ts ∧ Well H' d (b + 9 + 5 * i + 4) ∧ Kp d d H H', ?_, ?_⟩
        · refine ⟨.ref L, rfl, Nat.zero_le _, fun Z nZ => ⟨L, Z, us, rfl, rfl, SqL.of (same_new nZ _ _ hL5), SqL.of upd_same, _, rfl, ?_⟩⟩
          have eZ := same_new (o := .lst []) nZ
          by_cases hu : us = []
          · subst hu
            exact ⟨_, _, rfl, ok0, eZ _ _ hL5, eZ _ _ hS5, ties_tk (Same.tk eZ) hp5, (D5.same eZ).mono (by omega), K35.trans (Same.kp eZ)⟩
          have hpos : 0 < us.length := List.length_pos_iff.mpr hu
          rw [show (!us.isEmpty) = true from by cases us; exact absurd rfl hu; rfl]
          refine ⟨.ref d, rfl, d, _, 4, rfl, D5.same eZ, by omega, by decide, by decide, fun v6 H6 a6 b6 D6 K6 => ⟨rfl, _, rfl, ?_⟩⟩
          have K36 := (K35.trans (Same.kp eZ)).trans K6
          have hL6 := K6 _ _ ld ld (eZ _ _ hL5)
          have hS6 := K6 _ _ sd sd (eZ _ _ hS5)
          have hp6 := ties_tk (K6.tk (D5.same eZ)) (ties_tk (Same.tk eZ) hp5)
          refine ite2 (fun _ => ?_) (fun _ => ⟨_, _, rfl, ok0, hL6, hS6, hp6, D6.mono (by omega), K36⟩)
          refine ⟨.ref L, rfl, .ref d, rfl, .ref L, rfl, L, us, rfl, .inl (SqL.of hL6), d, _, (us.length : Int), rfl, D6, by omega, by omega, by omega, fun v7 H7 a7 b7 D7 K7 => ?_⟩
          have hL7 := K7 _ _ ld ld hL6
          have hS7 := K7 _ _ sd sd hS6
          have hp7 := ties_tk (K7.tk D6) hp6
          obtain ⟨u, e1, e2⟩ := getI a7 b7
          obtain ⟨t, e3, c, rfl, hc⟩ := Paired.at hp7 e2
          have okt := ok t (List.mem_of_getElem? e3)
          refine ⟨L, us, v7, .ref c, rfl, rfl, SqL.of hL7, e1, 2, rfl, c, _, rfl, hc, fun r5 H8 s8 h8 => ?_⟩
          have h8 : H8 r5 = some (.tup [.int t.one, .int t.other]) := h8
          exact ⟨r5, _, rfl, SqT.of h8, rfl, _, _, rfl, _, _, rfl, rfl, _, _, rfl, ⟨okt.2.2.1, okt.2.2.2.1, okt.1, okt.2.1, Ne.symm okt.2.2.2.2⟩, s8 _ _ hL7, s8 _ _ hS7, ties_tk (Same.tk s8) hp7, (D7.same s8).mono (by omega), (K36.trans K7).trans (Same.kp s8)⟩
        clear hL5 hS5 hp5 D5 K35 ok0
        rintro σ' H4 ⟨x, y, rfl, okt, hL, hS, hp, D4, K4⟩
        -- the kind by the sides
        refine ⟨by show 2 ≤ sizeLine; decide, fun p np => ?_⟩
        have ep := same_new (o := .lst [.str "friend", .str "foe"]) np
        obtain ⟨sa, _, _, ea⟩ := atI_ints (xs := ys) okt.1 (by rw [ly]; exact okt.2.1)
        obtain ⟨sb, _, _, eb⟩ := atI_ints (xs := ys) okt.2.2.1 (by rw [ly]; exact okt.2.2.2.1)
        refine ⟨.ref S, rfl, .int x, rfl, S, _, x, _, rfl, rfl, SqL.of (ep _ _ hS), ea, .ref S, rfl, .int y, rfl, S, _, y, _, rfl, rfl, SqL.of (ep _ _ hS), eb, rfl, .inr ⟨_, rfl, p, _, _, _, rfl, rfl, SqL.of upd_same, pick2 _ _ _, ?_⟩⟩
        have hL4 := ep _ _ hL
        have hS4 := ep _ _ hS
        have hp4 := ties_tk (Same.tk ep) hp
        have D5 := D4.same ep
        have K5 := K4.trans (Same.kp ep)
        generalize upd H4 p (.lst [.str "friend", .str "foe"]) = H5 at hL4 hS4 hp4 D5 K5
        obtain ⟨bb, eb⟩ : ∃ bb : Bool, (if (!decide (V.int sa = V.int sb)) = true then V.str "foe" else V.str "friend") = V.str (kindS bb) := by
          generalize (!decide (V.int sa = V.int sb)) = c
          cases c
          · exact ⟨false, rfl⟩
          · exact ⟨true, rfl⟩
        rw [eb]
        clear ep np hL hS hp D4 K4
        refine ⟨fun σ' H' => ∃ (fo : Bool), σ' = [some (.ref d), some (.int n), some (.int wy), some (.ref S), y4, some (.ref L), some (.int (0 + (i : Nat))), some (.int x), some (.int y), some (.str (kindS fo)), none] ∧ H' L = some (.lst us) ∧ H' S = some (.lst (ys.map V.int)) ∧ Paired (TieV H') us ts ∧ Well H' d (b + 9 + 5 * i + 5) ∧ Kp d d H H', ?_, ?_⟩
        · refine ⟨.int wy, rfl, wy, 2, rfl, rfl, _, rfl, ?_⟩
          refine ite2 (fun _ => ?_) (fun _ => ⟨bb, rfl, hL4, hS4, hp4, D5.mono (by omega), K5⟩)
          refine ⟨by show 2 ≤ sizeLine; decide, fun p np => ?_⟩
          have ep := same_new (o := .lst [.str "friend", .str "foe"]) np
          have pd := D5.ned np
          refine ⟨.ref d, rfl, d, _, 2, rfl, D5.same ep, by omega, by decide, by decide, fun v H6 a6 b6 D6 K6 => ?_⟩
          obtain ⟨fo, ef⟩ := pickK v a6 b6
          refine ⟨p, _, v, _, rfl, rfl, SqL.of (K6 _ _ pd pd upd_same), ef, ?_⟩
          exact ⟨fo, rfl, K6 _ _ ld ld (ep _ _ hL4), K6 _ _ sd sd (ep _ _ hS4), ties_tk (K6.tk (D5.same ep)) (ties_tk (Same.tk ep) hp4), D6, (K5.trans (Same.kp ep)).trans K6⟩
        clear hL4 hS4 hp4 D5 K5 eb bb
        rintro σ' H4 ⟨fo, rfl, hL, hS, hp, D4, K4⟩
        refine ⟨.ref L, rfl, .inl ⟨rfl, _, SqL.of hL⟩, .int x, rfl, .int y, rfl, .str (kindS fo), rfl, by show 3 ≤ sizeLine; decide, fun c nc => ?_⟩
        have ec := same_new (o := .tup [.int x, .int y, .str (kindS fo)]) nc
        refine ⟨L, us, _, rfl, rfl, ec _ _ hL, small1000 (by omega), ?_⟩
        have tk := tk_lst (ys := us ++ [.ref c]) (ec _ _ hL)
        refine ⟨_, _, _, _, _, us ++ [.ref c], ts ++ [⟨x, y, fo⟩], rfl, upd_same, by rw [upd_ne (Ne.symm lS)]; exact ec _ _ hS, Paired.snoc (ties_tk ((Same.tk ec).trans tk) hp) ⟨c, rfl, tk _ _ upd_same⟩, fun t ht => ?_, by simp [lt], ((D4.same ec).mut ld).mono (by omega), (K4.trans (Same.kp ec)).mut nL0⟩
        rcases List.mem_append.mp ht with h | h
        · exact ok t h
        · rw [List.mem_singleton.mp h]
          exact okt
      · rintro σ' H3 ⟨y4, y6, y7, y8, y9, us, ts, rfl, hL, hS, hp, ok, lt, D3, K3⟩
        exact ⟨_, _, _, _, _, us, ts, rfl, hL, hp, ok, by omega, D3.mono (by omega), K3⟩
    clear hL2 hS2 D2 K2 hS D1 K1
    rintro σ' H3 ⟨y4, y6, y7, y8, y9, us, ts, rfl, hL, hp, ok, lt, D3, K3⟩
    have lu : us.length = ts.length := Paired.length hp
    refine ⟨fun σ' H' => ∃ (y4 y6 y7 y8 y9 y10 : Option V) (us : List V) (ts : List Tie), σ' = [some (.ref d), some (.int n), some (.int wy), some (.ref S), y4, some (.ref L), y6, y7, y8, y9, y10] ∧ H' L = some (.lst us) ∧ Paired (TieV H') us ts ∧ (∀ t ∈ ts, TieOk n t) ∧ ts.length ≤ 8 ∧ Well H' d (b + 100) ∧ Kp d d H H', ?_, ?_⟩
    · refine ⟨.int wy, rfl, rfl, _, rfl, ?_⟩
      refine ite2 (fun _ => ?_) (fun _ => ⟨_, _, _, _, _, _, us, ts, rfl, hL, hp, ok, lt, D3.mono (by omega), K3⟩)
      refine ⟨.ref L, rfl, Nat.zero_le _, fun Z nZ => ⟨L, Z, us, rfl, rfl, SqL.of (same_new nZ _ _ hL), SqL.of upd_same, _, rfl, ?_⟩⟩
      have eZ := same_new (o := .lst []) nZ
      have hL4 := eZ _ _ hL
      have hp4 := ties_tk (Same.tk eZ) hp
      have D4 := D3.same eZ
      have K4 := K3.trans (Same.kp eZ)
      generalize upd H3 Z (.lst []) = H4 at hL4 hp4 D4 K4
      by_cases hu : us = []
      · subst hu
        exact ⟨_, _, _, _, _, _, [], ts, rfl, hL4, hp4, ok, lt, D4.mono (by omega), K4⟩
      have hpos : 0 < us.length := List.length_pos_iff.mpr hu
      rw [show (!us.isEmpty) = true from by cases us; exact absurd rfl hu; rfl]
      refine ⟨.ref d, rfl, .ref L, rfl, L, us, rfl, .inl (SqL.of hL4), d, _, (us.length : Int), rfl, D4, by omega, by omega, by omega, fun v H5 a5 b5 D5 K5 => ?_⟩
      have hL5 := K5 _ _ ld ld hL4
      have hp5 := ties_tk (K5.tk D4) hp4
      obtain ⟨u, e1, e2⟩ := getI a5 b5
      obtain ⟨t, e3, c, rfl, hc⟩ := Paired.at hp5 e2
      refine ⟨.ref L, rfl, .int v, rfl, L, us, v, .ref c, rfl, rfl, SqL.of hL5, e1, c, _, rfl, SqT.of hc, rfl, _, _, rfl, _, _, rfl, _, _, rfl, rfl, ?_⟩
      refine ⟨.int t.one, rfl, .int t.other, rfl, by show 2 ≤ sizeLine; decide, fun p np => ⟨.str (kindS t.foe), rfl, rfl, .inr ⟨_, rfl, p, _, _, _, rfl, rfl, SqL.of upd_same, pick2 _ _ _, by show 3 ≤ sizeLine; decide, fun r nr => ?_⟩⟩⟩
      have ek : ∃ fo : Bool, (if decide (V.str (kindS t.foe) = V.str "friend") = true then V.str "foe" else V.str "friend") = V.str (kindS fo) := by
        generalize decide (V.str (kindS t.foe) = V.str "friend") = c
        cases c
        · exact ⟨false, rfl⟩
        · exact ⟨true, rfl⟩
      obtain ⟨fo, ek⟩ := ek
      rw [ek]
      have ep := same_new (o := .lst [.str "friend", .str "foe"]) np
      have er := same_new (o := .tup [.int t.one, .int t.other, .str (kindS fo)]) nr
      have s6 := ep.trans er
      have hL6 := s6 _ _ hL5
      have okt := ok t (List.mem_of_getElem? e3)
      refine ⟨.ref L, rfl, .int v, rfl, L, us, v, v.toNat, rfl, rfl, hL6, ixN_of a5 b5, ?_⟩
      have tk := tk_lst (ys := us.set v.toNat (.ref r)) hL6
      refine ⟨_, _, _, _, _, _, us.set v.toNat (.ref r), ts.set v.toNat ⟨t.one, t.other, fo⟩, rfl, upd_same, paired_set (ties_tk ((Same.tk s6).trans tk) hp5) ⟨r, rfl, tk _ _ upd_same⟩, fun x hx => ?_, by rw [List.length_set]; exact lt, ((D5.same s6).mut ld).mono (by omega), ((K4.trans K5).trans (Same.kp s6)).mut nL0⟩
      rcases List.mem_or_eq_of_mem_set hx with h | h
      · exact ok x h
      · rw [h]
        exact okt
    clear hL hp ok lt D3 K3 H3 lu us ts
    rintro σ' H3 ⟨y4, y6, y7, y8, y9, y10, us, ts, rfl, hL, hp, ok, lt, D3, K3⟩
    refine ⟨.int n, rfl, .ref L, rfl, L, us, rfl, .inl ⟨SqL.of hL, fun e ne => ⟨by show 2 ≤ sizeLine; decide, fun a na => ?_⟩⟩⟩
    have s2 := (same_new (o := .tup us) ne).trans (same_new (o := .tup [.int n, .ref e]) na)
    exact q _ n ts _ ⟨a, e, us, rfl, upd_same, same_new na _ _ upd_same, ties_tk (Same.tk s2) hp⟩ ⟨by omega, by omega, by omega, ok⟩ (by omega) lt (D3.same s2) (K3.trans (Same.kp s2))
end
/-! ### k20: _law_bent -/
def rLstOfB (K : PySem.W.Frag) : List V → Hp → VK → Prop := fun xs H Q => ∃ p ys, xs = [V.ref p] ∧ (SqL K H p ys ∨ SqT K H p ys) ∧ ∀ l, H l = none → Q (.ref l) (upd H l (.lst ys))
def rTupOfB (K : PySem.W.Frag) : List V → Hp → VK → Prop := fun xs H Q => ∃ p ys, xs = [V.ref p] ∧ ((SqL K H p ys ∧ ∀ l, H l = none → Q (.ref l) (upd H l (.tup ys))) ∨ (SqT K H p ys ∧ Q (.ref p) H))
structure Rw (H : Hp) (A : List Addr) (rs : List (List Int)) : Prop where
  nd : A.Nodup
  len : A.length = rs.length
  each : ∀ (j : Nat) (a : Addr), A[j]? = some a → ∃ row, rs[j]? = some row ∧ H a = some (.lst (row.map V.int))
theorem Rw.ext {H H' : Hp} {A : List Addr} {rs : List (List Int)} (h : Rw H A rs) (k : ∀ a ∈ A, ∀ x, H a = some x → H' a = some x) : Rw H' A rs :=
  ⟨h.nd, h.len, fun j a e => by
    obtain ⟨row, e1, e2⟩ := h.each j a e
    exact ⟨row, e1, k a (List.mem_of_getElem? e) _ e2⟩⟩
theorem Rw.more {H : Hp} {p : Addr} {A : List Addr} {rs : List (List Int)} (h : Rw H A rs) (np : H p = none) (row : List Int) : Rw (upd H p (.lst (row.map V.int))) (A ++ [p]) (rs ++ [row]) := by
  have no : p ∉ A := fun z => by
    obtain ⟨j, e⟩ := List.getElem?_of_mem z
    obtain ⟨row, _, e2⟩ := h.each j p e
    rw [np] at e2
    cases e2
  have l := h.len
  refine ⟨List.nodup_append.mpr ⟨h.nd, by simp, fun a ha b hb e => no (by rw [List.mem_singleton.mp hb] at e; exact e ▸ ha)⟩, by simp [l], fun j a e => ?_⟩
  by_cases hj : j < A.length
  · rw [List.getElem?_append_left hj] at e
    obtain ⟨r, e1, e2⟩ := h.each j a e
    exact ⟨r, by rw [List.getElem?_append_left (by omega)]; exact e1, by rw [upd_ne (show a ≠ p from fun z => no (z ▸ List.mem_of_getElem? e))]; exact e2⟩
  · rw [List.getElem?_append_right (by omega)] at e
    have hj2 : j - A.length = 0 := by
      have := (List.getElem?_eq_some_iff.mp e).1
      simp at this
      omega
    rw [hj2] at e
    cases e
    exact ⟨row, by rw [List.getElem?_append_right (by omega), show j - rs.length = 0 by omega]; rfl, upd_same⟩
theorem Rw.put {H : Hp} {a : Addr} {j : Nat} {A : List Addr} {rs : List (List Int)} (h : Rw H A rs) (e : A[j]? = some a) (row : List Int) : Rw (upd H a (.lst (row.map V.int))) A (rs.set j row) := by
  have l := h.len
  refine ⟨h.nd, by simp [l], fun i b eb => ?_⟩
  have hj := (List.getElem?_eq_some_iff.mp e).1
  by_cases ij : j = i
  · subst ij
    rw [e] at eb
    cases eb
    exact ⟨row, by rw [List.getElem?_set_self (by omega)], upd_same⟩
  · obtain ⟨r, e1, e2⟩ := h.each i b eb
    refine ⟨r, by rw [List.getElem?_set_ne ij]; exact e1, ?_⟩
    have hi := (List.getElem?_eq_some_iff.mp eb).1
    rw [upd_ne (fun z => ij ?_)]
    · exact e2
    · have e' := (List.getElem?_eq_some_iff.mp e).2
      have eb' := (List.getElem?_eq_some_iff.mp eb).2
      refine Classical.byContradiction fun ne => ?_
      rcases Nat.lt_or_gt_of_ne ne with lt | lt
      · exact List.pairwise_iff_getElem.mp h.nd j i hj hi lt (by rw [e', eb', z])
      · exact List.pairwise_iff_getElem.mp h.nd i j hi hj lt (by rw [e', eb', z])
def LayR (H : Hp) (v : V) (n : Nat) (rs : List (List Int)) : Prop := ∃ a vs, v = .ref a ∧ H a = some (.tup vs) ∧ Paired (IntsV H) vs rs ∧ rs.length = n ∧ ∀ row ∈ rs, row.length = 2 * n
theorem LayR.tk {H H' : Hp} (k : Tk H H') {v : V} {n : Nat} {rs : List (List Int)} (h : LayR H v n rs) : LayR H' v n rs := by
  obtain ⟨a, vs, e, h1, h2, h3, h4⟩ := h
  exact ⟨a, vs, e, k _ _ h1, Paired.mono (fun _ _ x => x.tk k) h2, h3, h4⟩
theorem LayAt.rows {H : Hp} {v : V} {n : Nat} {ts : List Tie} {rs : List (List Int)} (h : LayAt H v n ts rs) : LayR H v n rs := by
  obtain ⟨a, vs, e, h1, h2, h3, h4⟩ := h
  refine ⟨a, vs, e, h1, h2, h3, fun row hr => ?_⟩
  obtain ⟨s, es⟩ := List.getElem?_of_mem hr
  exact (h4 s row es).len
def spBent20 : Sp := fun vs H Q _ => ∃ (d : Addr) (b n : Nat) (v : V) (rs : List (List Int)), vs = [.ref d, v] ∧ Well H d b ∧ b < 2 ^ 50 ∧ LayR H v n rs ∧ 1 ≤ n ∧ n ≤ 40 ∧
  ∀ v' rs' H', LayR H' v' n rs' → Well H' d (b + 20) → Kp d d H H' → Q v' H'
section
variable {P : Program} {w : World} {K : PySem.W.Frag} {mg : Str → Option Value} {base : Heap}
set_option maxHeartbeats 4000000 in
theorem ok_l_bent {f : Addr} {fd : FuncData} (F : Fun K "_law_bent" "_law_bent" s_l_bent f fd) (M : Free mg) (m_max : mg "max" = none) (D_l_draw : Df P w K mg base 1 "_law_draw" ["_law_well_here", "_law_many"] spDraw) : FnOk P w K mg base CX0 2 f fd ["_law_well_here", "_law_layers_here"] spBent20 := by
  obtain ⟨f_l_draw, fd_l_draw, G_l_draw, g_l_draw, k_l_draw, b_l_draw⟩ := D_l_draw
  refine F.ok sc_l_bent (fun vs H Q E h => ?_) (fun cdv A outer s H vs Q E hr h => ?_)
  · obtain ⟨d, b, n, v, rs, rfl, _⟩ := h
    rfl
  · obtain ⟨d, b, n, v, rs, rfl, hD, hB, hv, n1, n40, q⟩ := h
    refine ⟨_, (Evl.pss_cut (ps_setLc (i := 2) (own := [("_law_row_here", 3)]) (g := (gName 3)) (tt := tYes) rfl sc_l_bent.nd rfl rfl (sw_true rfl rfl rfl (by decide +kernel)) (pi_tup (pv 1)) (blkOk_by (N := N_l_bent) (sc := defScope s_l_bent) (own := [("_law_row_here", 3)]) (by decide +kernel)) (fun _ _ _ _ _ => (pg_name (i := 3) sc_l_bent.nd rfl (.inl rfl))) (fun _ _ _ _ _ => pts_nil) (fun _ _ _ _ _ => (pe_callTy (r := rLstOfB K) (T := "list") call_list_of (by rfl) M.list (by decide +kernel) (pa_cons (pv 3) pa_nil))))
      (pss_cons (ps_for PassesOwn.never rfl (pi_range1 (by rfl) M.range (pa_cons (pe_call G_l_draw (hr.mono (by decide)) (by rfl) g_l_draw k_l_draw b_l_draw .nil pass0 (pa_cons (pv 0) (pa_cons pe_int pa_nil))) pa_nil)) (pg_name (i := 4) sc_l_bent.nd rfl (.inl rfl))
        (pss_cons (ps_set (i := 5) sc_l_bent.nd rfl (.inl rfl) (pe_call G_l_draw (hr.mono (by decide)) (by rfl) g_l_draw k_l_draw b_l_draw .nil pass0 (pa_cons (pv 0) (pa_cons (pe_callB call_len_seq (by rfl) M.len PySem.boot_len (pa_cons (pv 2) pa_nil)) pa_nil))))
        (pss_cons (ps_set (i := 6) sc_l_bent.nd rfl (.inl rfl) (pe_call G_l_draw (hr.mono (by decide)) (by rfl) g_l_draw k_l_draw b_l_draw .nil pass0 (pa_cons (pv 0) (pa_cons (pe_op op_mul pe_int (pe_callB call_len_seq (by rfl) M.len PySem.boot_len (pa_cons (pv 2) pa_nil))) pa_nil))))
        (pss_one (ps_asg (pe_callB (call_max2 rfl) (by rfl) m_max (by decide +kernel) (pa_cons pe_int (pa_cons (pe_op op_add (pe_ix ix_list (pe_ix ix_list (pv 2) (pv 5) (fun _ _ => rfl)) (pv 6) (fun _ _ => rfl)) (pe_ix ix_list (pe_lst (pa_cons pe_int (pa_cons (pe_un un_neg pe_int) pa_nil))) (pe_call G_l_draw (hr.mono (by decide)) (by rfl) g_l_draw k_l_draw b_l_draw .nil pass0 (pa_cons (pv 0) (pa_cons pe_int pa_nil))) (fun _ _ => rfl))) pa_nil))) (pg_sub (pe_ix ix_list (pv 2) (pv 5) (fun _ _ => rfl)) (pv 6) set_list))))))
      (pss_one (ps_ret (pe_callTy call_tuple_of (by rfl) M.tuple (by decide +kernel) (pa_cons (pe_lc (own := [("_law_row_here", 3)]) (g := (gName 3)) (tt := tYes) rfl sc_l_bent.nd (pi_list (pv 2)) (blkOk_by (N := N_l_bent) (sc := defScope s_l_bent) (own := [("_law_row_here", 3)]) (by decide +kernel)) (fun _ _ _ _ _ => (pg_name (i := 3) sc_l_bent.nd rfl (.inl rfl))) (fun _ _ _ _ _ => pts_nil) (fun _ _ _ _ _ => (pe_callTy (r := rTupOfB K) (T := "tuple") call_tuple_of (by rfl) M.tuple (by decide +kernel) (pa_cons (pv 3) pa_nil)))) pa_nil)))))), ?_⟩
    obtain ⟨la, vs, rfl, hla, hvs, hn, hrow⟩ := hv
    have lv := Paired.length hvs
    -- the rows as lists
    refine ⟨fun σ' H' => ∃ (L : Addr) (A : List Addr), σ' = [some (.ref d), some (.ref la), some (.ref L), none, none, none, none] ∧ H' L = some (.lst (A.map V.ref)) ∧ Rw H' A rs ∧ (∀ a ∈ A, a ≠ d ∧ a ≠ L ∧ H a = none) ∧ L ≠ d ∧ Well H' d b ∧ Kp d d H H' ∧ H L = none, ?_, ?_⟩
    · refine ⟨.ref la, rfl, la, rfl, ⟨vs, SqT.of hla⟩, fun L nL => ?_⟩
      have ld := hD.ned nL
      refine lc_tup (xs := vs) (fun j H' => ∃ A : List Addr, H' L = some (.lst (A.map V.ref)) ∧ Rw H' A (rs.take j) ∧ (∀ a ∈ A, a ≠ d ∧ a ≠ L ∧ H a = none) ∧ Same H H') ⟨[], upd_same, ⟨List.nodup_nil, rfl, fun j a e => by simp at e⟩, fun a ha => (by cases ha), same_new nL⟩ (fun j H' _ h => by
        obtain ⟨_, _, _, _, s⟩ := h
        exact SqT.of (s _ _ hla)) ?_ ?_
      · rintro j x H1 ex ⟨A, hL, hA, ha, s1⟩
        obtain ⟨row, er, c, rfl, hc⟩ := Paired.at hvs ex
        refine ⟨rfl, .ref c, rfl, c, _, rfl, .inr (SqT.of (s1 _ _ hc)), fun p np => ?_⟩
        have sp := same_new (o := .lst (row.map V.int)) np
        have pL : p ≠ L := (ne_of_none hL np).symm
        have lA := hA.len
        have jl := (List.getElem?_eq_some_iff.mp er).1
        rw [List.length_take] at lA
        refine ⟨_, sp _ _ hL, by rw [List.length_map]; exact small1000 (by omega), A ++ [p], by rw [upd_same, List.map_append]; rfl, ?_, fun a hm => ?_, Same.mut (s1.trans sp) nL⟩
        · rw [List.take_add_one, er]
          refine (hA.more np row).ext fun a hm x hx => ?_
          rw [upd_ne]
          · exact hx
          · rcases List.mem_append.mp hm with h | h
            · exact (ha a h).2.1
            · rw [List.mem_singleton.mp h]; exact pL
        · rcases List.mem_append.mp hm with h | h
          · exact ha a h
          · rw [List.mem_singleton.mp h]
            refine ⟨fun z => ?_, pL, s1.free np⟩
            exact (hD.same s1).ned np z
      · rintro H1 ⟨A, hL, hA, ha, s1⟩
        rw [lv, List.take_length] at hA
        exact ⟨L, A, rfl, hL, hA, ha, ld, hD.same s1, Same.kp s1, nL⟩
    rintro σ' H1 ⟨L, A, rfl, hL, hA, ha, ld, D1, K1, nL0⟩
    have lA := hA.len
    -- so many changes
    refine ⟨.ref d, rfl, d, _, 5, rfl, D1, by omega, by decide, by decide, fun z H2 z0 z1 D2 K2 => ?_⟩
    have keepA : ∀ {H1 H2 : Hp} {rs : List (List Int)}, Kp d d H1 H2 → Rw H1 A rs → Rw H2 A rs := fun {H1 H2 rs} k h => h.ext fun a hm x hx => k _ _ (ha a hm).1 (ha a hm).1 hx
    refine ⟨z, rfl, by omega, by omega, ?_⟩
    refine for_range (lo := 0) (n := z.toNat) (fun i σ' H' => ∃ (y4 y5 y6 : Option V) (rs' : List (List Int)), σ' = [some (.ref d), some (.ref la), some (.ref L), none, y4, y5, y6] ∧ H' L = some (.lst (A.map V.ref)) ∧ Rw H' A rs' ∧ (∀ row ∈ rs', row.length = 2 * n) ∧ Well H' d (b + 1 + 3 * i) ∧ Kp d d H H') ⟨none, none, none, rs, rfl, K2 _ _ ld ld hL, keepA K2 hA, hrow, D2, K1.trans K2⟩ ?_ ?_
    · rintro i σ' H3 hi ⟨y4, y5, y6, rs', rfl, hL3, hA3, hrow3, D3, K3⟩
      have lA3 := hA3.len
      have lAm : (A.map V.ref).length = n := by rw [List.length_map]; omega
      refine ⟨.ref d, rfl, .ref L, rfl, L, _, rfl, .inl (SqL.of hL3), d, _, ((A.map V.ref).length : Int), rfl, D3, by omega, by omega, by omega, fun p0 H4 p1 p2 D4 K4 => ?_⟩
      have hL4 := K4 _ _ ld ld hL3
      have hA4 := keepA K4 hA3
      refine ⟨.ref d, rfl, .ref L, rfl, L, _, rfl, .inl (SqL.of hL4), _, _, rfl, rfl, .inr ⟨by omega, by omega⟩, d, _, 2 * ((A.map V.ref).length : Int), rfl, D4, by omega, by omega, by omega, fun a0 H5 a1 a2 D5 K5 => ?_⟩
      have hL5 := K5 _ _ ld ld hL4
      have hA5 := keepA K5 hA4
      obtain ⟨u, e1, e2⟩ := getI p1 p2
      rw [List.getElem?_map] at e2
      obtain ⟨ad, ea, rfl⟩ := Option.map_eq_some_iff.mp e2
      obtain ⟨row, er, hrw⟩ := hA5.each _ _ ea
      have lr := hrow3 row (List.mem_of_getElem? er)
      have had := ha ad (List.mem_of_getElem? ea)
      obtain ⟨x, x1, x2⟩ := getI (xs := row.map V.int) a1 (by rw [List.length_map]; omega)
      rw [List.getElem?_map] at x2
      obtain ⟨w0, ew, rfl⟩ := Option.map_eq_some_iff.mp x2
      refine ⟨.ref L, rfl, .int p0, rfl, L, _, p0, .ref ad, rfl, rfl, SqL.of hL5, e1, .int a0, rfl, ad, _, a0, .int w0, rfl, rfl, SqL.of hrw, x1, 1, rfl, by show 2 ≤ sizeLine; decide, fun pz nz => ?_⟩
      have sz := same_new (o := .lst [.int 1, .int (-1)]) nz
      have D6 := D5.same sz
      have pd := D5.ned nz
      refine ⟨.ref d, rfl, d, _, 2, rfl, D6, by omega, by decide, by decide, fun v0 H7 v1 v2 D7 K7 => ?_⟩
      obtain ⟨dl, edl⟩ : ∃ dl : Int, atI [V.int 1, .int (-1)] v0 = some (.int dl) := by
        have h01 : v0 = 0 ∨ v0 = 1 := by omega
        rcases h01 with e | e <;> subst e
        · exact ⟨1, rfl⟩
        · exact ⟨-1, rfl⟩
      have hL7 := K7 _ _ ld ld (sz _ _ hL5)
      have hA7 := keepA K7 (hA5.ext fun a hm x hx => sz _ _ hx)
      have hrw7 := K7 _ _ had.1 had.1 (sz _ _ hrw)
      refine ⟨pz, _, v0, _, rfl, rfl, SqL.of (K7 _ _ pd pd upd_same), edl, _, _, rfl, rfl, _, _, rfl, ?_⟩
      refine ⟨.ref L, rfl, .int p0, rfl, L, _, p0, .ref ad, rfl, rfl, SqL.of hL7, e1, .int a0, rfl, ad, _, a0, a0.toNat, rfl, rfl, hrw7, ixN_of a1 (by rw [List.length_map]; omega), ?_⟩
      have K37 := (((K3.trans K4).trans K5).trans (Same.kp sz)).trans K7
      have put := fun w : Int => hA7.put ea (row.set a0.toNat w)
      have setm : ∀ w : Int, (row.map V.int).set a0.toNat (.int w) = (row.set a0.toNat w).map V.int := fun w => by rw [List.map_set]
      rw [setm]
      refine ⟨_, _, _, _, rfl, by rw [upd_ne (Ne.symm had.2.1)]; exact hL7, put _, fun r hr => ?_, ((D7.mut had.1).mono (by omega)), K37.mut had.2.2⟩
      rcases List.mem_or_eq_of_mem_set hr with h | h
      · exact hrow3 r h
      · rw [h, List.length_set]; exact lr
    · rintro σ' H3 ⟨y4, y5, y6, rs', rfl, hL3, hA3, hrow3, D3, K3⟩
      have lA3 := hA3.len
      refine ⟨.ref L, rfl, L, rfl, ⟨_, SqL.of hL3⟩, fun Z nZ => ?_⟩
      have zd := D3.ned nZ
      have nZ0 := K3.free nZ zd zd
      refine lc_list (xs := A.map V.ref) (fun j H' => ∃ us : List V, H' Z = some (.lst us) ∧ Paired (IntsV H') us (rs'.take j) ∧ Same H3 H') ⟨[], upd_same, .nil, same_new nZ⟩ (fun j H' _ h => by
        obtain ⟨_, _, _, s⟩ := h
        exact SqL.of (s _ _ hL3)) ?_ ?_
      · rintro j x H4 ex ⟨us, hZ, hp, s4⟩
        rw [List.getElem?_map] at ex
        obtain ⟨ad, ea, rfl⟩ := Option.map_eq_some_iff.mp ex
        obtain ⟨row, er, hrw⟩ := hA3.each _ _ ea
        have lu := Paired.length hp
        have jl := (List.getElem?_eq_some_iff.mp er).1
        rw [List.length_take] at lu
        refine ⟨rfl, .ref ad, rfl, ad, _, rfl, .inl ⟨SqL.of (s4 _ _ hrw), fun r nr => ?_⟩⟩
        have sr := same_new (o := .tup (row.map V.int)) nr
        have tk := tk_lst (ys := us ++ [.ref r]) (sr _ _ hZ)
        refine ⟨us, sr _ _ hZ, small1000 (by omega), us ++ [.ref r], upd_same, ?_, Same.mut (s4.trans sr) nZ⟩
        rw [List.take_add_one, er]
        exact Paired.snoc (Paired.mono (fun _ _ x => x.tk ((Same.tk sr).trans tk)) hp) ⟨r, rfl, tk _ _ upd_same⟩
      · rintro H4 ⟨us, hZ, hp, s4⟩
        rw [List.length_map, lA3, List.take_length] at hp
        refine ⟨Z, us, rfl, .inl ⟨SqL.of hZ, fun a na => ?_⟩⟩
        have sa := same_new (o := .tup us) na
        exact q _ rs' _ ⟨a, us, rfl, upd_same, Paired.mono (fun _ _ x => x.tk (Same.tk sa)) hp, by omega, hrow3⟩ ((D3.same (s4.trans sa)).mono (by omega)) (K3.trans (Same.kp (s4.trans sa)))
end
/-! ### k20: layers that hold; _law_right -/
theorem layB_kt {Ps : List Addr} {H H' : Hp} (k : Kt Ps H H') (t : Tabs Ps H) {n : Nat} {ts : List Tie} {num : Int} {v : V} (h : ThingK H v) : layB H' n ts num v = layB H n ts num v := by
  unfold layB
  rw [kt_parts k t h.1]
  cases hp : parts H v with
  | none => rfl
  | some rows =>
    simp only
    by_cases hl : rows.length = n
    · rw [decide_eq_true hl, Bool.true_and, Bool.true_and]
      rw [Bool.eq_iff_iff, List.all_eq_true, List.all_eq_true]
      have e : ∀ s ∈ List.range n, parts H' (rows.getD s .non) = parts H (rows.getD s .non) := fun s hs => by
        have hs := List.mem_range.mp hs
        rw [List.getD_eq_getElem?_getD, List.getElem?_eq_getElem (by omega)]
        exact kt_parts k t (h.2 rows hp _ (List.getElem_mem _)).1
      constructor
      · intro z s hs
        rw [← e s hs]
        exact z s hs
      · intro z s hs
        rw [e s hs]
        exact z s hs
    · rw [decide_eq_false hl, Bool.false_and, Bool.false_and]
theorem LayAt.thing {H : Hp} {v : V} {n : Nat} {ts : List Tie} {rs : List (List Int)} (h : LayAt H v n ts rs) : ThingK H v := by
  obtain ⟨a, vs, rfl, h1, h2, _⟩ := h
  refine ⟨.inr (.inl ⟨_, h1⟩), fun xs e x hx => ?_⟩
  rw [parts_of' h1] at e
  cases e
  obtain ⟨i, hi⟩ := List.getElem?_of_mem hx
  obtain ⟨row, _, b, rfl, hb⟩ := Paired.at h2 hi
  refine ⟨.inr (.inl ⟨_, hb⟩), fun ys e y hy => ?_⟩
  rw [parts_of' hb] at e
  cases e
  obtain ⟨z, _, rfl⟩ := List.mem_map.mp hy
  trivial
theorem LayAt.judge {H : Hp} {v : V} {n : Nat} {ts : List Tie} {rs : List (List Int)} (h : LayAt H v n ts rs) (num : Int) : layB H n ts num v = true ↔ ∀ (s : Nat) row, rs[s]? = some row → num ≤ gI row (2 * (s : Int) + 1) := by
  obtain ⟨a, vs, rfl, h1, h2, h3, h4⟩ := h
  have lv : vs.length = rs.length := Paired.length h2
  unfold layB
  rw [parts_of' h1]
  simp only
  rw [decide_eq_true (show vs.length = n by omega), Bool.true_and, List.all_eq_true]
  have each : ∀ (s : Nat) row, rs[s]? = some row → rowB n ts num (s : Int) (parts H (vs.getD s .non)) = decide (num ≤ gI row (2 * (s : Int) + 1)) := fun s row e => by
    obtain ⟨u, eu, b, rfl, hb⟩ := Paired.at' h2 e
    have g := h4 s row e
    rw [List.getD_eq_getElem?_getD, eu, Option.getD_some, parts_of' hb]
    unfold rowB
    have e1 : isRowB n (some (row.map V.int)) = true := by
      show (decide ((row.map V.int).length = 2 * n) && (row.map V.int).all (wfrom 0)) = true
      rw [List.length_map, decide_eq_true g.len, all_ints g.pos]
      rfl
    rw [e1, Bool.true_and]
    show rowC ts num s ((row.map V.int).map toI) = _
    rw [toI_map]
    unfold rowC
    rw [decide_eq_true g.zero, Bool.true_and]
    have e2 : ts.all (nearI row) = true := List.all_eq_true.mpr fun t ht => g.near t ht
    rw [e2, Bool.and_true]
  constructor
  · intro z s row e
    have hs := (List.getElem?_eq_some_iff.mp e).1
    have := z s (List.mem_range.mpr (by omega))
    rw [each s row e] at this
    exact of_decide_eq_true this
  · intro z s hs
    have hs := List.mem_range.mp hs
    have e := List.getElem?_eq_getElem (show s < rs.length by omega)
    rw [each s _ e]
    exact decide_eq_true (z s _ e)
theorem rpk_least {n : Nat} {ts : List Tie} (ok : ∀ t ∈ ts, TieOk n t) {L : Nat} (h : ∀ p : Nat, p < n → ∀ k, RPk ts p k p true → L ≤ k) (x : Int) (k : Nat) (r : RPk ts x k x true) : L ≤ k := by
  rcases rpk_in ok r with ⟨_, _, e⟩ | ⟨hx, _⟩
  · cases e
  · have e : ((x.toNat : Nat) : Int) = x := by omega
    rw [← e] at r
    exact h x.toNat (by omega) k r
theorem way_few {n : Nat} {ts : List Tie} (ok : ∀ t ∈ ts, TieOk n t) {s : Nat} (hs : s < n) {e : Int} {qs ns : List Int} (way : Way (dN ts) e (2 * (s : Int)) qs ns) : ns.length ≤ 2 * n := by
  have h := pigeon (2 * n) qs way.nodup fun x hx => by
    obtain ⟨i, hi⟩ := List.getElem?_of_mem hx
    cases i with
    | zero =>
      rw [way.head] at hi
      obtain rfl := Option.some.inj hi
      omega
    | succ i =>
      have hil := (List.getElem?_eq_some_iff.mp hi).1
      have lq := way.len
      obtain ⟨x', y, m, h1, h2, h3, h4⟩ := way.each i (by omega)
      rw [hi] at h2
      obtain rfl := Option.some.inj h2
      have := dN_in ok h4
      omega
  have lq := way.len
  omega
theorem lay_told' {n : Nat} {ts : List Tie} (ok : ∀ t ∈ ts, TieOk n t) {W : Nat → List We} (wks : ∀ p, p < n → Wks ts p (W p)) {L : Nat} {H : Hp} {ly : Addr} {rows : List V} (h5 : H ly = some (.tup rows)) (h6 : Paired (IntsV H) rows ((List.range n).map fun p => rowW (W p) L (2 * n))) : LayAt H (.ref ly) n ts ((List.range n).map fun p => rowW (W p) L (2 * n)) := by
  refine ⟨ly, rows, rfl, h5, h6, by rw [List.length_map, List.length_range], fun s row e => ?_⟩
  rw [List.getElem?_map] at e
  obtain ⟨p, hp, rfl⟩ := Option.map_eq_some_iff.mp e
  have hl := (List.getElem?_eq_some_iff.mp hp).1
  rw [List.length_range] at hl
  rw [List.getElem?_range hl] at hp
  obtain rfl := Option.some.inj hp
  exact row_told ok hl (wks _ hl)
theorem judge_told {n : Nat} {ts : List Tie} {W : Nat → List We} {L s : Nat} (hs : s < n) (e1 : odL (W s) s = some L) (mn : ∀ p k : Nat, p < n → odL (W p) p = some k → L ≤ k) {H : Hp} {v : V} (h : LayAt H v n ts ((List.range n).map fun p => rowW (W p) L (2 * n))) : layB H n ts L v = true ∧ layB H n ts ((L : Int) + 1) v = false := by
  have g : ∀ p : Nat, p < n → gI (rowW (W p) L (2 * n)) (2 * (p : Int) + 1) = ((odL (W p) p).map fun k : Nat => (k : Int)).getD L := fun p hp => gI_rowW (by omega) (by push_cast; omega)
  refine ⟨(h.judge _).mpr fun p row e => ?_, ?_⟩
  · rw [List.getElem?_map] at e
    obtain ⟨p', hp, rfl⟩ := Option.map_eq_some_iff.mp e
    have hl := (List.getElem?_eq_some_iff.mp hp).1
    rw [List.length_range] at hl
    rw [List.getElem?_range hl] at hp
    obtain rfl := Option.some.inj hp
    rw [g _ hl]
    cases ho : odL (W p) p with
    | none => exact Int.le_refl _
    | some k =>
      have := mn p k hl ho
      show (L : Int) ≤ (k : Int)
      omega
  · rw [Bool.eq_false_iff]
    intro z
    have := (h.judge _).mp z s (rowW (W s) L (2 * n)) (by rw [List.getElem?_map, List.getElem?_range hs]; rfl)
    rw [g s hs, e1] at this
    have : (L : Int) + 1 ≤ (L : Int) := this
    omega
theorem LayR.thing {H : Hp} {v : V} {n : Nat} {rs : List (List Int)} (h : LayR H v n rs) : ThingK H v := by
  obtain ⟨a, vs, rfl, h1, h2, _⟩ := h
  refine ⟨.inr (.inl ⟨_, h1⟩), fun xs e x hx => ?_⟩
  rw [parts_of' h1] at e
  cases e
  obtain ⟨i, hi⟩ := List.getElem?_of_mem hx
  obtain ⟨row, _, b, rfl, hb⟩ := Paired.at h2 hi
  refine ⟨.inr (.inl ⟨_, hb⟩), fun ys e y hy => ?_⟩
  rw [parts_of' hb] at e
  cases e
  obtain ⟨z, _, rfl⟩ := List.mem_map.mp hy
  trivial
theorem LayR.judge {H : Hp} {v : V} {n : Nat} {ts : List Tie} {rs : List (List Int)} (h : LayR H v n rs) {num : Int} (g : layB H n ts num v = true) {s : Nat} (hs : s < n) : ∃ row : List Int, gI row (2 * (s : Int)) = 0 ∧ num ≤ gI row (2 * (s : Int) + 1) ∧ ∀ t ∈ ts, nearI row t = true := by
  obtain ⟨a, vs, rfl, h1, h2, h3, h4⟩ := h
  have lv : vs.length = rs.length := Paired.length h2
  unfold layB at g
  rw [parts_of' h1] at g
  simp only at g
  rw [Bool.and_eq_true, List.all_eq_true] at g
  have g := g.2 s (List.mem_range.mpr hs)
  obtain ⟨row, er⟩ : ∃ row, rs[s]? = some row := ⟨_, List.getElem?_eq_getElem (by omega)⟩
  obtain ⟨u, eu, b, rfl, hb⟩ := Paired.at' h2 er
  rw [List.getD_eq_getElem?_getD, eu, Option.getD_some, parts_of' hb] at g
  unfold rowB at g
  rw [Bool.and_eq_true] at g
  have g : rowC ts num s ((row.map V.int).map toI) = true := g.2
  rw [toI_map] at g
  unfold rowC at g
  rw [Bool.and_eq_true, Bool.and_eq_true, List.all_eq_true] at g
  exact ⟨row, of_decide_eq_true g.1, of_decide_eq_true g.2.1, g.2.2⟩
theorem near_le {a b : Int} (h : nearZ a b = true) : b ≤ a + 1 ∧ a ≤ b + 1 := by
  unfold nearZ at h
  rw [Bool.and_eq_true, decide_eq_true_iff, decide_eq_true_iff] at h
  omega
theorem near_step {row : List Int} {ts : List Tie} (h : ∀ t ∈ ts, nearI row t = true) {y z : Int} {f b : Bool} (ad : Adj ts y z f) : gI row (2 * z + bI (b ^^ f)) ≤ gI row (2 * y + bI b) + 1 := by
  obtain ⟨t, ht, rfl, q⟩ := ad
  have g := h t ht
  unfold nearI at g
  rw [Bool.and_eq_true] at g
  have g1 := near_le g.1
  have g2 := near_le g.2
  have i0 : bI false = 0 := rfl
  have i1 : bI true = 1 := rfl
  rcases q with ⟨rfl, rfl⟩ | ⟨rfl, rfl⟩ <;> cases e : t.foe <;> rw [e] at g1 g2 <;> cases b <;> simp only [i0, i1, Int.add_zero, Int.sub_zero, Int.add_sub_cancel, Bool.xor_false, Bool.xor_true, Bool.not_true, Bool.not_false, Bool.false_xor, Bool.true_xor] at g1 g2 ⊢ <;> omega
theorem row_walk {row : List Int} {ts : List Tie} (h : ∀ t ∈ ts, nearI row t = true) {s : Int} (zero : gI row (2 * s) = 0) {k : Nat} {y : Int} {b : Bool} (r : RPk ts s k y b) : gI row (2 * y + bI b) ≤ k := by
  induction r with
  | nil =>
    show gI row (2 * s + 0) ≤ 0
    rw [Int.add_zero, zero]
    exact Int.le_refl _
  | @step k' u z' b' f' _ ad ih =>
    have := near_step (b := b') h ad
    push_cast
    exact Int.le_trans this (Int.add_le_add_right ih 1)
theorem lay_walk {H : Hp} {v : V} {n : Nat} {ts : List Tie} {rs : List (List Int)} (h : LayR H v n rs) (ok : ∀ t ∈ ts, TieOk n t) {num : Int} (g : layB H n ts num v = true) {x : Int} {k : Nat} (r : RPk ts x k x true) : num ≤ k := by
  rcases rpk_in ok r with ⟨_, _, e⟩ | ⟨⟨x0, x1⟩, _⟩
  · cases e
  · obtain ⟨row, z0, z1, near⟩ := h.judge (ts := ts) g (s := x.toNat) (by omega)
    have ex : ((x.toNat : Nat) : Int) = x := by omega
    rw [ex] at z0 z1
    have := row_walk near z0 r
    exact Int.le_trans z1 this
def szs (n : Nat) (ts : List Tie) : List Int := (sizesN n ts 255).map fun k : Nat => (k : Int)
theorem szI_map (n : Nat) (ts : List Tie) : szI n ts 255 = (szs n ts).map V.int := by
  unfold szI szs
  rw [List.map_map]
  rfl
theorem szs_walk {n : Nat} {ts : List Tie} {m : Int} (h : m ∈ szs n ts) : ∃ x L : _, (L : Nat) ≤ m ∧ RPk ts x L x true := by
  unfold szs at h
  obtain ⟨k, hk, rfl⟩ := List.mem_map.mp h
  unfold sizesN at hk
  obtain ⟨j, _, e⟩ := List.mem_filterMap.mp hk
  by_cases so : sizeOk n (pickT ts (j + 1)) = true
  · rw [if_pos so] at e
    cases e
    obtain ⟨x, L, h1, h2⟩ := size_walk so
    exact ⟨x, L, by omega, h2⟩
  · rw [if_neg so] at e
    cases e
theorem szs_ring {n : Nat} {ts : List Tie} (ok : ∀ t ∈ ts, TieOk n t) (l8 : ts.length ≤ 8) {rs ms : List Int} (R : RingO ts rs ms) : (ms.length : Int) ∈ szs n ts := by
  have up : ∀ x ∈ rs, 0 ≤ x ∧ x < n := fun x hx => by
    obtain ⟨k, hk⟩ := List.getElem?_of_mem hx
    have kl := (List.getElem?_eq_some_iff.mp hk).1
    obtain ⟨x', y, m, t, h1, h2, h3, h4, j⟩ := R.each k (by rw [← R.len]; exact kl)
    rw [hk] at h1
    cases h1
    have o := ok t (List.mem_of_getElem? h4)
    rcases j with ⟨e, _⟩ | ⟨_, e⟩ <;> rw [← e]
    · exact ⟨o.1, o.2.1⟩
    · exact ⟨o.2.2.1, o.2.2.2.1⟩
  have hn := pigeon n rs R.rd up
  obtain ⟨ch, c1, c2, so, l⟩ := ring_size (n := n) R l8 (by rw [← R.len]; exact hn)
  unfold szs
  refine List.mem_map.mpr ⟨_, ?_, rfl⟩
  unfold sizesN
  refine List.mem_filterMap.mpr ⟨ch - 1, List.mem_range.mpr (by omega), ?_⟩
  rw [show ch - 1 + 1 = ch by omega, if_pos so, l]
structure Fx (K : PySem.W.Frag) (Ps : List Addr) (sc : Addr) (xs : List V) (L : Addr) (us : List V) (wv : V) (n : Nat) (ts : List Tie) (H : Hp) : Prop where
  web : WebAt H wv n ts
  tab : Tabs Ps H
  scr : SqL K H sc xs
  lst : H L = some (.lst us)
section
variable {K : PySem.W.Frag} {Ps : List Addr} {sc L : Addr} {xs us : List V} {wv : V} {n : Nat} {ts : List Tie} {H H' : Hp}
theorem Fx.same (h : Fx K Ps sc xs L us wv n ts H) (s : Same H H') : Fx K Ps sc xs L us wv n ts H' := ⟨h.web.tk (Same.tk s), h.tab.same s, s.seq h.scr, s _ _ h.lst⟩
theorem Fx.kp (h : Fx K Ps sc xs L us wv n ts H) {d : Addr} {b : Nat} (ne : sc ≠ d ∨ ∀ H', SqL K H' sc xs) (ld : L ≠ d) (k : Kp d d H H') (D : Well H d b) : Fx K Ps sc xs L us wv n ts H' := ⟨h.web.tk (k.tk D), h.tab.kp k D, sql_well h.scr ne k, k _ _ ld ld h.lst⟩
theorem Fx.kt (h : Fx K Ps sc xs L us wv n ts H) (k : Kt Ps H H') : Fx K Ps sc xs L us wv n ts H' := ⟨h.web.tk (k.tk h.tab), k.tab, k.seq h.tab h.scr, k.lst h.tab h.lst⟩
end
def ToldF (n : Nat) (ts : List Tie) (H : Hp) (v : V) : Prop := (v = .non ∧ szs n ts = []) ∨ ∃ (Lt : Nat) (r rg ly a b : Addr) (rs ms : List Int), v = .ref r ∧ H r = some (.tup [.ref rg, .ref ly]) ∧ H rg = some (.tup [.ref a, .ref b]) ∧ H a = some (.tup (rs.map V.int)) ∧ H b = some (.tup (ms.map V.int)) ∧ rs.length = Lt ∧ ms.length = Lt ∧ (Lt : Int) ∈ szs n ts ∧ (∀ k ∈ szs n ts, (Lt : Int) ≤ k) ∧ ThingK H (.ref ly) ∧ layB H n ts Lt (.ref ly) = true
theorem told_none {n : Nat} {ts : List Tie} (ok : ∀ t ∈ ts, TieOk n t) {W : Nat → List We} (w1 : ∀ p, p < n → Wks ts p (W p)) (od : ∀ p, p < n → odL (W p) p = none) : szs n ts = [] := by
  cases e : szs n ts with
  | nil => rfl
  | cons m ms =>
    exfalso
    obtain ⟨x, L, _, r⟩ := szs_walk (n := n) (ts := ts) (m := m) (by rw [e]; exact List.mem_cons_self)
    rcases rpk_in ok r with ⟨_, _, z⟩ | ⟨⟨x0, x1⟩, _⟩
    · cases z
    · have ex : ((x.toNat : Nat) : Int) = x := by omega
      rw [← ex] at r
      exact (odL_none (w1 x.toNat (by omega))).mp (od _ (by omega)) _ r
theorem told_some {n : Nat} {ts : List Tie} (ok : ∀ t ∈ ts, TieOk n t) (l8 : ts.length ≤ 8) (n6 : n ≤ 6) {W : Nat → List We} {L s : Nat} {qs ns : List Int} {r rg ly a b : Addr} {rows : List V} {H : Hp} (w1 : ∀ p, p < n → Wks ts p (W p)) (hs : s < n) (e1 : odL (W s) s = some L) (mn : ∀ p k : Nat, p < n → odL (W p) p = some k → L < k ∨ (L = k ∧ s ≤ p)) (way : Way (dN ts) (2 * (s : Int) + 1) (2 * (s : Int)) qs ns) (lns : ns.length = L) (h1 : H r = some (.tup [.ref rg, .ref ly])) (h2 : H rg = some (.tup [.ref a, .ref b])) (h3 : H a = some (.tup ((qs.dropLast.map (· / 2)).map V.int))) (h4 : H b = some (.tup ((ns.map (· / 2)).map V.int))) (h5 : H ly = some (.tup rows)) (h6 : Paired (IntsV H) rows ((List.range n).map fun p => rowW (W p) L (2 * n))) : ToldF n ts H (.ref r) := by
  have mn2 : ∀ p k : Nat, p < n → odL (W p) p = some k → L ≤ k := fun p k hp e => by
    have := mn p k hp e
    omega
  have least : ∀ p : Nat, p < n → ∀ k, RPk ts p k p true → L ≤ k := fun p hp k rr => by
    cases ho : odL (W p) p with
    | none => exact ((odL_none (w1 p hp)).mp ho _ rr).elim
    | some j =>
      have a2 := mn2 p j hp ho
      have a3 := ((odL_some (w1 p hp)).mp ho).2 _ rr
      omega
  have R : RingO ts (qs.dropLast.map (· / 2)) (ns.map (· / 2)) := ring_of ok way (fun x k rr => by rw [lns]; exact rpk_least ok least x k rr) (by have := way_few ok hs way; omega) (by omega)
  have lay : LayAt H (.ref ly) n ts _ := lay_told' ok w1 h5 h6
  have lm : (ns.map (· / 2)).length = L := by rw [List.length_map, lns]
  refine .inr ⟨L, r, rg, ly, a, b, _, _, rfl, h1, h2, h3, h4, by rw [R.len, lm], lm, ?_, fun k hk => ?_, lay.thing, (judge_told hs e1 mn2 lay).1⟩
  · rw [← lm]
    exact szs_ring ok l8 R
  · obtain ⟨x, j, hj, rr⟩ := szs_walk hk
    have := rpk_least ok least x j rr
    omega
theorem ToldF.kt {Ps : List Addr} {n : Nat} {ts : List Tie} {H H' : Hp} {v : V} (h : ToldF n ts H v) (k : Kt Ps H H') (t : Tabs Ps H) : ToldF n ts H' v := by
  rcases h with h | ⟨Lt, r, rg, ly, a, b, rs, ms, h0, h1, h2, h3, h4, h5, h6, h7, h8, h9, h10⟩
  · exact .inl h
  · exact .inr ⟨Lt, r, rg, ly, a, b, rs, ms, h0, k.tup t h1, k.tup t h2, k.tup t h3, k.tup t h4, h5, h6, h7, h8, h9.kt k t, by rw [layB_kt k t h9]; exact h10⟩
def spRight20 (K : PySem.W.Frag) (Ps : List Addr) : Sp := fun vs H Q _ => ∃ (d : Addr) (b : Nat) (wv : V) (n : Nat) (ts : List Tie) (sc : Addr) (xs : List V), vs = [.ref d, wv] ∧ Well H d b ∧ b < 2 ^ 40 ∧ WebAt H wv n ts ∧ WebOk n ts ∧ n ≤ 6 ∧ ts.length ≤ 8 ∧ Tabs Ps H ∧ SqL K H sc xs ∧ (sc ≠ d ∨ ∀ H', SqL K H' sc xs) ∧ ∀ H', Tabs Ps H' → SqL K H' sc xs → Q (.bl true) H'
section
variable {P : Program} {w : World} {K : PySem.W.Frag} {mg : Str → Option Value} {base : Heap}
set_option maxHeartbeats 4000000 in
theorem ok_l_right {f : Addr} {fd : FuncData} {Ps : List Addr} (F : Fun K "_law_right" "_law_right" s_l_right f fd) (M : Free mg) (m_min : mg "min" = none) (D_l_odd_sizes : Df P w K mg base 2 "_law_odd_sizes" ["_law_web_here"] spSizes) (D_shortest_odd : Df P w K mg base 2 "shortest_odd" ["web"] spShort) (D_layers_hold : Df P w K mg base 8 "layers_hold" ["web", "number", "thing"] (spLayersHold Ps)) (D_l_layers : Df P w K mg base 3 "_law_layers" ["_law_well_here", "_law_web_here"] spLayers) (D_l_bent : Df P w K mg base 2 "_law_bent" ["_law_well_here", "_law_layers_here"] spBent20) : FnOk P w K mg base CX0 9 f fd ["_law_well_here", "_law_web_here"] (spRight20 K Ps) := by
  obtain ⟨f_l_odd_sizes, fd_l_odd_sizes, G_l_odd_sizes, g_l_odd_sizes, k_l_odd_sizes, b_l_odd_sizes⟩ := D_l_odd_sizes
  obtain ⟨f_shortest_odd, fd_shortest_odd, G_shortest_odd, g_shortest_odd, k_shortest_odd, b_shortest_odd⟩ := D_shortest_odd
  obtain ⟨f_layers_hold, fd_layers_hold, G_layers_hold, g_layers_hold, k_layers_hold, b_layers_hold⟩ := D_layers_hold
  obtain ⟨f_l_layers, fd_l_layers, G_l_layers, g_l_layers, k_l_layers, b_l_layers⟩ := D_l_layers
  obtain ⟨f_l_bent, fd_l_bent, G_l_bent, g_l_bent, k_l_bent, b_l_bent⟩ := D_l_bent
  refine F.ok sc_l_right (fun vs H Q E h => ?_) (fun cdv A outer s H vs Q E hr h => ?_)
  · obtain ⟨d, b, wv, n, ts, sc, xs, rfl, _⟩ := h
    rfl
  · obtain ⟨d, b, wv, n, ts, sc, xs, rfl, hD, hB, hW, ok, n6, l8, hT, hS, ne, q⟩ := h
    refine ⟨_, (pss_cons (ps_set (i := 2) sc_l_right.nd rfl (.inl rfl) (pe_call G_l_odd_sizes (hr.mono (by decide)) (by rfl) g_l_odd_sizes k_l_odd_sizes b_l_odd_sizes .nil pass0 (pa_cons (pv 1) pa_nil)))
      (Evl.pss_cut (ps_set (i := 3) sc_l_right.nd rfl (.inl rfl) (pe_call G_shortest_odd (hr.mono (by decide)) (by rfl) g_shortest_odd k_shortest_odd b_shortest_odd .nil pass0 (pa_cons (pv 1) pa_nil)))
      (Evl.pss_cut (ps_if (pt_cmpR op_ne (pe_cmpR op_isN (pv 3) pe_non (nomark _)) (pe_cmpR (op_eqE hr.units0) (pv 2) (pe_lst pa_nil) (nomark _)) (nomark _))
        (pss_one (ps_ret pe_bl))
        pss_nil)
      (Evl.pss_cut (ps_if (pt_cmpR op_notN (pv 3) pe_non (nomark _))
        (pss_cons (ps_set (i := 4) sc_l_right.nd rfl (.inl rfl) (pe_callB (cr_min rfl) (by rfl) m_min (by decide +kernel) (pa_cons (pv 2) pa_nil)))
        (pss_one (ps_if (PW.pt (pw_or (pt_cmpR op_ne (pe_callB call_len_seq (by rfl) M.len PySem.boot_len (pa_cons (pe_ix ix_tup (pe_ix ix_tup (pv 3) pe_int (fun _ _ => rfl)) pe_int (fun _ _ => rfl)) pa_nil)) (pv 4) (nomark _)) (pw_or (pt_cmpR op_ne (pe_callB call_len_seq (by rfl) M.len PySem.boot_len (pa_cons (pe_ix ix_tup (pe_ix ix_tup (pv 3) pe_int (fun _ _ => rfl)) pe_int (fun _ _ => rfl)) pa_nil)) (pv 4) (nomark _)) (pw_or1 (pt_cmpR op_notBl (pe_call G_layers_hold (hr.mono (by decide)) (by rfl) g_layers_hold k_layers_hold b_layers_hold .nil pass0 (pa_cons (pv 1) (pa_cons (pv 4) (pa_cons (pe_ix ix_tup (pv 3) pe_int (fun _ _ => rfl)) pa_nil)))) pe_bl (nomark _))))))
          (pss_one (ps_ret pe_bl))
          pss_nil)))
        pss_nil)
      (pss_cons (ps_for PassesOwn.never rfl (pi_range1 (by rfl) M.range (pa_cons pe_int pa_nil)) (pg_name (i := 5) sc_l_right.nd rfl (.inl rfl))
        (pss_cons (ps_set (i := 6) sc_l_right.nd rfl (.inl rfl) (pe_call G_l_bent (hr.mono (by decide)) (by rfl) g_l_bent k_l_bent b_l_bent .nil pass0 (pa_cons (pv 0) (pa_cons (pe_call G_l_layers (hr.mono (by decide)) (by rfl) g_l_layers k_l_layers b_l_layers .nil pass0 (pa_cons (pv 0) (pa_cons (pv 1) pa_nil))) pa_nil))))
        (pss_one (ps_for PassesOwn.never rfl (pi_range1 (by rfl) M.range (pa_cons pe_int pa_nil)) (pg_name (i := 7) sc_l_right.nd rfl (.inl rfl))
          (pss_cons (ps_set (i := 8) sc_l_right.nd rfl (.inl rfl) (pe_call G_layers_hold (hr.mono (by decide)) (by rfl) g_layers_hold k_layers_hold b_layers_hold .nil pass0 (pa_cons (pv 1) (pa_cons (pv 7) (pa_cons (pv 6) pa_nil)))))
          (pss_one (ps_if (PW.pt (pw_or (pt_not (pt_val (pe_callB call_isi (by rfl) M.isinstance (by decide +kernel) (pa_cons (pv 8) (pa_cons (pe_bltn (v := .ty "bool") (by rfl) M.bool (by decide +kernel) rfl) pa_nil))))) (pw_or1 (PW.pt (pw_and (pt_val (pv 8)) (pw_and (pt_cmpR (op_neE hr.units0) (pv 2) (pe_lst pa_nil) (nomark _)) (pw_and1 (pt_cmpR op_lt (pe_callB (cr_min rfl) (by rfl) m_min (by decide +kernel) (pa_cons (pv 2) pa_nil)) (pv 7) (nomark _)))))))))
            (pss_one (ps_ret pe_bl))
            pss_nil)))))))
      (pss_one (ps_ret pe_bl))))))), ?_⟩
    have n1 := ok.lo
    have n40 := ok.hi
    refine ⟨wv, rfl, wv, n, ts, rfl, hW, ok, l8, fun L H1 s1 nL hL => ?_⟩
    have ld := hD.ned nL
    rw [szI_map] at hL
    have F1 : Fx K Ps sc xs L ((szs n ts).map V.int) wv n ts H1 := ⟨hW.tk (Same.tk s1), hT.same s1, s1.seq hS, hL⟩
    have D1 := hD.same s1
    clear hW hT hS hL hD nL s1
    -- the ring told
    refine ⟨fun σ' H' => ∃ told : V, σ' = [some (.ref d), some wv, some (.ref L), some told, none, none, none, none, none] ∧ ToldF n ts H' told ∧ Fx K Ps sc xs L ((szs n ts).map V.int) wv n ts H' ∧ Well H' d b, ?_, ?_⟩
    · refine ⟨wv, rfl, wv, n, ts, rfl, F1.web, ok, fun W H2 w1 od s2 => ?_, fun W Lt s qs ns r rg ly a b' rows H2 w1 hs e1 mn way exa lns s2 h1 h2 h3 h4 h5 h6 => ?_⟩
      · exact ⟨_, rfl, .inl ⟨rfl, told_none ok.ok w1 od⟩, F1.same s2, D1.same s2⟩
      · exact ⟨_, rfl, told_some ok.ok l8 n6 w1 hs e1 mn way lns h1 h2 h3 h4 h5 h6, F1.same s2, D1.same s2⟩
    clear F1 D1 H1
    rintro σ' H1 ⟨told, rfl, tf, F1, D1⟩
    refine ⟨fun σ' H' => σ' = [some (.ref d), some wv, some (.ref L), some told, none, none, none, none, none] ∧ ToldF n ts H' told ∧ Fx K Ps sc xs L ((szs n ts).map V.int) wv n ts H' ∧ Well H' d b, ?_, ?_⟩
    · refine ⟨told, rfl, rfl, .ref L, rfl, Nat.zero_le _, fun Z nZ => ⟨L, Z, _, rfl, rfl, SqL.of (same_new nZ _ _ F1.lst), SqL.of upd_same, rfl, _, rfl, ?_⟩⟩
      have sZ := same_new (o := .lst []) nZ
      have fin : ToldF n ts (upd H1 Z (.lst [])) told ∧ Fx K Ps sc xs L ((szs n ts).map V.int) wv n ts (upd H1 Z (.lst [])) ∧ Well (upd H1 Z (.lst [])) d b := ⟨tf.kt (Kt.same F1.tab sZ) F1.tab, F1.same sZ, D1.same sZ⟩
      rcases tf with ⟨rfl, e⟩ | ⟨Lt, r, rg, ly, a, b', rs, ms, rfl, _, _, _, _, _, _, h7, _⟩
      · rw [e] at fin ⊢
        exact ⟨rfl, fin⟩
      · obtain ⟨m, ms, e⟩ : ∃ m ms, szs n ts = m :: ms := by
          cases e : szs n ts with
          | nil => rw [e] at h7; cases h7
          | cons m ms => exact ⟨m, ms, rfl⟩
        rw [e] at fin ⊢
        exact ⟨rfl, fin⟩
    clear tf F1 D1 H1
    rintro σ' H1 ⟨rfl, tf, F1, D1⟩
    refine ⟨fun σ' H' => ∃ y4 : Option V, σ' = [some (.ref d), some wv, some (.ref L), some told, y4, none, none, none, none] ∧ Fx K Ps sc xs L ((szs n ts).map V.int) wv n ts H' ∧ Well H' d b, ?_, ?_⟩
    · refine ⟨told, rfl, rfl, _, rfl, ?_⟩
      rcases tf with ⟨rfl, e⟩ | ⟨Lt, r, rg, ly, a, b', rs, ms, rfl, h1, h2, h3, h4, h5, h6, h7, h8, h9, h10⟩
      · exact ⟨_, rfl, F1, D1⟩
      · refine ⟨.ref L, rfl, L, szs n ts, rfl, SqL.of F1.lst, by have := List.length_pos_of_mem h7; omega, fun m hm hle => ?_⟩
        have em : m = (Lt : Int) := Int.le_antisymm (hle _ h7) (h8 m hm)
        subst em
        refine ⟨.ref r, rfl, r, _, 0, .ref rg, rfl, rfl, SqT.of h1, rfl, rg, _, 0, .ref a, rfl, rfl, SqT.of h2, rfl, a, _, rfl, .inr (SqT.of h3), .int (Lt : Nat), rfl, rfl, _, rfl, ?_⟩
        rw [List.length_map, h5, decide_eq_true rfl]
        refine ⟨.ref r, rfl, r, _, 0, .ref rg, rfl, rfl, SqT.of h1, rfl, rg, _, 1, .ref b', rfl, rfl, SqT.of h2, rfl, b', _, rfl, .inr (SqT.of h4), .int (Lt : Nat), rfl, rfl, _, rfl, ?_⟩
        rw [List.length_map, h6, decide_eq_true rfl]
        refine ⟨wv, rfl, .int (Lt : Nat), rfl, .ref r, rfl, r, _, 1, .ref ly, rfl, rfl, SqT.of h1, rfl, wv, n, ts, Lt, .ref ly, rfl, F1.web, ok, h9, F1.tab, fun H2 k2 => ?_⟩
        rw [h10]
        exact ⟨true, true, rfl, rfl, _, rfl, _, rfl, F1.kt k2, k2.well F1.tab D1⟩
    clear tf F1 D1 H1
    rintro σ' H1 ⟨y4, rfl, F1, D1⟩
    refine ⟨6, rfl, by decide, by decide, ?_⟩
    refine for_range (lo := 0) (n := 6) (fun i σ' H' => ∃ y4 y5 y6 y7 y8 : Option V, σ' = [some (.ref d), some wv, some (.ref L), some told, y4, y5, y6, y7, y8] ∧ Fx K Ps sc xs L ((szs n ts).map V.int) wv n ts H' ∧ Well H' d (b + 220 * i)) ⟨_, _, _, _, _, rfl, F1, D1⟩ ?_ ?_
    · clear F1 D1 H1 y4
      rintro i σ' H1 hi ⟨y4, y5, y6, y7, y8, rfl, F1, D1⟩
      refine ⟨.ref d, rfl, .ref d, rfl, wv, rfl, d, _, wv, n, ts, rfl, D1, by omega, F1.web, ok, fun v0 rs0 H2 hlay D2 K2 => ?_⟩
      have F2 := F1.kp ne ld K2 D1
      refine ⟨d, _, n, v0, rs0, rfl, D2, by omega, hlay.rows, by omega, by omega, fun v rs H3 hv D3 K3 => ?_⟩
      have F3 := F2.kp ne ld K3 D2
      refine ⟨8, rfl, by decide, by decide, ?_⟩
      refine for_range (lo := 0) (n := 8) (fun j σ' H' => ∃ y7 y8 : Option V, σ' = [some (.ref d), some wv, some (.ref L), some told, y4, some (.int (0 + (i : Nat))), some v, y7, y8] ∧ LayR H' v n rs ∧ Fx K Ps sc xs L ((szs n ts).map V.int) wv n ts H' ∧ Well H' d (b + 220 * i + 200 + 20)) ⟨_, _, rfl, hv, F3, D3⟩ ?_ ?_
      · clear hv F3 D3 F2 D2 K2 K3 F1 D1 hlay
        rintro j σ' H4 hj ⟨y7, y8, rfl, hv, F4, D4⟩
        refine ⟨wv, rfl, .int (0 + (j : Nat)), rfl, v, rfl, wv, n, ts, _, v, rfl, F4.web, ok, hv.thing, F4.tab, fun H5 k5 => ?_⟩
        have F5 := F4.kt k5
        have D5 := k5.well F4.tab D4
        have hv5 := hv.tk (k5.tk F4.tab)
        generalize hf : layB H4 n ts (0 + (j : Nat)) v = found
        obtain ⟨t2, h2, e2⟩ := kn_bool (K := K) (H := H5) (v := .bl found) trivial
        refine ⟨.bl found, rfl, .bl found, _, t2, _, _, rfl, .ty "bool", h2, e2, _, rfl, ?_⟩
        refine ⟨.bl found, rfl, found, rfl, ?_⟩
        cases found with
        | false => exact ⟨_, _, rfl, hv5, F5, D5⟩
        | true =>
          refine ⟨.ref L, rfl, Nat.zero_le _, fun Z nZ => ⟨L, Z, _, rfl, rfl, SqL.of (same_new nZ _ _ F5.lst), SqL.of upd_same, _, rfl, ?_⟩⟩
          have sZ := same_new (o := .lst []) nZ
          have F6 := F5.same sZ
          have D6 := D5.same sZ
          have hv6 := hv5.tk (Same.tk sZ)
          generalize upd H5 Z (.lst []) = H6 at F6 D6 hv6
          by_cases e : szs n ts = []
          · rw [e] at F6 ⊢
            exact ⟨_, _, rfl, hv6, F6, D6⟩
          · rw [show (!((szs n ts).map V.int).isEmpty) = true from by cases h : szs n ts; exact absurd h e; rfl]
            have hpos := List.length_pos_iff.mpr e
            refine ⟨.ref L, rfl, L, szs n ts, rfl, SqL.of F6.lst, by omega, fun m hm hle => ?_⟩
            obtain ⟨x, k, hk, r⟩ := szs_walk hm
            have := lay_walk hv ok.ok hf r
            refine ⟨.int (0 + (j : Nat)), rfl, _, _, rfl, rfl, _, rfl, ?_⟩
            rw [decide_eq_false (show ¬ m < (0 + (j : Nat) : Int) by omega)]
            exact ⟨_, _, rfl, hv6, F6, D6⟩
      · rintro σ' H4 ⟨y7, y8, rfl, hv, F4, D4⟩
        exact ⟨_, _, _, _, _, rfl, F4, D4.mono (by omega)⟩
    · rintro σ' H2 ⟨y4, y5, y6, y7, y8, rfl, F2, D2⟩
      exact q _ F2.tab F2.scr
end
/-! ### k20: the law -/
def spLaw (K : PySem.W.Frag) (Ps : List Addr) : Sp := fun vs H Q _ => ∃ (a : Addr) (ns : List Int), vs = [.ref a] ∧ SqL K H a (ns.map V.int) ∧ ns.length ≤ 63 ∧ Tabs Ps H ∧ ∀ H', Q (.bl true) H'
section
variable {P : Program} {w : World} {K : PySem.W.Frag} {mg : Str → Option Value} {base : Heap}
set_option maxHeartbeats 2000000 in
theorem ok_law {f : Addr} {fd : FuncData} {Ps : List Addr} (F : Fun K "law" "law" s_law f fd) (M : Free mg) (m_max : mg "max" = none) (m_min : mg "min" = none) (D_l_well : Df P w K mg base 1 "_law_well" ["_law_script", "_law_k"] (spWell K)) (D_l_web : Df P w K mg base 2 "_law_web" ["_law_well_here"] spWeb20) (D_l_right : Df P w K mg base 9 "_law_right" ["_law_well_here", "_law_web_here"] (spRight20 K Ps)) : FnOk P w K mg base CX0 10 f fd ["_law_script"] (spLaw K Ps) := by
  obtain ⟨f_l_well, fd_l_well, G_l_well, g_l_well, k_l_well, b_l_well⟩ := D_l_well
  obtain ⟨f_l_web, fd_l_web, G_l_web, g_l_web, k_l_web, b_l_web⟩ := D_l_web
  obtain ⟨f_l_right, fd_l_right, G_l_right, g_l_right, k_l_right, b_l_right⟩ := D_l_right
  refine F.ok sc_law (fun vs H Q E h => ?_) (fun cdv A outer s H vs Q E hr h => ?_)
  · obtain ⟨sc, ns, rfl, _⟩ := h
    rfl
  · obtain ⟨sc, ns, rfl, hS, few63, hT, q⟩ := h
    refine ⟨_, (pss_cons (ps_for PassesOwn.never rfl (pi_range1 (by rfl) M.range (pa_cons (pe_callB (call_max2 rfl) (by rfl) m_max (by decide +kernel) (pa_cons pe_int (pa_cons (pe_callB (call_min2 rfl) (by rfl) m_min (by decide +kernel) (pa_cons pe_int (pa_cons (pe_callB call_len_seq (by rfl) M.len PySem.boot_len (pa_cons (pv 0) pa_nil)) pa_nil))) pa_nil))) pa_nil)) (pg_name (i := 1) sc_law.nd rfl (.inl rfl))
        (pss_cons (ps_set (i := 2) sc_law.nd rfl (.inl rfl) (pe_call G_l_well (hr.mono (by decide)) (by rfl) g_l_well k_l_well b_l_well .nil pass0 (pa_cons (pv 0) (pa_cons (pv 1) pa_nil))))
        (pss_one (ps_if (pt_not (pt_val (pe_call G_l_right (hr.mono (by decide)) (by rfl) g_l_right k_l_right b_l_right .nil pass0 (pa_cons (pv 2) (pa_cons (pe_call G_l_web (hr.mono (by decide)) (by rfl) g_l_web k_l_web b_l_web .nil pass0 (pa_cons (pv 2) pa_nil)) pa_nil)))))
          (pss_one (ps_ret pe_bl))
          pss_nil))))
      (pss_one (ps_ret pe_bl))), ?_⟩
    refine ⟨.ref sc, rfl, sc, _, rfl, .inl hS, 2, _, rfl, 1, _, rfl, ?_⟩
    obtain ⟨c, ec, c0, c3⟩ : ∃ c : Nat, (if (if (((ns.map V.int).length : Nat) : Int) < 2 then (((ns.map V.int).length : Nat) : Int) else 2) > 1 then (if (((ns.map V.int).length : Nat) : Int) < 2 then (((ns.map V.int).length : Nat) : Int) else 2) else 1) = (c : Int) ∧ 1 ≤ c ∧ c ≤ 2 := by
      generalize ((ns.map V.int).length : Nat) = m
      by_cases h1 : m < 2
      · rw [if_pos (show (m : Int) < 2 by omega)]
        exact ⟨1, by rw [if_neg (show ¬ (m : Int) > 1 by omega)]; rfl, by omega, by omega⟩
      · exact ⟨2, by rw [if_neg (show ¬ (m : Int) < 2 by omega)]; rfl, by omega, by omega⟩
    refine ⟨c, by rw [ec], by omega, by omega, ?_⟩
    rw [Int.toNat_natCast]
    refine for_range (lo := 0) (n := c) (fun i σ' H' => ∃ (y1 y2 : Option V), σ' = [some (.ref sc), y1, y2] ∧ SqL K H' sc (ns.map V.int) ∧ Tabs Ps H') ⟨none, none, rfl, hS, hT⟩ ?_ ?_
    · clear hS hT
      rintro i σ' H0 hi ⟨y1, y2, rfl, hS, hT⟩
      rw [show (0 : Int) + (i : Nat) = i from by omega]
      refine ⟨.ref sc, rfl, .int i, rfl, sc, ns, i, rfl, hS, by omega, fun d H1 s1 nd W1 => ?_⟩
      refine ⟨.ref d, rfl, .ref d, rfl, d, 3, rfl, W1, by decide, fun wv nI ts H2 hW ok n6 l8 W2 K2 => ?_⟩
      obtain ⟨n, rfl⟩ : ∃ n : Nat, nI = n := ⟨nI.toNat, by have := ok.lo; omega⟩
      have ne := (sql_ne hS nd).imp id id
      have hS2 : SqL K H2 sc (ns.map V.int) := sql_well (s1.seq hS) ne K2
      have hT2 : Tabs Ps H2 := (hT.same s1).kp K2 W1
      refine ⟨d, 3 + 100, wv, n, ts, sc, _, rfl, W2, by decide, hW, ok, by omega, l8, hT2, hS2, ne, fun H3 t3 h3 => ⟨_, rfl, ?_⟩⟩
      exact ⟨_, _, rfl, h3, t3⟩
    · rintro σ' H0 ⟨y1, y2, rfl, _, _⟩
      exact q _
end
/-! ### the end of a law whose defs hold generator expressions: their tables are empty behind the top -/
theorem walk_tabs {l : PySem.W.OpenLaw} {n k : Nat} {q : Program} {loose : List Str} {XP : (Str → Option Value) → Heap → Prop} {YP : World → Heap → Prop} {d : DefRec} {K : Params → PySem.W.Frag} {x : Str}
    (hn : l.most = some n) (hn2 : n ≤ sizeLine) (hdf : d.params.defaults = []) (hr : Room k callerA) (hY : ∀ (w : World) (h : Heap), YP w h → (K w.params).In h)
    (F : ∀ (w : World) (mg : Str → Option Value) (fa : Addr) (h : Heap), (K w.params).In h → h.Ns mainGlobals mg → mg d.name = some (.ref fa) →
      (∀ (y : Str) (fy : Addr), ((recsOf q).any fun e => e.name == y) = true → mg y = some (.ref fy) → LamX.OwnTab (K w.params) fy h) → LamX.LawAtS l w (K w.params) CX0 k n x mg fa h) :
    PySem.W.WalkO q loose XP YP l.row.toRowW d [] (fun f vs => PySem.call f vs) := by
  refine Att.attach_callB hn hdf fun w s₀ s₁ mg mb fa o pm cd doc a vs ns G Y ho hd hcd hmg hobj hints hlen hbits hg => ?_
  have KX := hY w _ Y
  have tabs : ∀ (y : Str) (fy : Addr), ((recsOf q).any fun e => e.name == y) = true → mg y = some (.ref fy) → LamX.OwnTab (K w.params) fy s₁.heap := fun y fy hy hm c P o1 fd1 e dd vs1 sl k1 k2 k3 k4 k5 => by
    obtain ⟨dL, hmem, hnm⟩ := List.any_eq_true.mp hy
    have hnm : dL.name = y := beq_iff_eq.mp hnm
    obtain ⟨a', o', fd', c', P', h1, h2, h3, h4, h5, h6⟩ := G.T.tab dL hmem
    rw [hnm, hm] at h1
    cases h1
    rw [KX _ _ k1] at h2
    cases h2
    rw [k2] at h3
    cases h3
    rw [k3] at h4
    cases h4
    obtain ⟨⟨oc, vc, e1, _, e3, e4⟩, hP⟩ := h6
    rw [KX _ _ k4] at e1
    cases e1
    cases e3
    rw [k5] at e4
    cases e4
    exact hP
  obtain ⟨fd, cs, sp, hT, nT, C, hb, hsp, hF⟩ := F w mg fa _ KX G.T.g hmg tabs
  exact LamX.law_callTs KX G.T.g G.T.b G.T.builtins G.T.nolimit hg hT nT C G.T.bmain hobj hints (Nat.le_trans hlen hn2) hr hF hb (fun H hH hS => hsp H a ns hlen hbits hH hS) fun H e s' z => z
/-- where a def stands, and where its code object does -/
structure At (K : PySem.W.Frag) (x : Str) (st : Stmt) (f : Addr) : Prop where
  ns : PySem.W.nsIn K mainGlobals x = some (some (.ref f))
  ex : ∃ (oc : Value) (od : Option Addr) (kV doc pm : Value) (an : Option Addr) (cdv ct : Value) (osl : Array (Option Value)),
    K.lookup f = some ⟨oc, od, .func (PySem.W.fnOf x x (defArgs st) (defBody st) (defScope st) .none kV doc pm an cdv ct), osl⟩ ∧ PySem.W.codeIn K cdv x = true
  kp : PySem.W.keepIn K (.ref f) = true
theorem at_mk {K : PySem.W.Frag} {x : Str} {st : Stmt} {f : Addr} {oc : Value} {od an : Option Addr} {osl : Array (Option Value)} {kV doc pm cdv ct : Value} (a : PySem.W.nsIn K mainGlobals x = some (some (.ref f)))
    (l : K.lookup f = some ⟨oc, od, .func (PySem.W.fnOf x x (defArgs st) (defBody st) (defScope st) .none kV doc pm an cdv ct), osl⟩) (c : PySem.W.codeIn K cdv x = true) (k : PySem.W.keepIn K (.ref f) = true) : At K x st f := ⟨a, ⟨oc, od, kV, doc, pm, an, cdv, ct, osl, l, c⟩, k⟩
theorem At.fn {K : PySem.W.Frag} {x : Str} {st : Stmt} {f : Addr} (h : At K x st f) : ∃ fd, Fun K x x st f fd := by
  obtain ⟨oc, od, kV, doc, pm, an, cdv, ct, osl, l, c⟩ := h.ex
  exact ⟨_, fun_mk l c h.kp⟩
structure AtC (K : PySem.W.Frag) (x : Str) (st : Stmt) (f c Pt : Addr) : Prop where
  ns : PySem.W.nsIn K mainGlobals x = some (some (.ref f))
  ex : ∃ (oc : Value) (od : Option Addr) (kV doc pm : Value) (an : Option Addr) (ct : Value) (osl : Array (Option Value)),
    K.lookup f = some ⟨oc, od, .func (PySem.W.fnOf x x (defArgs st) (defBody st) (defScope st) .none kV doc pm an (.ref c) ct), osl⟩ ∧ PySem.W.codeIn K (.ref c) x = true
  kp : PySem.W.keepIn K (.ref f) = true
  co : ∃ (dd : Option Addr) (vs : Array Value) (sl : Array (Option Value)) (file : Str) (tf : Tok) (flags : Int) (tg : Tok) (inF : Bool) (text : Int) (tt : Tok), K.lookup c = some ⟨.type "code", dd, .fields vs, sl⟩ ∧ vs[11]? = some (.ref Pt) ∧ vs.getD 11 .none = .ref Pt ∧ vs.getD 18 .none = .str file tf ∧
    vs.getD 7 .none = .int flags tg ∧ vs.getD 9 .none = .bool inF ∧ vs.getD 10 .none = .int text tt ∧ c ≠ Pt
  nP : K.lookup Pt = none
theorem atC_mk {K : PySem.W.Frag} {x : Str} {st : Stmt} {f c Pt : Addr} {oc : Value} {od an dd : Option Addr} {osl sl : Array (Option Value)} {kV doc pm ct : Value} {vs : Array Value} {file : Str} {tf tg tt : Tok} {flags text : Int} {inF : Bool} (a : PySem.W.nsIn K mainGlobals x = some (some (.ref f)))
    (l : K.lookup f = some ⟨oc, od, .func (PySem.W.fnOf x x (defArgs st) (defBody st) (defScope st) .none kV doc pm an (.ref c) ct), osl⟩) (cc : PySem.W.codeIn K (.ref c) x = true) (k : PySem.W.keepIn K (.ref f) = true)
    (lc : K.lookup c = some ⟨.type "code", dd, .fields vs, sl⟩) (v11 : vs[11]? = some (.ref Pt)) (w11 : vs.getD 11 .none = .ref Pt) (v18 : vs.getD 18 .none = .str file tf) (v7 : vs.getD 7 .none = .int flags tg) (v9 : vs.getD 9 .none = .bool inF) (v10 : vs.getD 10 .none = .int text tt) (ne : c ≠ Pt)
    (nP : K.lookup Pt = none) : AtC K x st f c Pt := ⟨a, ⟨oc, od, kV, doc, pm, an, ct, osl, l, cc⟩, k, ⟨dd, vs, sl, file, tf, flags, tg, inF, text, tt, lc, v11, w11, v18, v7, v9, v10, ne⟩, nP⟩
theorem AtC.fn {K : PySem.W.Frag} {x : Str} {st : Stmt} {f c Pt : Addr} (h : AtC K x st f c Pt) : ∃ fd, FunC K x x st f fd c := by
  obtain ⟨oc, od, kV, doc, pm, an, ct, osl, l, cc⟩ := h.ex
  exact ⟨_, ⟨oc, od, kV, doc, pm, an, ct, osl, rfl, l, cc⟩, h.kp⟩
theorem AtC.hd {K : PySem.W.Frag} {h : Heap} {x : Str} {st : Stmt} {f c Pt : Addr} (a : AtC K x st f c Pt) (X : K.In h) : PySem.W.CodeHd h c Pt := by
  obtain ⟨dd, vs, sl, file, tf, flags, tg, inF, text, tt, lc, v11, w11, v18, v7, v9, v10, ne⟩ := a.co
  exact ⟨_, vs, file, tf, flags, tg, inF, text, tt, X _ _ lc, rfl, rfl, v11, w11, v18, v7, v9, v10, ne⟩
theorem AtC.tab {K : PySem.W.Frag} {h : Heap} {x : Str} {st : Stmt} {f c Pt : Addr} (a : AtC K x st f c Pt) (o : LamX.OwnTab K f h) : h.get? Pt = some { cls := .none, data := .fields #[] } := by
  obtain ⟨oc, od, kV, doc, pm, an, ct, osl, l, cc⟩ := a.ex
  obtain ⟨dd, vs, sl, file, tf, flags, tg, inF, text, tt, lc, v11, w11, v18, v7, v9, v10, ne⟩ := a.co
  exact o c Pt _ _ _ _ _ _ l rfl rfl lc v11
section
variable {P : Program} {w : World} {K : PySem.W.Frag} {mg : Str → Option Value} {base : Heap}
theorem Df.of {x : Str} {st : Stmt} {f : Addr} {fd : FuncData} {k : Nat} {ps : List Str} {sp : Sp} (g : mg x = some (.ref f)) (F : Fun K x x st f fd) (G : FnOk P w K mg base CX0 k f fd ps sp)
    (h : ∀ (kV doc pm : Value) (an : Option Addr) (cdv ct : Value) (us : List Value), us.length = ps.length → bindArgs (PySem.W.fnOf x x (defArgs st) (defBody st) (defScope st) .none kV doc pm an cdv ct) ⟨us, []⟩ = pure (ps.zip us)) : Df P w K mg base k x ps sp :=
  ⟨f, fd, G, g, F.kp, F.binds h⟩
end
/-! ### what the top has written -/
section
variable {P : Program} {w : World} {K : PySem.W.Frag} {mg : Str → Option Value} {base : Heap}
set_option maxHeartbeats 0 in
theorem law_at {l : PySem.W.OpenLaw} {w : World} {K : PySem.W.Frag} {h : Heap} {mg : Str → Option Value} {fa f0 f1 f2 f3 f4 f5 f6 f7 f8 f9 f10 f11 f12 f13 f14 f15 f16 f17 f18 f19 f20 f21 f22 f23 f24 f25 c10 P10 c13 P13 c14 P14 : Addr} (X : K.In h) (G : h.Ns mainGlobals mg) (hfa : mg "law" = some (.ref fa))
    (t10 : ∀ (fy : Addr), mg "is_row" = some (.ref fy) → LamX.OwnTab K fy h)
    (t13 : ∀ (fy : Addr), mg "row_holds" = some (.ref fy) → LamX.OwnTab K fy h)
    (t14 : ∀ (fy : Addr), mg "layers_hold" = some (.ref fy) → LamX.OwnTab K fy h)
    (a0 : At K "ties_around" s_ties_around f0)
    (a1 : At K "walk_from" s_walk_from f1)
    (a2 : At K "way_to" s_way_to f2)
    (a3 : At K "doubled" s_doubled f3)
    (a4 : At K "halved" s_halved f4)
    (a5 : At K "row_of" s_row_of f5)
    (a6 : At K "shortest_odd" s_shortest_odd f6)
    (a7 : At K "is_whole" s_is_whole f7)
    (a8 : At K "is_whole_from" s_is_whole_from f8)
    (a9 : At K "is_tuple_of" s_is_tuple_of f9)
    (a10 : AtC K "is_row" s_is_row f10 c10 P10)
    (a11 : At K "are_near" s_are_near f11)
    (a12 : At K "near_along" s_near_along f12)
    (a13 : AtC K "row_holds" s_row_holds f13 c13 P13)
    (a14 : AtC K "layers_hold" s_layers_hold f14 c14 P14)
    (a15 : At K "_law_well" s_l_well f15)
    (a16 : At K "_law_draw" s_l_draw f16)
    (a17 : At K "_law_web" s_l_web f17)
    (a18 : At K "_law_is_round" s_l_is_round f18)
    (a19 : At K "_law_odd_sizes" s_l_odd_sizes f19)
    (a20 : At K "_law_far" s_l_far f20)
    (a21 : At K "_law_row" s_l_row f21)
    (a22 : At K "_law_layers" s_l_layers f22)
    (a23 : At K "_law_bent" s_l_bent f23)
    (a24 : At K "_law_right" s_l_right f24)
    (a25 : At K "law" s_law f25)
    (z0 : PySem.W.nsIn K mainGlobals "len" = some none)
    (z1 : PySem.W.nsIn K mainGlobals "int" = some none)
    (z2 : PySem.W.nsIn K mainGlobals "bool" = some none)
    (z3 : PySem.W.nsIn K mainGlobals "str" = some none)
    (z4 : PySem.W.nsIn K mainGlobals "list" = some none)
    (z5 : PySem.W.nsIn K mainGlobals "tuple" = some none)
    (z6 : PySem.W.nsIn K mainGlobals "range" = some none)
    (z7 : PySem.W.nsIn K mainGlobals "isinstance" = some none)
    (z8 : PySem.W.nsIn K mainGlobals "sum" = some none)
    (z9 : PySem.W.nsIn K mainGlobals "abs" = some none)
    (z10 : PySem.W.nsIn K mainGlobals "all" = some none)
    (z11 : PySem.W.nsIn K mainGlobals "enumerate" = some none)
    (z12 : PySem.W.nsIn K mainGlobals "max" = some none)
    (z13 : PySem.W.nsIn K mainGlobals "min" = some none)
     :
    LamX.LawAtS l w K CX0 10 63 "_law_script" mg fa h := by
  have efa := hfa.symm.trans (PySem.W.mg_of X G a25.ns)
  cases efa
  have M : Free mg := ⟨PySem.W.mg_none_of X G z0, PySem.W.mg_none_of X G z1, PySem.W.mg_none_of X G z2, PySem.W.mg_none_of X G z3, PySem.W.mg_none_of X G z4, PySem.W.mg_none_of X G z5, PySem.W.mg_none_of X G z6, PySem.W.mg_none_of X G z7, PySem.W.mg_none_of X G z8⟩
  have m_abs := PySem.W.mg_none_of X G z9
  have m_all := PySem.W.mg_none_of X G z10
  have m_enumerate := PySem.W.mg_none_of X G z11
  have m_max := PySem.W.mg_none_of X G z12
  have m_min := PySem.W.mg_none_of X G z13
  obtain ⟨d0, F0⟩ := a0.fn
  obtain ⟨d1, F1⟩ := a1.fn
  obtain ⟨d2, F2⟩ := a2.fn
  obtain ⟨d3, F3⟩ := a3.fn
  obtain ⟨d4, F4⟩ := a4.fn
  obtain ⟨d5, F5⟩ := a5.fn
  obtain ⟨d6, F6⟩ := a6.fn
  obtain ⟨d7, F7⟩ := a7.fn
  obtain ⟨d8, F8⟩ := a8.fn
  obtain ⟨d9, F9⟩ := a9.fn
  obtain ⟨d10, F10⟩ := a10.fn
  obtain ⟨d11, F11⟩ := a11.fn
  obtain ⟨d12, F12⟩ := a12.fn
  obtain ⟨d13, F13⟩ := a13.fn
  obtain ⟨d14, F14⟩ := a14.fn
  obtain ⟨d15, F15⟩ := a15.fn
  obtain ⟨d16, F16⟩ := a16.fn
  obtain ⟨d17, F17⟩ := a17.fn
  obtain ⟨d18, F18⟩ := a18.fn
  obtain ⟨d19, F19⟩ := a19.fn
  obtain ⟨d20, F20⟩ := a20.fn
  obtain ⟨d21, F21⟩ := a21.fn
  obtain ⟨d22, F22⟩ := a22.fn
  obtain ⟨d23, F23⟩ := a23.fn
  obtain ⟨d24, F24⟩ := a24.fn
  obtain ⟨d25, F25⟩ := a25.fn
  have g0 := PySem.W.mg_of X G a0.ns
  have g1 := PySem.W.mg_of X G a1.ns
  have g2 := PySem.W.mg_of X G a2.ns
  have g3 := PySem.W.mg_of X G a3.ns
  have g4 := PySem.W.mg_of X G a4.ns
  have g5 := PySem.W.mg_of X G a5.ns
  have g6 := PySem.W.mg_of X G a6.ns
  have g7 := PySem.W.mg_of X G a7.ns
  have g8 := PySem.W.mg_of X G a8.ns
  have g9 := PySem.W.mg_of X G a9.ns
  have g10 := PySem.W.mg_of X G a10.ns
  have g11 := PySem.W.mg_of X G a11.ns
  have g12 := PySem.W.mg_of X G a12.ns
  have g13 := PySem.W.mg_of X G a13.ns
  have g14 := PySem.W.mg_of X G a14.ns
  have g15 := PySem.W.mg_of X G a15.ns
  have g16 := PySem.W.mg_of X G a16.ns
  have g17 := PySem.W.mg_of X G a17.ns
  have g18 := PySem.W.mg_of X G a18.ns
  have g19 := PySem.W.mg_of X G a19.ns
  have g20 := PySem.W.mg_of X G a20.ns
  have g21 := PySem.W.mg_of X G a21.ns
  have g22 := PySem.W.mg_of X G a22.ns
  have g23 := PySem.W.mg_of X G a23.ns
  have g24 := PySem.W.mg_of X G a24.ns
  have hb0 : ∀ (s : Shared) (u : Value), BindsTo s d25 ⟨[u], []⟩ [("_law_script", u)] := by
    obtain ⟨oc, od, kV, doc, pm, an, cdv, ct, osl, rfl, _⟩ := F25.ex
    exact fun s u => .of_eq rfl
  refine ⟨d25, [(c10, P10), (c13, P13), (c14, P14)], (spLaw K [P10, P13, P14]), (List.forall_mem_cons.mpr ⟨a10.tab (t10 _ g10), (List.forall_mem_cons.mpr ⟨a13.tab (t13 _ g13), (List.forall_mem_cons.mpr ⟨a14.tab (t14 _ g14), (fun p hp => by simp at hp)⟩)⟩)⟩), (List.forall_mem_cons.mpr ⟨a10.nP, (List.forall_mem_cons.mpr ⟨a13.nP, (List.forall_mem_cons.mpr ⟨a14.nP, (fun p hp => by simp at hp)⟩)⟩)⟩), (List.forall_mem_cons.mpr ⟨a10.hd X, (List.forall_mem_cons.mpr ⟨a13.hd X, (List.forall_mem_cons.mpr ⟨a14.hd X, (fun p hp => by simp at hp)⟩)⟩)⟩), hb0, fun H a ns hl _ hT hS => ⟨a, ns, rfl, hS, hl, (List.forall_mem_cons.mpr ⟨⟨#[], hT (c10, P10) (by simp), by trivial⟩, (List.forall_mem_cons.mpr ⟨⟨#[], hT (c13, P13) (by simp), by trivial⟩, (List.forall_mem_cons.mpr ⟨⟨#[], hT (c14, P14) (by simp), by trivial⟩, (fun p hp => by simp at hp)⟩)⟩)⟩), fun _ => rfl⟩, fun base KB GB TB => ?_⟩
  have tb10 := TB (c10, P10) (by simp)
  have tb13 := TB (c13, P13) (by simp)
  have tb14 := TB (c14, P14) (by simp)
  have D0 : Df l.prog w K mg base 1 "ties_around" ["web", "numbers"] spAround := .of g0 F0 (ok_ties_around F0 ) fun _ _ _ _ _ _ us hl => match us, hl with | [_, _], _ => rfl
  have D1 : Df l.prog w K mg base 1 "walk_from" ["start", "around"] spWalkFrom := .of g1 F1 (ok_walk_from F1 ) fun _ _ _ _ _ _ us hl => match us, hl with | [_, _], _ => rfl
  have D2 : Df l.prog w K mg base 1 "way_to" ["end", "walk"] spWayTo := .of g2 F2 (ok_way_to F2 M) fun _ _ _ _ _ _ us hl => match us, hl with | [_, _], _ => rfl
  have D3 : Df l.prog w K mg base 1 "doubled" ["web"] spDoubled := .of g3 F3 (ok_doubled F3 M) fun _ _ _ _ _ _ us hl => match us, hl with | [_], _ => rfl
  have D4 : Df l.prog w K mg base 1 "halved" ["way"] spHalved := .of g4 F4 (ok_halved F4 M) fun _ _ _ _ _ _ us hl => match us, hl with | [_], _ => rfl
  have D5 : Df l.prog w K mg base 1 "row_of" ["many", "walk", "far"] spRowOf := .of g5 F5 (ok_row_of F5 M) fun _ _ _ _ _ _ us hl => match us, hl with | [_, _, _], _ => rfl
  have D6 : Df l.prog w K mg base 2 "shortest_odd" ["web"] spShort := .of g6 F6 (ok_shortest_odd F6 M m_enumerate m_min D3 D0 D1 D2 D4 D5) fun _ _ _ _ _ _ us hl => match us, hl with | [_], _ => rfl
  have D7 : Df l.prog w K mg base 1 "is_whole" ["thing"] spWhole := .of g7 F7 (ok_is_whole F7 M) fun _ _ _ _ _ _ us hl => match us, hl with | [_], _ => rfl
  have D8 : Df l.prog w K mg base 2 "is_whole_from" ["low", "thing"] spFrom := .of g8 F8 (ok_is_whole_from F8 D7) fun _ _ _ _ _ _ us hl => match us, hl with | [_, _], _ => rfl
  have D9 : Df l.prog w K mg base 1 "is_tuple_of" ["length", "thing"] spTupleOf := .of g9 F9 (ok_is_tuple_of F9 M) fun _ _ _ _ _ _ us hl => match us, hl with | [_, _], _ => rfl
  have D10 : Df l.prog w K mg base 4 "is_row" ["many", "thing"] (spIsRow [P10, P13, P14]) := .of g10 F10.fn (ok_is_row F10 ⟨tb10.code, tb10.bm, tb10.gP⟩ (show P10 ∈ [P10, P13, P14] by simp) m_all D8 D9) fun _ _ _ _ _ _ us hl => match us, hl with | [_, _], _ => rfl
  have D11 : Df l.prog w K mg base 1 "are_near" ["one", "other"] spNear := .of g11 F11 (ok_are_near F11 m_abs) fun _ _ _ _ _ _ us hl => match us, hl with | [_, _], _ => rfl
  have D12 : Df l.prog w K mg base 2 "near_along" ["row", "tie"] spAlong := .of g12 F12 (ok_near_along F12 D11) fun _ _ _ _ _ _ us hl => match us, hl with | [_, _], _ => rfl
  have D13 : Df l.prog w K mg base 6 "row_holds" ["web", "number", "start", "thing"] (spRowHolds [P10, P13, P14]) := .of g13 F13.fn (ok_row_holds F13 ⟨tb13.code, tb13.bm, tb13.gP⟩ (show P13 ∈ [P10, P13, P14] by simp) m_all D10 D12) fun _ _ _ _ _ _ us hl => match us, hl with | [_, _, _, _], _ => rfl
  have D14 : Df l.prog w K mg base 8 "layers_hold" ["web", "number", "thing"] (spLayersHold [P10, P13, P14]) := .of g14 F14.fn (ok_layers_hold F14 ⟨tb14.code, tb14.bm, tb14.gP⟩ (show P14 ∈ [P10, P13, P14] by simp) m_all m_enumerate D9 D13) fun _ _ _ _ _ _ us hl => match us, hl with | [_, _, _], _ => rfl
  have D15 : Df l.prog w K mg base 1 "_law_well" ["_law_script", "_law_k"] (spWell K) := .of g15 F15 (ok_l_well F15 M m_abs) fun _ _ _ _ _ _ us hl => match us, hl with | [_, _], _ => rfl
  have D16 : Df l.prog w K mg base 1 "_law_draw" ["_law_well_here", "_law_many"] spDraw := .of g16 F16 (ok_l_draw F16 ) fun _ _ _ _ _ _ us hl => match us, hl with | [_, _], _ => rfl
  have D17 : Df l.prog w K mg base 2 "_law_web" ["_law_well_here"] spWeb20 := .of g17 F17 (ok_l_web F17 M D16) fun _ _ _ _ _ _ us hl => match us, hl with | [_], _ => rfl
  have D18 : Df l.prog w K mg base 1 "_law_is_round" ["_law_some"] spRound := .of g18 F18 (ok_l_is_round F18 M) fun _ _ _ _ _ _ us hl => match us, hl with | [_], _ => rfl
  have D19 : Df l.prog w K mg base 2 "_law_odd_sizes" ["_law_web_here"] spSizes := .of g19 F19 (ok_l_odd_sizes F19 M D18) fun _ _ _ _ _ _ us hl => match us, hl with | [_], _ => rfl
  have D20 : Df l.prog w K mg base 1 "_law_far" ["_law_web_here", "_law_place"] spFar := .of g20 F20 (ok_l_far F20 M) fun _ _ _ _ _ _ us hl => match us, hl with | [_, _], _ => rfl
  have D21 : Df l.prog w K mg base 2 "_law_row" ["_law_web_here", "_law_place", "_law_beyond", "_law_cap", "_law_half"] spRow15 := .of g21 F21 (ok_l_row F21 M m_min D20) fun _ _ _ _ _ _ us hl => match us, hl with | [_, _, _, _, _], _ => rfl
  have D22 : Df l.prog w K mg base 3 "_law_layers" ["_law_well_here", "_law_web_here"] spLayers := .of g22 F22 (ok_l_layers F22 M D16 D21) fun _ _ _ _ _ _ us hl => match us, hl with | [_, _], _ => rfl
  have D23 : Df l.prog w K mg base 2 "_law_bent" ["_law_well_here", "_law_layers_here"] spBent20 := .of g23 F23 (ok_l_bent F23 M m_max D16) fun _ _ _ _ _ _ us hl => match us, hl with | [_, _], _ => rfl
  have D24 : Df l.prog w K mg base 9 "_law_right" ["_law_well_here", "_law_web_here"] (spRight20 K [P10, P13, P14]) := .of g24 F24 (ok_l_right F24 M m_min D19 D6 D14 D22 D23) fun _ _ _ _ _ _ us hl => match us, hl with | [_, _], _ => rfl
  exact ok_law F25 M m_max m_min D15 D17 D24
end
end FF
open PySem PySem.W PyProof.Rows
set_option maxRecDepth 100000 in
set_option maxHeartbeats 0 in
theorem PySem.Challenge.cw_friendfoe_k20_whole_no_ring_is_shorter_holds : PySem.Challenge.rw_friendfoe_k20_whole_no_ring_is_shorter.Holds := by
  w_on; o_law; k_head; (case hw => w_witness2)
  k_fill
  refine FF.walk_tabs (l := PySem.Challenge.rw_friendfoe_k20_whole_no_ring_is_shorter) (n := 63) (k := 10) (x := "_law_script") rfl (by decide) rfl ⟨rfl, by decide, by decide⟩ (fun w h Y => PySem.W.kIn_of Y) ?F
  case F =>
    intro w mg fa h KX G hmg tabs
    refine' FF.law_at KX G hmg (fun fy => tabs "is_row" fy ?r10) (fun fy => tabs "row_holds" fy ?r13) (fun fy => tabs "layers_hold" fy ?r14) ?a0 ?a1 ?a2 ?a3 ?a4 ?a5 ?a6 ?a7 ?a8 ?a9 ?a10 ?a11 ?a12 ?a13 ?a14 ?a15 ?a16 ?a17 ?a18 ?a19 ?a20 ?a21 ?a22 ?a23 ?a24 ?a25 ?z0 ?z1 ?z2 ?z3 ?z4 ?z5 ?z6 ?z7 ?z8 ?z9 ?z10 ?z11 ?z12 ?z13 
    (case r10 => rfl)
    (case r13 => rfl)
    (case r14 => rfl)
    (case a0 => refine' FF.at_mk ?p1 ?p2 ?p3 ?p4; (case p1 => k_is); (case p2 => k_is); (case p3 => k_is); (case p4 => k_is))
    (case a1 => refine' FF.at_mk ?p1 ?p2 ?p3 ?p4; (case p1 => k_is); (case p2 => k_is); (case p3 => k_is); (case p4 => k_is))
    (case a2 => refine' FF.at_mk ?p1 ?p2 ?p3 ?p4; (case p1 => k_is); (case p2 => k_is); (case p3 => k_is); (case p4 => k_is))
    (case a3 => refine' FF.at_mk ?p1 ?p2 ?p3 ?p4; (case p1 => k_is); (case p2 => k_is); (case p3 => k_is); (case p4 => k_is))
    (case a4 => refine' FF.at_mk ?p1 ?p2 ?p3 ?p4; (case p1 => k_is); (case p2 => k_is); (case p3 => k_is); (case p4 => k_is))
    (case a5 => refine' FF.at_mk ?p1 ?p2 ?p3 ?p4; (case p1 => k_is); (case p2 => k_is); (case p3 => k_is); (case p4 => k_is))
    (case a6 => refine' FF.at_mk ?p1 ?p2 ?p3 ?p4; (case p1 => k_is); (case p2 => k_is); (case p3 => k_is); (case p4 => k_is))
    (case a7 => refine' FF.at_mk ?p1 ?p2 ?p3 ?p4; (case p1 => k_is); (case p2 => k_is); (case p3 => k_is); (case p4 => k_is))
    (case a8 => refine' FF.at_mk ?p1 ?p2 ?p3 ?p4; (case p1 => k_is); (case p2 => k_is); (case p3 => k_is); (case p4 => k_is))
    (case a9 => refine' FF.at_mk ?p1 ?p2 ?p3 ?p4; (case p1 => k_is); (case p2 => k_is); (case p3 => k_is); (case p4 => k_is))
    (case a10 => refine' FF.atC_mk ?p1 ?p2 ?p3 ?p4 ?p5 ?p6 ?p7 ?p8 ?p9 ?p10 ?p11 ?p12 ?p13; (case p1 => k_is); (case p2 => k_is); (case p3 => k_is); (case p4 => k_is); (case p5 => k_is); (case p6 => rfl); (case p7 => rfl); (case p8 => rfl); (case p9 => rfl); (case p10 => rfl); (case p11 => rfl); (case p12 => decide); (case p13 => rfl))
    (case a11 => refine' FF.at_mk ?p1 ?p2 ?p3 ?p4; (case p1 => k_is); (case p2 => k_is); (case p3 => k_is); (case p4 => k_is))
    (case a12 => refine' FF.at_mk ?p1 ?p2 ?p3 ?p4; (case p1 => k_is); (case p2 => k_is); (case p3 => k_is); (case p4 => k_is))
    (case a13 => refine' FF.atC_mk ?p1 ?p2 ?p3 ?p4 ?p5 ?p6 ?p7 ?p8 ?p9 ?p10 ?p11 ?p12 ?p13; (case p1 => k_is); (case p2 => k_is); (case p3 => k_is); (case p4 => k_is); (case p5 => k_is); (case p6 => rfl); (case p7 => rfl); (case p8 => rfl); (case p9 => rfl); (case p10 => rfl); (case p11 => rfl); (case p12 => decide); (case p13 => rfl))
    (case a14 => refine' FF.atC_mk ?p1 ?p2 ?p3 ?p4 ?p5 ?p6 ?p7 ?p8 ?p9 ?p10 ?p11 ?p12 ?p13; (case p1 => k_is); (case p2 => k_is); (case p3 => k_is); (case p4 => k_is); (case p5 => k_is); (case p6 => rfl); (case p7 => rfl); (case p8 => rfl); (case p9 => rfl); (case p10 => rfl); (case p11 => rfl); (case p12 => decide); (case p13 => rfl))
    (case a15 => refine' FF.at_mk ?p1 ?p2 ?p3 ?p4; (case p1 => k_is); (case p2 => k_is); (case p3 => k_is); (case p4 => k_is))
    (case a16 => refine' FF.at_mk ?p1 ?p2 ?p3 ?p4; (case p1 => k_is); (case p2 => k_is); (case p3 => k_is); (case p4 => k_is))
    (case a17 => refine' FF.at_mk ?p1 ?p2 ?p3 ?p4; (case p1 => k_is); (case p2 => k_is); (case p3 => k_is); (case p4 => k_is))
    (case a18 => refine' FF.at_mk ?p1 ?p2 ?p3 ?p4; (case p1 => k_is); (case p2 => k_is); (case p3 => k_is); (case p4 => k_is))
    (case a19 => refine' FF.at_mk ?p1 ?p2 ?p3 ?p4; (case p1 => k_is); (case p2 => k_is); (case p3 => k_is); (case p4 => k_is))
    (case a20 => refine' FF.at_mk ?p1 ?p2 ?p3 ?p4; (case p1 => k_is); (case p2 => k_is); (case p3 => k_is); (case p4 => k_is))
    (case a21 => refine' FF.at_mk ?p1 ?p2 ?p3 ?p4; (case p1 => k_is); (case p2 => k_is); (case p3 => k_is); (case p4 => k_is))
    (case a22 => refine' FF.at_mk ?p1 ?p2 ?p3 ?p4; (case p1 => k_is); (case p2 => k_is); (case p3 => k_is); (case p4 => k_is))
    (case a23 => refine' FF.at_mk ?p1 ?p2 ?p3 ?p4; (case p1 => k_is); (case p2 => k_is); (case p3 => k_is); (case p4 => k_is))
    (case a24 => refine' FF.at_mk ?p1 ?p2 ?p3 ?p4; (case p1 => k_is); (case p2 => k_is); (case p3 => k_is); (case p4 => k_is))
    (case a25 => refine' FF.at_mk ?p1 ?p2 ?p3 ?p4; (case p1 => k_is); (case p2 => k_is); (case p3 => k_is); (case p4 => k_is))
    (case z0 => k_is)
    (case z1 => k_is)
    (case z2 => k_is)
    (case z3 => k_is)
    (case z4 => k_is)
    (case z5 => k_is)
    (case z6 => k_is)
    (case z7 => k_is)
    (case z8 => k_is)
    (case z9 => k_is)
    (case z10 => k_is)
    (case z11 => k_is)
    (case z12 => k_is)
    (case z13 => k_is)
