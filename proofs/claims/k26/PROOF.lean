import PyProof.Rows.All
import Wide.All
import OpenK.AllK
import Wide.FinOn
import HandS.ForMost
import HandS.IsInst
import HandS.TupAny
import HandS.TupLe
import HandS.Wide
import HandS.Style
import HandS.SortInts
import HandS.Conv
import HandS.More
import HandS.EndTab
import HandS.EndOwn
import HandS.AnyAll
import HandS.GenOver
import HandS.Evl
import HandS.Walk
import HandS.NoneIn
import HandS.Zip
import HandS.DictComp
import HandS.SetFor
import KE.GoesEnum
import HandS.TupMul
import HandS.Strs
import KE.DataMinMax
import HandS.ForExc
import HandS.ExcIs
import HandS.SetKeys
import KE.DatumOrd
import HandS.Deep
import KE.KTupSum
import PySem.Challenge.RW_friendfoe_k26_turned_or_parted
set_option Elab.async false
set_option linter.all false
set_option maxRecDepth 100000
namespace FF
open PySem PySem.Spec PyProof.Rows L2
/-! ### heaps: what is kept -/
/-- all that is tracked, but at d and c, is as it was -/
def Kp (d c : Addr) (H H' : Hp) : Prop := ∀ b o, b ≠ d → b ≠ c → H b = some o → H' b = some o
theorem Kp.refl {d c : Addr} {H : Hp} : Kp d c H H := fun _ _ _ _ h => h
theorem Kp.trans {d c : Addr} {H H1 H2 : Hp} (a : Kp d c H H1) (b : Kp d c H1 H2) : Kp d c H H2 := fun x o h1 h2 h => b x o h1 h2 (a x o h1 h2 h)
theorem Kp.at_d {d c : Addr} {H : Hp} {o : HO} : Kp d c H (upd H d o) := fun b u h1 _ h => by rw [upd_ne h1]; exact h
theorem Kp.at_c {d c : Addr} {H : Hp} {o : HO} : Kp d c H (upd H c o) := fun b u _ h2 h => by rw [upd_ne h2]; exact h
theorem Kp.new {d c p : Addr} {H : Hp} {o : HO} (hp : H p = none) : Kp d c H (upd H p o) := fun b u _ _ h => by rw [upd_ne (ne_of_none h hp)]; exact h
theorem same_new {H : Hp} {p : Addr} {o : HO} (h : H p = none) : Same H (upd H p o) := fun b x e => by
  rw [upd_ne (ne_of_none e h)]
  exact e
theorem Same.kp {d c : Addr} {H H' : Hp} (s : Same H H') : Kp d c H H' := fun b o _ _ h => s b o h
/-! ### defs as they are called -/
def Df (P : Program) (w : World) (K : PySem.W.Frag) (mg : Str → Option Value) (base : Heap) (k : Nat) (x : Str) (ps : List Str) (sp : Sp) : Prop :=
  ∃ (f : Addr) (fd : FuncData), FnOk P w K mg base CX0 k f fd ps sp ∧ mg x = some (.ref f) ∧ PySem.W.keepIn K (.ref f) = true ∧ Binds K fd ps []
/-- built-in names that the module has not taken -/
structure Free (mg : Str → Option Value) : Prop where
  len : mg "len" = none
  int : mg "int" = none
  bool : mg "bool" = none
  str : mg "str" = none
  list : mg "list" = none
  tuple : mg "tuple" = none
  range : mg "range" = none
  isinstance : mg "isinstance" = none
  sum : mg "sum" = none
/-! ### the well -/
structure Well (H : Hp) (d : Addr) (b : Nat) : Prop where
  ex : ∃ (g st : Int) (k : Nat), H d = some (.lst [.int g, .int st, .int k]) ∧ k ≤ b
theorem Well.same {H H' : Hp} {d : Addr} {b : Nat} (h : Well H d b) (s : Same H H') : Well H' d b := by
  obtain ⟨g, st, k, h1, h2⟩ := h
  exact ⟨g, st, k, s _ _ h1, h2⟩
theorem Well.mono {H : Hp} {d : Addr} {b b' : Nat} (h : Well H d b) (s : b ≤ b') : Well H d b' := by
  obtain ⟨g, st, k, h1, h2⟩ := h
  exact ⟨g, st, k, h1, Nat.le_trans h2 s⟩
theorem Well.mut {H : Hp} {d l : Addr} {o : HO} {b : Nat} (D : Well H d b) (h1 : l ≠ d) : Well (upd H l o) d b := by
  obtain ⟨g, st, k, e1, e2⟩ := D
  exact ⟨g, st, k, by rw [upd_ne (Ne.symm h1)]; exact e1, e2⟩
theorem Well.new {H : Hp} {d l : Addr} {o : HO} {b : Nat} (D : Well H d b) (h : H l = none) : Well (upd H l o) d b := D.same (same_new h)
theorem Well.ned {H : Hp} {d l : Addr} {b : Nat} (D : Well H d b) (h : H l = none) : l ≠ d := by
  obtain ⟨g, st, k, e1, e2⟩ := D
  exact (ne_of_none e1 h).symm
theorem mod_rng {a m : Int} (h : 0 < m) : 0 ≤ a % m ∧ a % m < m := ⟨Int.emod_nonneg a (by omega), Int.emod_lt_of_pos a h⟩
/-- a draw below m: any number from 0 on, less than m; one draw more -/
def spDraw : Sp := fun vs H Q _ => ∃ (d : Addr) (b : Nat) (m : Int), vs = [.ref d, .int m] ∧ Well H d b ∧ b < 2 ^ 60 ∧ 0 < m ∧ m.natAbs < 2 ^ 120 ∧
  ∀ v H', 0 ≤ v → v < m → Well H' d (b + 1) → Kp d d H H' → Q (.int v) H'
/-! ### a generator expression's own frame -/
/-- the context of a generator's turns: its frame cenv stands over the def's -/
abbrev gX (X : Cx) (s : Shared) (H : Hp) (A' : Around) (cenv : Env) (fp : List Addr) : Cx :=
  { X with A := A', s_0 := s, H_0 := H, env := cenv, outer := X.stack, stack := cenv :: X.stack, ex := fp, fn := fun _ => false, pn := [], xe := fun _ _ => False }
/-- what is asked of the expression's own scope -/
structure GnOk (scope : Scope) : Prop where
  co : scope.isCoroutine = false
  nocell : ∀ y ∈ scope.names, y.2 ≠ .cell
  dot : scope.names.lookup (".0" : Str) = some NameKind.local
section
variable {X : Cx} {pins : List (Addr × Obj)} {σ : L2.St} {H : Hp} {s : Shared}
theorem gen_start {scope : Scope} {own : List (Str × Nat)} {fp : List Addr} {A' : Around} {code : Value} {m0 : Str → Option Value} {h5 : Heap} {g5 : Array GenState} {t5 : Nat} {a : Addr} {go : Obj}
    (I : Inv X pins σ H s) (ok : BlkOk X.N X.env.scope scope own) (gk : GnOk scope) (hN : X.N.Nodup) (hfp : ∀ b ∈ fp, FpOk X pins H b ∧ b < s.heap.objs.size)
    (hA : A'.handled = none) (hF : A'.frames = some (genEnv scope (cloFrom X.env.cells scope.names []) s.heap.objs.size code builtinsNs X.env :: X.stack))
    (kp : ∀ b o, s.heap.get? b = some o → h5.get? b = some o) (hn : h5.Ns s.heap.objs.size m0) (hm0 : ∀ x, x ≠ (".0" : Str) → m0 x = none) (hdN : (".0" : Str) ∉ X.N) (hb5 : AllBare g5)
    (ha : s.heap.objs.size < a) (hgo : h5.get? a = some go) (hgd : ∀ v, go.data ≠ .cell v) :
    Inv (gX X s H A' (genEnv scope (cloFrom X.env.cells scope.names []) s.heap.objs.size code builtinsNs X.env) fp) [(a, go)] (wipe σ (own.map (·.2))) H { s with heap := h5, gens := g5, toks := t5 } := by
  have hfree : ∀ y ∈ scope.names, y.2 = .free → ∃ c, X.env.cells.lookup y.1 = some c := fun y hy e =>
    (ok.free y hy e).elim (fun k => I.ok.has _ (.inl k)) fun k => I.ok.has _ (.inr k)
  have cm : ∀ {y c}, (y, c) ∈ cloFrom X.env.cells scope.names [] → X.env.cells.lookup y = some c ∧ c < s.heap.objs.size := fun {y c} q => by
    rcases cloFrom_mem q with q | ⟨h1, e1⟩
    · cases q
    · obtain ⟨c1, hc1⟩ := hfree _ h1 rfl
      rw [hc1] at e1
      cases e1
      obtain ⟨w1, z1⟩ := I.cell _ _ hc1
      exact ⟨hc1, z1.lt⟩
  have cl : ∀ {y c}, (cloFrom X.env.cells scope.names []).lookup y = some c → X.env.cells.lookup y = some c ∧ c < s.heap.objs.size := fun {y c} e => cm (PySem.mem_of_lookup e)
  have look : ∀ {y}, scope.names.lookup y = some .free → ∃ c, (cloFrom X.env.cells scope.names []).lookup y = some c := fun {y} e =>
    mem_lookup (cloFrom_has (cells := X.env.cells) (acc := []) (PySem.mem_of_lookup e))
  generalize hce : genEnv scope (cloFrom X.env.cells scope.names []) s.heap.objs.size code builtinsNs X.env = ce at hF
  have cL : ce.locals = s.heap.objs.size := by rw [← hce]; rfl
  have cC : ce.cells = cloFrom X.env.cells scope.names [] := by rw [← hce]; rfl
  have cS : ce.scope = scope := by rw [← hce]; rfl
  have cF : ce.frame = some ce.locals := by rw [← hce]; rfl
  have okG : (gX X s H A' ce fp).Ok := by
    refine ⟨I.ok.mod, ?_, ?_, ?_, ?_, fun y z c e1 e2 => ?_, fun y hy => ?_, fun y c z e => ?_, fun _ => hA, hF, .inr ⟨rfl, cF⟩, fun b hb => ⟨?_, fun y c e z => ?_⟩, I.bs, Nat.le_trans I.ok.bsz I.sz, fun b o e hb => ?_, fun b hb z => ?_, I.stack, I.stkFree⟩
    · show ce.scope.kind = _
      rw [cS]
      exact ok.kind
    · show ce.globals = _
      rw [← hce]
      exact I.ok.glob
    · show ce.builtins = _
      rw [← hce]
      rfl
    · show s.heap.objs.size ≤ ce.locals
      rw [cL]
      exact Nat.le_refl _
    · have e1 : ce.cells.lookup y = some c := e1
      have e2 : ce.cells.lookup z = some c := e2
      rw [cC] at e1 e2
      exact I.ok.inj y z c (cl e1).1 (cl e2).1
    · show ∃ c, ce.cells.lookup y = some c
      rw [cC]
      have hy : scope.names.lookup y = some .cell ∨ scope.names.lookup y = some .free := by
        have hy' : ce.scope.names.lookup y = some .cell ∨ ce.scope.names.lookup y = some .free := hy
        rw [cS] at hy'
        exact hy'
      rcases hy with k | k
      · exact absurd rfl (gk.nocell _ (PySem.mem_of_lookup k))
      · exact look k
    · exact absurd (show false = true from z) Bool.false_ne_true
    · show b ≠ ce.locals
      rw [cL]
      exact Nat.ne_of_lt (hfp b hb).2
    · have e : ce.cells.lookup y = some c := e
      rw [cC] at e
      exact (hfp b hb).1.2.2.2.2.1 y c (cl e).1 z
    · rcases (hfp b hb).1.2.2.2.1 with q | q
      · exact I.ok.noex b o e q
      · exact absurd (Nat.lt_of_lt_of_le (Heap.lt_size e) (Nat.le_trans I.ok.bsz q)) (Nat.lt_irrefl _)
    · rcases List.mem_cons.mp (I.stkSub b z) with q | q
      · exact (hfp b hb).1.2.1 q
      · exact (hfp b hb).1.2.2.1 q
  refine ⟨okG, rfl, hb5, Un.kept kp, ⟨m0, ?_, fun i y av e1 e2 e3 => ?_⟩, fun y c e => ?_, ?_, fun y c e => ?_, fun p hp => ?_, I.hok.kept kp, by rw [wipe_length]; exact I.len⟩
  · show Heap.Ns _ ce.locals _
    rw [cL]
    exact hn
  · obtain ⟨e2, hne⟩ := wipe_some e2
    have e3 : Vis ce.scope y := e3
    rw [cS] at e3
    have hfr : scope.names.lookup y = some .free := by
      have no : ∀ k, scope.names.lookup y = some k → ¬ (k = .local ∨ k = .cell) := fun k hk hh => by
        rcases ok.own _ (PySem.mem_of_lookup hk) hh with q | q
        · obtain ⟨p, hp, hpy⟩ := List.mem_map.mp q
          have e4 := ok.ix p hp
          have hpy : p.1 = y := hpy
          rw [hpy] at e4
          exact hne (List.mem_map.mpr ⟨p, hp, nodup_ix hN e4 e1⟩)
        · exact q (List.mem_of_getElem? e1)
      rcases e3 with e3 | e3 | e3
      · exact absurd (.inl rfl) (no _ e3)
      · exact absurd (.inr rfl) (no _ e3)
      · exact e3
    obtain ⟨m, _, hl⟩ := I.loc
    have hvis : Vis X.env.scope y := (ok.free _ (PySem.mem_of_lookup hfr) rfl).elim (fun k => .inr (.inl k)) fun k => .inr (.inr k)
    obtain ⟨w1, r1, q1⟩ := hl i y av e1 e2 hvis
    obtain ⟨c, hc⟩ := look hfr
    refine ⟨w1, r1, .inr ⟨.inr (by show ce.scope.names.lookup y = _; rw [cS]; exact hfr), c, by show ce.cells.lookup y = _; rw [cC]; exact hc, ?_⟩⟩
    rcases q1 with ⟨k, _⟩ | ⟨_, c', e', z⟩
    · have k : X.env.scope.names.lookup y = some .local := k
      rcases ok.free _ (PySem.mem_of_lookup hfr) rfl with k' | k' <;> (have k' : X.env.scope.names.lookup y = _ := k'; rw [k'] at k; cases k)
    · rw [(cl hc).1] at e'
      cases e'
      exact z.keeps kp
  · have e : ce.cells.lookup y = some c := e
    rw [cC] at e
    obtain ⟨w1, z1⟩ := I.cell y c (cl e).1
    exact ⟨w1, z1.keeps kp⟩
  · show H ce.locals = none
    rw [cL]
    exact I.hok.fresh (Nat.le_refl _)
  · have e : ce.cells.lookup y = some c := e
    rw [cC] at e
    exact I.freeC y c (cl e).1
  · have hp : p = (a, go) := by simpa using hp
    subst hp
    refine ⟨hgo, I.hok.fresh (Nat.le_of_lt ha), ?_, fun z => ?_, hgd⟩
    · show a ≠ ce.locals
      rw [cL]
      exact Nat.ne_of_gt ha
    · have z : a ∈ frs X.stack := z
      obtain ⟨_, o, ho, _⟩ := I.stack.mem z
      exact absurd (Nat.lt_trans (Heap.lt_size ho) ha) (Nat.lt_irrefl _)
end
/-! ### all(..), any(..) of a generator, told by what each turn does -/
/-- between a yield and the next turn -/
structure Rs (s s' : Shared) : Prop where
  heap : s'.heap = s.heap
  os : s'.os = s.os
  bare : AllBare s'.gens
  size : s.gens.size ≤ s'.gens.size
theorem inv_gens {X : Cx} {pins : List (Addr × Obj)} {σ : L2.St} {H : Hp} {s s' : Shared} (I : Inv X pins σ H s) (h1 : s'.heap = s.heap) (h2 : s'.os = s.os) (h3 : AllBare s'.gens) : Inv X pins σ H s' := by
  obtain ⟨hh, g, d, t, o⟩ := s'
  have e1 : hh = s.heap := h1
  have e2 : o = s.os := h2
  subst e1 e2
  exact ⟨I.ok, I.os, h3, I.base, I.loc, I.cell, I.free, I.freeC, I.pin, I.hok, I.len⟩
theorem Rs.inv {X : Cx} {pins : List (Addr × Obj)} {σ : L2.St} {H : Hp} {s s' : Shared} (r : Rs s s') (I : Inv X pins σ H s) : Inv X pins σ H s' := by
  obtain ⟨h1, h2, h3, _⟩ := r
  obtain ⟨hh, g, d, t, o⟩ := s'
  have e1 : hh = s.heap := h1
  have e2 : o = s.os := h2
  subst e1 e2
  exact ⟨I.ok, I.os, h3, I.base, I.loc, I.cell, I.free, I.freeC, I.pin, I.hok, I.len⟩
theorem bare_set {gens : Array GenState} (h : AllBare gens) {g : Nat} {x : GenState} (hx : x.bare = true) : AllBare (gens.setIfInBounds g x) := fun y hy => by
  obtain ⟨i, hi, rfl⟩ := Array.mem_iff_getElem.mp hy
  rw [Array.size_setIfInBounds] at hi
  rw [Array.getElem_setIfInBounds hi]
  split
  · exact hx
  · exact h _ (Array.getElem_mem hi)
theorem Rs.set {s : Shared} (hb : AllBare s.gens) {g : Nat} {x : GenState} (hx : x.bare = true) : Rs s (s.setGen g x) :=
  ⟨rfl, rfl, bare_set hb hx, Nat.le_of_eq (GenW.setGen_size s g x).symm⟩
theorem Rs.trans {s s1 s2 : Shared} (a : Rs s s1) (b : Rs s1 s2) : Rs s s2 := ⟨b.heap.trans a.heap, b.os.trans a.os, b.bare, Nat.le_trans a.size b.size⟩
/-- the protocol of a generator whose items are truths: T b: what holds where b comes out -/
def gY (gi : Nat) (a : Addr) (stop : Bool) (Fin : Shared → Prop) : Protocol := fun n s₀ v s kap =>
  ∃ b, v = .bool b ∧ s.heap.IsGen a gi ∧ s.heap.NoLimit ∧ AllBare s.gens ∧ gi < s.gens.size ∧ (b = stop → Fin s) ∧ (b ≠ stop → ∀ s', Rs s s' → kap (.send .none) s')
def gR (End : Shared → Prop) : Nat → Shared → Shared → Prop := fun _ _ s => AllBare s.gens ∧ End s
/-- the generator waits -/
def Waits (prog : Program) (w : World) (A : Around) (gi : Nat) (a : Addr) (stop : Bool) (End Fin : Shared → Prop) (n : Nat) (s : Shared) : Prop :=
  s.heap.IsGen a gi ∧ s.heap.NoLimit ∧ AllBare s.gens ∧ ∃ gs, s.gens[gi]? = some gs ∧
    ∀ s', Rs s s' → gs.Goes (model prog w) A.in1 (fun n s₀ r s₁ => r = .ok .next ∧ gR End n s₀ s₁) (gY gi a stop Fin) n (.send .none) s'
section
variable {prog : Program} {w : World} {A : Around} {gi : Nat} {a : Addr} {stop : Bool} {End Fin : Shared → Prop}
theorem waits_next {n : Nat} {s : Shared} {Q : Option Value → Shared → Prop} {E : Value → Shared → Prop} (hh : A.handled = none) (hroom : A.depth < recursionLimit)
    (hE : ∀ s s' : Shared, End s → s'.os = s.os → AllBare s'.gens → (∀ b o, s.heap.get? b = some o → s'.heap.get? b = some o) → End s')
    (hF : ∀ s s' : Shared, Fin s → s'.os = s.os → AllBare s'.gens → (∀ b o, s.heap.get? b = some o → s'.heap.get? b = some o) → Fin s')
    (W : Waits prog w A gi a stop End Fin n s) (hN : ∀ s', End s' → Q none s') (hS : ∀ s', Fin s' → Q (some (.bool stop)) s')
    (hG : ∀ s' m, m < n → Waits prog w A gi a stop End Fin m s' → Q (some (.bool (!stop))) s') : wpAny (model prog w) A (pyNext (.ref a)) Q E s := by
  obtain ⟨hg, hl, hb, gs, hgs, hgo⟩ := W
  refine wpAny_pyNext_genexpQ (P := gR End) (Y := gY gi a stop Fin) hh hl hroom hg hgs (hgo _ (Rs.set hb rfl)) (fun v s₁ gs' hb' hv => ?_) fun s₁ hp h' hk => ?_
  · obtain ⟨b, rfl, g1, l1, b1, z1, f1, k1⟩ := hv
    by_cases e : b = stop
    · subst e
      exact hS _ (hF _ _ (f1 rfl) rfl (bare_set b1 hb') fun _ _ q => q)
    · have eb : b = !stop := by cases b <;> cases stop <;> first | rfl | exact absurd rfl e
      subst eb
      cases n with
      | zero => exact False.elim (k1 e s₁ ⟨rfl, rfl, b1, Nat.le_refl _⟩)
      | succ m =>
        refine hG _ m (Nat.lt_succ_self m) ⟨g1, l1, bare_set b1 hb', gs', ?_, fun s' r => k1 e s' ((Rs.set b1 hb').trans r)⟩
        show (s₁.gens.setIfInBounds gi gs')[gi]? = some gs'
        rw [Array.getElem?_setIfInBounds_self_of_lt z1]
  · obtain ⟨b1, e1⟩ := hp
    exact hN _ (hE _ _ e1 rfl (bare_set b1 rfl) fun b o q => hk b o q)
end
section
variable {prog : Program} {w : World} {A : Around} {gi : Nat} {a : Addr} {End Fin : Shared → Prop}
theorem all_loop (hh : A.handled = none) (hroom : A.depth < recursionLimit)
    (hE : ∀ s s' : Shared, End s → s'.os = s.os → AllBare s'.gens → (∀ b o, s.heap.get? b = some o → s'.heap.get? b = some o) → End s')
    (hF : ∀ s s' : Shared, Fin s → s'.os = s.os → AllBare s'.gens → (∀ b o, s.heap.get? b = some o → s'.heap.get? b = some o) → Fin s') :
    ∀ (n : Nat) (s : Shared), Waits prog w A.in1 gi a false End Fin n s →
      codeAny (model prog w) A (.builtin "all.loop" ⟨[.ref a], []⟩) (fun r s' => (r = .ok (.ret (.bool true)) ∧ End s') ∨ (r = .ok (.ret (.bool false)) ∧ Fin s')) s := by
  intro n
  induction n using Nat.strongRecOn with
  | ind n ih =>
    intro s W
    refine codeAny_builtin PySem.F.entry_all_loop ?_
    rw [Around.under_plainId PySem.F.plain_all_loop]
    show wpAny (model prog w) A.in1 (pyNext (.ref a) >>= _) _ _ s
    refine wpAny_bind (waits_next (A := A.in1) hh hroom hE hF W (fun s' e => ?_) (fun s' e => ?_) fun s' m hm W' => ?_)
    · exact wpAny_bind (wpAny_rule (wpAny_pure (.inl ⟨rfl, e⟩)))
    · refine wpAny_bind (wpAny_holding (wpAny_truthy_bool ?_))
      refine wpAny_bind (wpAny_letGo ?_)
      exact wpAny_bind (wpAny_rule (wpAny_pure (.inr ⟨rfl, e⟩)))
    · refine wpAny_bind (wpAny_holding (wpAny_truthy_bool ?_))
      refine wpAny_bind (wpAny_letGo ?_)
      exact wpAny_pure ⟨plainId_quiet PySem.F.plain_all_loop _, ih m hm s' W'⟩
end
/-! ### all(elt for target in iter) -/
/-- the reading: W by the turn and a measure; P: the def's table, which may grow -/
def tAll (P : Addr) (wi : TI) (g : TG) (te : TE) (vs : List Nat) : TE := fun σ H Q => wi σ H fun J H1 => GxR.TabG H1 P ∧ ∃ W : Nat → Nat → Hp → Prop, (∀ H2, GxR.Tabbed P H1 H2 → ∃ m, W 0 m H2) ∧ ∀ i m H, W i m H →
  (J.stop i H ∧ Q (.bl true) H) ∨ (J.go i H ∧ ∃ Nx : Hp → Prop, (∀ H', Nx H' → ∃ m', m' < m ∧ W (i + 1) m' H') ∧ ∀ x H', J.yld i H x H' → g x (wipe σ vs) H' fun σ2 H2 => wipe σ2 vs = wipe σ vs ∧
    te σ2 H2 fun y H3 => ∃ b, y = .bl b ∧ if b = true then Nx H3 else Q (.bl false) H3)
section
variable {X : Cx}
theorem pe_all {k : Nat} {c P : Addr} {elt tg iter : Expr} {scope : Scope} {own : List (Str × Nat)} {p pos gpos : Pos} {wi : TI} {g : TG} {te : TE}
    (hr : Room (k + 1) X.A) (TB : GxR.TabB X.base X.mg c P) (hcode : X.env.code = .ref c) (hc : X.calm = true) (hN : X.N.Nodup) (hG : Gl X "all") (hM : X.mg "all" = none) (hi : PI X tg iter wi) (ok : BlkOk X.N X.env.scope scope own) (gk : GnOk scope) (hdN : (".0" : Str) ∉ X.N)
    (hg : ∀ (s : Shared) (H : Hp) (A' : Around) (C : Addr) (cl : List (Str × Addr)) (code : Value) (fp : List Addr), PG (gX X s H A' (genEnv scope cl C code builtinsNs X.env) fp) tg g)
    (he : ∀ (s : Shared) (H : Hp) (A' : Around) (C : Addr) (cl : List (Str × Addr)) (code : Value) (fp : List Addr), Room k A' → PE (gX X s H A' (genEnv scope cl C code builtinsNs X.env) fp) elt te)
    (hs : ∀ v, genFold iter X.env v = pure v := by intro _; rfl)
    (hst : starEach [.GeneratorExp elt [⟨tg, iter, [], 0⟩] scope gpos] X.env = (false, eval (.GeneratorExp elt [⟨tg, iter, [], 0⟩] scope gpos) X.env) :: starEach [] X.env := by rfl) :
    PE X (.Call (.Name "all" p) [.GeneratorExp elt [⟨tg, iter, [], 0⟩] scope gpos] [] pos) (tAll P wi g te (own.map (·.2))) := by
  refine ⟨fun pins s σ H Q I h => ?_⟩
  have hh : X.A.handled = none := hr.hd
  refine wpAny_Call_Name_kw (ld_blt I hG hM PyProof.Rows.boot_all ?_)
  refine PyProof.Rows.callWith_builtin1 ?_ hst (by rfl)
  rw [hst]
  show wpAny _ _ (spliced ((false, eval (.GeneratorExp elt [⟨tg, iter, [], 0⟩] scope gpos) X.env) :: backTo pos (starEach [] X.env))) _ _ s
  have hfree : ∀ y ∈ scope.names, y.2 = .free → ∃ c, X.env.cells.lookup y.1 = some c := fun y hy e =>
    (ok.free y hy e).elim (fun k => I.ok.has _ (.inl k)) fun k => I.ok.has _ (.inr k)
  refine Calls.spliced_cons (wpAny_GeneratorExp_make gk.co (closure_ok hfree) gk.nocell gk.dot ok.kind (by have := hr.dp; omega) (thn (hi.run pins s σ H _ I h) fun xv s1 hx => thn hx fun itv s2 h2 => ?_) hs)
  obtain ⟨it, fp, tn, J, H2, e, I2, T, st2, f2, ⟨ps, hP, ht⟩, W, w0, turn⟩ := h2
  subst e
  refine ⟨I2.nolimit, ?_⟩
  have hPs : s2.heap.get? P = some { cls := .none, data := .fields ps } := I2.hok P _ hP
  have cd : PySem.W.CodeHd s2.heap c P := TB.code.keeps fun b u e => I2.bk b u e
  have sz2 : ∀ b ∈ fp, b < s2.heap.objs.size := fun b hb => by
    obtain ⟨o, e, _⟩ := T.obj _ _ st2 b hb
    exact Heap.lt_size e
  have nfP : ∀ b ∈ fp, b ≠ P := fun b hb z => by
    have q := (f2 b hb).1
    rw [z, hP] at q
    cases q
  -- behind the table
  have cont : ∀ (code : Value) (h3 : Heap) (tk : Nat) (more : Array Value), s2.heap.objs.size ≤ h3.objs.size → (∀ b o, b ≠ P → s2.heap.get? b = some o → h3.get? b = some o) → h3.get? P = some { cls := .none, data := .fields (ps ++ more) } → TriplesOk (ps ++ more).toList →
      wpAny (model X.prog X.w) X.A (builtinsFor X.env.globals X.env.builtins) (fun bi s4 => ∀ h', h'.Ns s4.heap.objs.size (fun y => if y = ".0" then some (.ref it) else none) → Heap.SameBut s4.heap.objs.size (s4.heap.push { cls := .type "frame", data := .dict #[] }) h' →
        wpAny (model X.prog X.w) X.A (spliced (backTo pos (starEach [] X.env))) (fun vs s5 => wpAny (model X.prog X.w) X.A (call (.builtin "all") (.ref h'.objs.size :: vs)) (EP X pins σ Q) X.xe s5) X.xe { s4 with
            gens := s4.gens.push (.fresh (.compStart (.GeneratorExp elt [⟨tg, iter, [], 0⟩] scope gpos) 0 (.ref it) .none (genEnv scope (cloFrom X.env.cells scope.names []) s4.heap.objs.size code bi X.env))), toks := s4.toks + 1 + 1 + 1,
            heap := h'.push { cls := .type "generator", data := .fields #[.int s4.gens.size 0, .str "<genexpr>" (s4.toks + 1), .str (X.env.qual ++ "<genexpr>") (s4.toks + 1 + 1)] } }) X.xe { s2 with heap := h3, toks := tk } := by
    intro code h3 tk more hle3 hk3 hP3 ht3
    have I3 : Inv X pins σ (upd H2 P (.tbl (ps ++ more))) { s2 with heap := h3, gens := s2.gens, drawn := s2.drawn, toks := tk } := GxR.inv_tab I2 hP hk3 hP3 I2.bare
    have tab3 : GxR.Tabbed P H2 (upd H2 P (.tbl (ps ++ more))) := ⟨⟨_, upd_same, ht3⟩, fun b hb => upd_ne hb⟩
    have st3 : tn 0 h3 := T.keep _ _ _ st2 fun b hb o e => hk3 b o (nfP b hb) e
    have f3 : ∀ b ∈ fp, FpOk X pins (upd H2 P (.tbl (ps ++ more))) b := fun b hb => ⟨by rw [upd_ne (nfP b hb)]; exact (f2 b hb).1, (f2 b hb).2⟩
    generalize upd H2 P (.tbl (ps ++ more)) = H3 at I3 tab3 f3
    obtain ⟨m0, hw0⟩ := w0 H3 tab3
    have sz3 : ∀ b ∈ fp, b < h3.objs.size := fun b hb => Nat.lt_of_lt_of_le (sz2 b hb) hle3
    have hs3 : ({ s2 with heap := h3, gens := s2.gens, drawn := s2.drawn, toks := tk } : Shared) = { s2 with heap := h3, toks := tk } := rfl
    rw [hs3] at I3
    generalize hsh : ({ s2 with heap := h3, toks := tk } : Shared) = s3 at I3 ⊢
    have eh : h3 = s3.heap := by rw [← hsh]
    rw [eh] at st3 sz3
    clear hsh hs3 eh hP3 hk3 hle3
    obtain ⟨bm, ob, e1, e2, e3, e4, e5, e6, e7, e8⟩ := TB.bm
    refine wpAny_builtinsFor (m := X.mg) (by rw [I3.ok.glob]; exact I3.mod.glob.keeps I3.bk) e1 e2 (I3.bk _ _ e5) e6 e7 e8 ?_
    intro h' hn' hs'
    refine Calls.spliced_nil ?_
    have hsz : h'.objs.size = s3.heap.objs.size + 1 := by rw [hs'.1, Heap.size_push]
    generalize hgo : ({ cls := .type "generator", data := .fields #[.int s3.gens.size 0, .str "<genexpr>" (s3.toks + 1), .str (X.env.qual ++ "<genexpr>") (s3.toks + 1 + 1)] } : Obj) = go
    have kp5 : ∀ b o, s3.heap.get? b = some o → (h'.push go).get? b = some o := fun b o e => Heap.get?_push_of_some _ (hs'.extBut b o (Nat.ne_of_lt (Heap.lt_size e)) (Heap.get?_push_of_some _ e))
    generalize hce : genEnv scope (cloFrom X.env.cells scope.names []) s3.heap.objs.size code builtinsNs X.env = ce
    have hhA : (X.A.in1.in1.over (.compLoop (.GeneratorExp elt [⟨tg, iter, [], 0⟩] scope gpos) 0 (.ref it) .none ce) []).handled = none := hh
    have hFr : (X.A.in1.in1.over (.compLoop (.GeneratorExp elt [⟨tg, iter, [], 0⟩] scope gpos) 0 (.ref it) .none ce) []).frames = some (ce :: X.stack) := by
      show pushEnvs [ce] (pushEnvs [] X.A.frames) = _
      rw [I3.ok.frames]
      rfl
    have hRm : Room k (X.A.in1.in1.over (.compLoop (.GeneratorExp elt [⟨tg, iter, [], 0⟩] scope gpos) 0 (.ref it) .none ce) []) := by
      have z1 := hr.dp
      have z2 := hr.un
      refine ⟨hhA, ?_, ?_⟩
      · show X.A.depth + 0 + 1 + 3 * k + 5 < recursionLimit
        omega
      · show X.A.units + 1 + 1 + 0 + 3 + 16 * k + 200 < cLine
        omega
    generalize hAg : X.A.in1.in1.over (.compLoop (.GeneratorExp elt [⟨tg, iter, [], 0⟩] scope gpos) 0 (.ref it) .none ce) [] = Ag at hhA hFr hRm
    have I5 : Inv (gX X s3 H3 Ag ce fp) [(h'.objs.size, go)] (wipe σ (own.map (·.2))) H3 { s3 with heap := h'.push go, gens := s3.gens.push (.fresh (.compStart (.GeneratorExp elt [⟨tg, iter, [], 0⟩] scope gpos) 0 (.ref it) .none ce)), toks := s3.toks + 1 + 1 + 1 } := by
      have q := gen_start (code := code) (A' := Ag) (h5 := h'.push go) (g5 := s3.gens.push (.fresh (.compStart (.GeneratorExp elt [⟨tg, iter, [], 0⟩] scope gpos) 0 (.ref it) .none ce))) (t5 := s3.toks + 1 + 1 + 1) (go := go) I3 ok gk hN (fun b hb => ⟨f3 b hb, sz3 b hb⟩) hhA (by rw [hce]; exact hFr) kp5 (hn'.push _)
        (fun x hx => if_neg hx) hdN (I3.bare.push rfl) (a := h'.objs.size) (by omega) (Heap.get?_push_size _ (by rw [← hgo]; rfl)) (by rw [← hgo]; intro v z; cases z)
      rw [hce] at q
      exact q
    have st5 : tn 0 (h'.push go) := T.keep _ _ _ st3 fun b _ o e => kp5 b o e
    have nfp : ∀ b ∈ fp, H3 b = none := fun b hb => (f3 b hb).1
    have pg := hg s3 H3 Ag s3.heap.objs.size (cloFrom X.env.cells scope.names []) code fp
    have pe := he s3 H3 Ag s3.heap.objs.size (cloFrom X.env.cells scope.names []) code fp hRm
    rw [hce] at pg pe
    have cCo : ce.scope.isCoroutine = false := by rw [← hce]; exact gk.co
    clear hn' hs' kp5 w0 hce
    -- back in the def's context
    have back : ∀ {σ' : L2.St} {H' : Hp} {s' : Shared} {pl : List (Addr × Obj)}, Inv (gX X s3 H3 Ag ce fp) pl σ' H' s' → Inv X pins σ H' s' := fun {σ' H' s' pl} J => I3.call' (ch := fp) J.os J.base J.hok J.bare fun b hb =>
      ⟨(f3 b hb).2.2.2.1, (f3 b hb).2.1, (f3 b hb).2.2.2.2.1, (f3 b hb).2.2.2.2.2⟩
    have stat : ∀ {σ' : L2.St} {H' : Hp} {s' : Shared}, Inv (gX X s3 H3 Ag ce fp) [(h'.objs.size, go)] σ' H' s' → (∀ b ∈ fp, H' b = none) → ∀ b ∈ fp, FpOk (gX X s3 H3 Ag ce fp) [(h'.objs.size, go)] H' b := fun {σ' H' s'} J hn b hb =>
      ⟨hn b hb, (J.ok.exf b hb).1, J.ok.exfs b hb, .inl hb, fun x c e => (J.ok.exf b hb).2 x c e, fun p hp => by
        have hp : p = (h'.objs.size, go) := by simpa using hp
        rw [hp]
        exact Nat.ne_of_gt (Nat.lt_trans (sz3 b hb) (by rw [hsz]; exact Nat.lt_succ_self _))⟩
    have gen : ∀ {σ' : L2.St} {H' : Hp} {s' : Shared} {pl : List (Addr × Obj)}, Inv (gX X s3 H3 Ag ce fp) ([(h'.objs.size, go)] ++ pl) σ' H' s' → s'.heap.IsGen h'.objs.size s3.gens.size := fun {σ' H' s' pl} J => by
      have q := (J.pin (h'.objs.size, go) (by simp)).1
      exact ⟨go, _, _, q, by rw [← hgo], by rw [← hgo], by rw [← hgo]⟩
    -- the turns
    have loop : ∀ (m n i : Nat) (s₀ s : Shared) (H : Hp), m < n → W i m H → Inv (gX X s3 H3 Ag ce fp) [(h'.objs.size, go)] (wipe σ (own.map (·.2))) H s → tn i s.heap → (∀ b ∈ fp, H b = none) → s3.gens.size + 1 ≤ s.gens.size →
        Seg (model X.prog X.w) X.A.in1.in1 (fun n s₀ r s₁ => r = .ok .next ∧ gR (fun s => ∃ H', Inv X pins σ H' s ∧ Q (.bl true) H') n s₀ s₁) (gY s3.gens.size h'.objs.size false fun s => ∃ H', Inv X pins σ H' s ∧ Q (.bl false) H') n s₀
          (.compLoop (.GeneratorExp elt [⟨tg, iter, [], 0⟩] scope gpos) 0 (.ref it) .none ce) ((model X.prog X.w).den (.compLoop (.GeneratorExp elt [⟨tg, iter, [], 0⟩] scope gpos) 0 (.ref it) .none ce)) [] s := by
      intro m
      induction m using Nat.strongRecOn with
      | ind m ih =>
        intro n i s₀ s H hmn w J st nf hz
        show Seg (model X.prog X.w) _ _ _ n s₀ _ ((compTurn (.GeneratorExp elt [⟨tg, iter, [], 0⟩] scope gpos) 0 (.ref it) .none ce).onRaise (leaving ce)) [] s
        rw [compTurn_gen]
        rw [Sem.onRaise_eq_wrap]
        refine seg_bind_wrap (wpAny_standAt (seg_bind_wrap ?_))
        rw [hAg]
        rcases turn i m H w with ⟨stp, qq⟩ | ⟨go', Nx, hNx, step⟩
        · refine thnF (T.done (gX X s3 H3 Ag ce fp) rfl rfl rfl hc i _ s _ H (fun _ _ => False) J (stat J nf) st stp) fun r s6 ⟨hr6, J6⟩ => ?_
          subst hr6
          exact seg_end (.ok .next) ⟨rfl, J6.bare, H, back J6, qq⟩
        · refine GenW.wpAny_gsz hz (thnF (T.item (gX X s3 H3 Ag ce fp) rfl rfl rfl hc i _ s _ H (fun _ _ => False) J (stat J nf) st go') fun r s6 ⟨u, hr6, h6⟩ hz6 => ?_)
          subst hr6
          refine seg_bind_wrap ?_
          rw [hAg]
          refine GenW.wpAny_gsz hz6 (thnF h6 fun _ s7 ⟨x, H7, J7, r7, y7, st7, n7⟩ hz7 => ?_)
          have J7' := J7.pinned (stat J7 n7) (T.obj _ _ st7)
          refine seg_bind_wrap ?_
          rw [hAg]
          refine GenW.wpAny_gsz hz7 (thnF (pg.run _ s7 _ H7 x u _ J7' r7 (step x H7 y7)) fun _ s8 ⟨σ8, H8, J8, hw8, q8⟩ hz8 => ?_)
          simp only [List.forIn_nil]
          refine seg_bind_wrap (wpAny_pure ?_)
          simp only [if_true]
          have hy : ∀ v, yieldOut ce v = yieldValue v := fun v => by simp only [yieldOut, cCo, Bool.false_eq_true, if_false]
          simp only [hy]
          rw [Sem.bind_eq_wrap', Sem.bind_eq_wrap']
          rw [Sem.wrap_wrap, Sem.wrap_wrap]
          refine seg_wrap ?_
          rw [hAg]
          refine GenW.wpAny_gsz hz8 (thnF (pe.run _ s8 σ8 H8 _ J8 q8) fun z s9 ⟨yv, H9, J9, r9, b, eb, qb⟩ hz9 => ?_)
          subst eb
          obtain rfl : z = Value.bool b := r9
          obtain ⟨n', rfl⟩ : ∃ n', n = n' + 1 := ⟨n - 1, by omega⟩
          refine seg_at (seg_yield rfl rfl rfl ⟨b, rfl, gen J9, J9.nolimit, J9.bare, hz9, fun e => ?_, fun e s' r => ?_⟩)
          · subst e
            exact ⟨H9, back J9, qb⟩
          · have e : b = true := by
              cases b with
              | true => rfl
              | false => exact absurd rfl e
            subst e
            rw [if_pos rfl] at qb
            obtain ⟨m', hm', w'⟩ := hNx H9 qb
            have pin' : ∀ b ∈ fp, ∀ o, s7.heap.get? b = some o → s9.heap.get? b = some o ∧ H9 b = none := fun b hb o e =>
              let z := J9.pin (b, o) (List.mem_append_right _ (List.mem_append_right _ (mem_pinsAt hb e)))
              ⟨z.1, z.2.1⟩
            have hl : (wipe σ (own.map (·.2))).length = σ8.length := by rw [← hw8, wipe_length]
            have K9 : Inv (gX X s3 H3 Ag ce fp) [(h'.objs.size, go)] (wipe σ (own.map (·.2))) H9 s9 := J9.unpinned.weak hl fun j v e => by
              rw [← hw8] at e
              exact (wipe_some e).1
            refine seg_again rfl (ih m' hm' n' (i + 1) s' s' H9 (by omega) w' (r.inv K9) ?_ (fun b hb => ?_) (Nat.le_trans hz9 r.size))
            · rw [r.heap]
              exact T.keep _ _ _ st7 fun b hb o e => (pin' b hb o e).1
            · obtain ⟨o, e, _⟩ := T.obj _ _ st7 b hb
              exact (pin' b hb o e).2
    have mono : ∀ (b : Bool) (s s' : Shared), (∃ H', Inv X pins σ H' s ∧ Q (.bl b) H') → s'.os = s.os → AllBare s'.gens → (∀ b o, s.heap.get? b = some o → s'.heap.get? b = some o) → ∃ H', Inv X pins σ H' s' ∧ Q (.bl b) H' := fun b s s' ⟨H', J, q⟩ h1 h2 h3 =>
      ⟨H', inv_gens (J.kept (t' := s'.toks) h3) rfl h1 h2, q⟩
    generalize hs5 : ({ s3 with heap := h'.push go, gens := s3.gens.push (.fresh (.compStart (.GeneratorExp elt [⟨tg, iter, [], 0⟩] scope gpos) 0 (.ref it) .none ce)), toks := s3.toks + 1 + 1 + 1 } : Shared) = s5 at I5
    have hg5 : s5.gens[s3.gens.size]? = some (.fresh (.compStart (.GeneratorExp elt [⟨tg, iter, [], 0⟩] scope gpos) 0 (.ref it) .none ce)) := by
      rw [← hs5]
      exact Array.getElem?_push_size ..
    have hz5 : s3.gens.size + 1 ≤ s5.gens.size := by
      rw [← hs5]
      exact Nat.le_of_eq (Array.size_push ..).symm
    have ht5 : tn 0 s5.heap := by rw [← hs5]; exact st5
    have wt : Waits X.prog X.w X.A.in1 s3.gens.size h'.objs.size false (fun s => ∃ H', Inv X pins σ H' s ∧ Q (.bl true) H') (fun s => ∃ H', Inv X pins σ H' s ∧ Q (.bl false) H') (m0 + 1) s5 := by
      refine ⟨gen (pl := []) I5, I5.nolimit, I5.bare, _, hg5, fun s' r => ⟨rfl, ?_⟩⟩
      have lp := loop m0 (m0 + 1) 0 s' s' H3 (Nat.lt_succ_self _) hw0 (r.inv I5) (by rw [r.heap]; exact ht5) nfp (Nat.le_trans hz5 r.size)
      show Seg (model X.prog X.w) _ _ _ _ s' _ ((compStart (.GeneratorExp elt [⟨tg, iter, [], 0⟩] scope gpos) 0 (.ref it) .none ce).onRaise (leaving ce)) [] s'
      unfold compStart
      rw [Sem.onRaise_eq_wrap]
      show Seg (model X.prog X.w) _ _ _ _ s' _ ((ask >>= _).wrap _ _ _ _) [] s'
      refine seg_bind_wrap (wpAny_askSetting ?_)
      have ts : tn 0 s'.heap := by rw [r.heap]; exact ht5
      split
      · exact seg_again rfl lp
      · first
          | exact seg_bind_wrap (wpAny_rule (seg_bind_wrap (wpAny_standAt (seg_bind_wrap (T.self _ 0 s' _ _ ts (seg_again rfl lp))))))
          | (refine seg_bind_wrap (wpAny_rule ?_); show Seg (model X.prog X.w) _ _ _ _ s' _ ((standAt iter.pos >>= _).wrap _ _ _ _) [] s'; exact seg_bind_wrap (wpAny_standAt (seg_bind_wrap (T.self _ 0 s' _ _ ts (seg_again rfl lp)))))
    refine call_function_tree PySem.F.kind_all PySem.F.plain_all PySem.F.entry_all (PySem.F.args_all1 _) ?_
    unfold Builtin.«all»
    refine wpAny_bind (m := oneArg "all" _) (wpAny_pure ?_)
    refine wpAny_bind (wpAny_pyIter_gen (gen (pl := []) I5) ?_)
    refine wpAny_pure ⟨plainId_quiet PySem.F.plain_all_loop _, codeAny_mono (all_loop hh hr.depth (mono true) (mono false) (m0 + 1) s5 wt) fun r s' hq => ?_⟩
    rcases hq with ⟨rfl, H', J, q⟩ | ⟨rfl, H', J, q⟩
    · exact ⟨.bl true, H', J, rfl, q⟩
    · exact ⟨.bl false, H', J, rfl, q⟩
  cases hf : codeAmong gpos ps.toList with
  | none =>
    refine wpAny_genexprCodeX hcode (cd.code hPs ht) (cd.tab hPs) hf fun c' h' tk hx hge hlt hco' _ htab' _ => ?_
    obtain ⟨o1, vs, f1, tf, fl, tg1, inF, tx, tt, op, _, _, _, _, _, _, _, _, _, htr, _⟩ := hco'
    exact cont _ h' tk _ (Nat.le_trans hge (Nat.le_of_lt hlt)) (fun b o hb e => hx b o hb e) htab'.2 htr
  | some cv =>
    refine wpAny_genexprCode_hit hcode (cd.code hPs ht) hf ?_
    have := cont cv s2.heap s2.toks #[] (Nat.le_refl _) (fun _ _ _ e => e) (by rw [hPs]; simp) (by simpa using ht)
    exact this
end
def topS (i : Nat) : Stmt := PySem.Challenge.pw_friendfoe_k26_turned_or_parted.main.body.getD i (.Pass ⟨0, 0, 0, 0⟩)
abbrev s_joins : Stmt := topS 4
abbrev N_joins : List Str := ["tie", "one", "other"]
theorem sc_joins : FnScope N_joins ["tie", "one", "other"] (defScope s_joins) := ⟨rfl, rfl, rfl, by decide +kernel, rfl, by decide +kernel, by decide +kernel⟩
abbrev s_ties_around : Stmt := topS 6
abbrev N_ties_around : List Str := ["web", "numbers", "around", "number", "one", "other", "kind"]
theorem sc_ties_around : FnScope N_ties_around ["web", "numbers"] (defScope s_ties_around) := ⟨rfl, rfl, rfl, by decide +kernel, rfl, by decide +kernel, by decide +kernel⟩
abbrev s_walk_from : Stmt := topS 7
abbrev N_walk_from : List Str := ["start", "around", "walk", "reached", "steps", "following", "place", "other", "number"]
theorem sc_walk_from : FnScope N_walk_from ["start", "around"] (defScope s_walk_from) := ⟨rfl, rfl, rfl, by decide +kernel, rfl, by decide +kernel, by decide +kernel⟩
abbrev s_way_to : Stmt := topS 8
abbrev N_way_to : List Str := ["end", "walk", "places", "numbers", "steps", "ahead", "number"]
theorem sc_way_to : FnScope N_way_to ["end", "walk"] (defScope s_way_to) := ⟨rfl, rfl, rfl, by decide +kernel, rfl, by decide +kernel, by decide +kernel⟩
abbrev s_doubled : Stmt := topS 10
abbrev N_doubled : List Str := ["web", "ties", "one", "other", "kind", "swap"]
theorem sc_doubled : FnScope N_doubled ["web"] (defScope s_doubled) := ⟨rfl, rfl, rfl, by decide +kernel, rfl, by decide +kernel, by decide +kernel⟩
abbrev s_halved : Stmt := topS 11
abbrev N_halved : List Str := ["way", "places", "ties", "place", "tie"]
theorem sc_halved : FnScope N_halved ["way"] (defScope s_halved) := ⟨rfl, rfl, rfl, by decide +kernel, rfl, by decide +kernel, by decide +kernel⟩
abbrev s_row_of : Stmt := topS 12
abbrev N_row_of : List Str := ["many", "walk", "far", "place"]
theorem sc_row_of : FnScope N_row_of ["many", "walk", "far"] (defScope s_row_of) := ⟨rfl, rfl, rfl, by decide +kernel, rfl, by decide +kernel, by decide +kernel⟩
abbrev s_shortest_odd : Stmt := topS 13
abbrev N_shortest_odd : List Str := ["web", "double", "around", "walks", "place", "lengths", "walk", "length", "start", "ring"]
theorem sc_shortest_odd : FnScope N_shortest_odd ["web"] (defScope s_shortest_odd) := ⟨rfl, rfl, rfl, by decide +kernel, rfl, by decide +kernel, by decide +kernel⟩
abbrev s_neighbours : Stmt := topS 15
abbrev N_neighbours : List Str := ["web", "many", "ties", "around", "place", "one", "other", "kind"]
theorem sc_neighbours : FnScope N_neighbours ["web"] (defScope s_neighbours) := ⟨rfl, rfl, rfl, by decide +kernel, rfl, by decide +kernel, by decide +kernel⟩
abbrev s_sides_from : Stmt := topS 16
abbrev N_sides_from : List Str := ["start", "around", "sides", "waiting", "place", "other", "kind"]
theorem sc_sides_from : FnScope N_sides_from ["start", "around"] (defScope s_sides_from) := ⟨rfl, rfl, rfl, by decide +kernel, rfl, by decide +kernel, by decide +kernel⟩
abbrev s_breaks : Stmt := topS 18
abbrev N_breaks : List Str := ["sides", "tie", "one", "other", "kind"]
theorem sc_breaks : FnScope N_breaks ["sides", "tie"] (defScope s_breaks) := ⟨rfl, rfl, rfl, by decide +kernel, rfl, by decide +kernel, by decide +kernel⟩
abbrev s_broken_by : Stmt := topS 19
abbrev N_broken_by : List Str := ["web", "sides", "number", "tie"]
theorem sc_broken_by : FnScope N_broken_by ["web", "sides"] (defScope s_broken_by) := ⟨rfl, rfl, rfl, by decide +kernel, rfl, by decide +kernel, by decide +kernel⟩
abbrev s_sides_of : Stmt := topS 20
abbrev N_sides_of : List Str := ["web", "around", "told", "start", "sides", "place"]
theorem sc_sides_of : FnScope N_sides_of ["web"] (defScope s_sides_of) := ⟨rfl, rfl, rfl, by decide +kernel, rfl, by decide +kernel, by decide +kernel⟩
abbrev s_places_turned : Stmt := topS 22
abbrev N_places_turned : List Str := ["sides", "place", "side"]
theorem sc_places_turned : FnScope N_places_turned ["sides"] (defScope s_places_turned) := ⟨rfl, rfl, rfl, by decide +kernel, rfl, by decide +kernel, by decide +kernel⟩
abbrev s_are_framed : Stmt := topS 24
abbrev N_are_framed : List Str := ["one", "other", "tie", "like"]
theorem sc_are_framed : FnScope N_are_framed ["one", "other"] (defScope s_are_framed) := ⟨rfl, rfl, rfl, by decide +kernel, rfl, by decide +kernel, by decide +kernel⟩
abbrev s_kinds_of : Stmt := topS 25
abbrev N_kinds_of : List Str := ["web", "tie"]
theorem sc_kinds_of : FnScope N_kinds_of ["web"] (defScope s_kinds_of) := ⟨rfl, rfl, rfl, by decide +kernel, rfl, by decide +kernel, by decide +kernel⟩
abbrev s_web_between : Stmt := topS 26
abbrev N_web_between : List Str := ["one", "other", "like", "kind", "told", "tie"]
theorem sc_web_between : FnScope N_web_between ["one", "other"] (defScope s_web_between) := ⟨rfl, rfl, rfl, by decide +kernel, rfl, by decide +kernel, by decide +kernel⟩
abbrev s_told_turning : Stmt := topS 27
abbrev N_told_turning : List Str := ["one", "other", "between", "sides"]
theorem sc_told_turning : FnScope N_told_turning ["one", "other"] (defScope s_told_turning) := ⟨rfl, rfl, rfl, by decide +kernel, rfl, by decide +kernel, by decide +kernel⟩
abbrev s_l_well : Stmt := topS 29
abbrev N_l_well : List Str := ["_law_script", "_law_k", "_law_cell", "_law_great"]
theorem sc_l_well : FnScope N_l_well ["_law_script", "_law_k"] (defScope s_l_well) := ⟨rfl, rfl, rfl, by decide +kernel, rfl, by decide +kernel, by decide +kernel⟩
abbrev s_l_draw : Stmt := topS 30
abbrev N_l_draw : List Str := ["_law_well_here", "_law_most", "_law_digit", "_law_number"]
theorem sc_l_draw : FnScope N_l_draw ["_law_well_here", "_law_most"] (defScope s_l_draw) := ⟨rfl, rfl, rfl, by decide +kernel, rfl, by decide +kernel, by decide +kernel⟩
abbrev s_l_web : Stmt := topS 31
abbrev N_l_web : List Str := ["_law_well_here", "_law_great", "_law_many", "_law_ties", "_law_k", "_law_one", "_law_other_here", "_law_kind"]
theorem sc_l_web : FnScope N_l_web ["_law_well_here"] (defScope s_l_web) := ⟨rfl, rfl, rfl, by decide +kernel, rfl, by decide +kernel, by decide +kernel⟩
abbrev s_l_places : Stmt := topS 32
abbrev N_l_places : List Str := ["_law_well_here", "_law_many", "_law_way", "_law_place"]
theorem sc_l_places : FnScope N_l_places ["_law_well_here", "_law_many"] (defScope s_l_places) := ⟨rfl, rfl, rfl, by decide +kernel, rfl, by decide +kernel, by decide +kernel⟩
abbrev s_l_about : Stmt := topS 33
abbrev N_l_about : List Str := ["_law_web_here", "_law_places_here", "_law_other_here", "_law_ties", "_law_tie"]
theorem sc_l_about : FnScope N_l_about ["_law_web_here", "_law_places_here"] (defScope s_l_about) := ⟨rfl, rfl, rfl, by decide +kernel, rfl, by decide +kernel, by decide +kernel⟩
abbrev s_l_same : Stmt := topS 34
abbrev N_l_same : List Str := ["_law_found", "_law_due", "_law_one", "_law_other_here"]
theorem sc_l_same : FnScope N_l_same ["_law_found", "_law_due"] (defScope s_l_same) := ⟨rfl, rfl, rfl, by decide +kernel, rfl, by decide +kernel, by decide +kernel⟩
abbrev s_l_is_ring : Stmt := topS 35
abbrev N_l_is_ring : List Str := ["_law_web_here", "_law_thing", "_law_places_here", "_law_ties", "_law_k", "_law_two"]
theorem sc_l_is_ring : FnScope N_l_is_ring ["_law_web_here", "_law_thing"] (defScope s_l_is_ring) := ⟨rfl, rfl, rfl, by decide +kernel, rfl, by decide +kernel, by decide +kernel⟩
abbrev s_l_are_numbers : Stmt := topS 36
abbrev N_l_are_numbers : List Str := ["_law_thing", "_law_many", "_law_one"]
theorem sc_l_are_numbers : FnScope N_l_are_numbers ["_law_thing", "_law_many"] (defScope s_l_are_numbers) := ⟨rfl, rfl, rfl, by decide +kernel, rfl, by decide +kernel, by decide +kernel⟩
abbrev s_l_foes : Stmt := topS 37
abbrev N_l_foes : List Str := ["_law_web_here", "_law_ring", "_law_tie"]
theorem sc_l_foes : FnScope N_l_foes ["_law_web_here", "_law_ring"] (defScope s_l_foes) := ⟨rfl, rfl, rfl, by decide +kernel, rfl, by decide +kernel, by decide +kernel⟩
abbrev s_l_other : Stmt := topS 38
abbrev N_l_other : List Str := ["_law_well_here", "_law_web_here", "_law_some", "_law_ties", "_law_tie"]
theorem sc_l_other : FnScope N_l_other ["_law_well_here", "_law_web_here", "_law_some"] (defScope s_l_other) := ⟨rfl, rfl, rfl, by decide +kernel, rfl, by decide +kernel, by decide +kernel⟩
abbrev s_l_with_other_kinds : Stmt := topS 39
abbrev N_l_with_other_kinds : List Str := ["_law_well_here", "_law_web_here", "_law_ties", "_law_k", "_law_at"]
theorem sc_l_with_other_kinds : FnScope N_l_with_other_kinds ["_law_well_here", "_law_web_here"] (defScope s_l_with_other_kinds) := ⟨rfl, rfl, rfl, by decide +kernel, rfl, by decide +kernel, by decide +kernel⟩
abbrev s_l_choice : Stmt := topS 40
abbrev N_l_choice : List Str := ["_law_one", "_law_other_here", "_law_turn", "_law_start", "_law_come", "_law_here", "_law_tie", "_law_there", "_law_beyond", "_law_due", "_law_place"]
theorem sc_l_choice : FnScope N_l_choice ["_law_one", "_law_other_here"] (defScope s_l_choice) := ⟨rfl, rfl, rfl, by decide +kernel, rfl, by decide +kernel, by decide +kernel⟩
abbrev s_l_right : Stmt := topS 41
abbrev N_l_right : List Str := ["_law_one", "_law_other_here", "_law_due", "_law_found"]
theorem sc_l_right : FnScope N_l_right ["_law_one", "_law_other_here"] (defScope s_l_right) := ⟨rfl, rfl, rfl, by decide +kernel, rfl, by decide +kernel, by decide +kernel⟩
abbrev s_law : Stmt := topS 42
abbrev N_law : List Str := ["_law_script", "_law_k", "_law_well_here", "_law_web_here", "_law_turn", "_law_other_here"]
theorem sc_law : FnScope N_law ["_law_script"] (defScope s_law) := ⟨rfl, rfl, rfl, by decide +kernel, rfl, by decide +kernel, by decide +kernel⟩
/-! ### own rules: a list against [] -/
section
variable {X : Cx}
def rEqE (K : PySem.W.Frag) : R2 := fun x y H Q => ∃ (a b : Addr) (xs : List V), x = .ref a ∧ y = .ref b ∧ SqL K H a xs ∧ SqL K H b [] ∧ Q (.bl xs.isEmpty) H
def rNeE (K : PySem.W.Frag) : R2 := fun x y H Q => ∃ (a b : Addr) (xs : List V), x = .ref a ∧ y = .ref b ∧ SqL K H a xs ∧ SqL K H b [] ∧ Q (.bl (!xs.isEmpty)) H
theorem op_eqE (hu : X.A.units < cLine) : OpR X (compareOp .Eq) (rEqE X.K) := by
  intro pins s σ H x y v u Q I rx ry h
  obtain ⟨a, b, xs, rfl, rfl, ha, hb, q⟩ := h
  obtain rfl : v = Value.ref a := rx
  obtain rfl : u = Value.ref b := ry
  obtain ⟨its, r1, p1, _⟩ := I.list ha
  obtain ⟨its2, r2, p2, _⟩ := I.list hb
  cases r2
  cases xs with
  | nil =>
    cases r1
    exact SeqAt.eq_listAt (e := fun _ => true) p1.isList p2.isList rfl hu (fun j h1 _ => absurd h1 (by simp)) ⟨.bl true, H, I, rfl, q⟩
  | cons z zs =>
    cases r1 with
    | cons r t => exact SeqAt.eq_list_lengthsAt p1.isList p2.isList (by simp) hu ⟨.bl false, H, I, rfl, q⟩
theorem op_neE (hu : X.A.units < cLine) : OpR X (compareOp .NotEq) (rNeE X.K) := by
  intro pins s σ H x y v u Q I rx ry h
  obtain ⟨a, b, xs, rfl, rfl, ha, hb, q⟩ := h
  obtain rfl : v = Value.ref a := rx
  obtain rfl : u = Value.ref b := ry
  obtain ⟨its, r1, p1, _⟩ := I.list ha
  obtain ⟨its2, r2, p2, _⟩ := I.list hb
  cases r2
  cases xs with
  | nil =>
    cases r1
    exact SeqAt.RcNeAt.lists (e := fun _ => true) p1.isList p2.isList rfl hu (fun j h1 _ => absurd h1 (by simp)) _ _ _ _ ⟨.bl false, H, I, rfl, q⟩
  | cons z zs =>
    cases r1 with
    | cons r t => exact SeqAt.RcNeAt.lists_lengths p1.isList p2.isList (by simp) hu _ _ _ _ ⟨.bl true, H, I, rfl, q⟩
end
section
variable {P : Program} {w : World} {K : PySem.W.Frag} {mg : Str → Option Value} {base : Heap}
/-! ### webs -/
structure Tie where
  one : Int
  other : Int
  foe : Bool
def kindS : Bool → Str
  | true => "foe"
  | false => "friend"
def TieV (H : Hp) (v : V) (t : Tie) : Prop := ∃ a, v = .ref a ∧ H a = some (.tup [.int t.one, .int t.other, .str (kindS t.foe)])
def TieOk (n : Int) (t : Tie) : Prop := 0 ≤ t.one ∧ t.one < n ∧ 0 ≤ t.other ∧ t.other < n ∧ t.one ≠ t.other
def WebAt (H : Hp) (v : V) (n : Int) (ts : List Tie) : Prop := ∃ a b vs, v = .ref a ∧ H a = some (.tup [.int n, .ref b]) ∧ H b = some (.tup vs) ∧ Paired (TieV H) vs ts
structure WebOk (n : Int) (ts : List Tie) : Prop where
  lo : 1 ≤ n
  hi : n ≤ 40
  few : ts.length ≤ 120
  ok : ∀ t ∈ ts, TieOk n t
/-- tuples stay -/
def Tk (H H' : Hp) : Prop := ∀ b xs, H b = some (.tup xs) → H' b = some (.tup xs)
theorem Tk.trans {H H1 H2 : Hp} (a : Tk H H1) (b : Tk H1 H2) : Tk H H2 := fun x xs h => b x xs (a x xs h)
theorem Same.tk {H H' : Hp} (s : Same H H') : Tk H H' := fun b xs h => s b _ h
theorem tk_lst {H : Hp} {l : Addr} {xs ys : List V} (h : H l = some (.lst xs)) : Tk H (upd H l (.lst ys)) := fun b zs e => by
  rw [upd_ne (ne_of e h (by intro z; cases z))]
  exact e
theorem TieV.tk {H H' : Hp} (k : Tk H H') {v : V} {t : Tie} (h : TieV H v t) : TieV H' v t := by
  obtain ⟨a, rfl, e⟩ := h
  exact ⟨a, rfl, k _ _ e⟩
theorem ties_tk {H H' : Hp} (k : Tk H H') {vs : List V} {ts : List Tie} (h : Paired (TieV H) vs ts) : Paired (TieV H') vs ts := Paired.mono (fun _ _ x => x.tk k) h
theorem WebAt.tk {H H' : Hp} (k : Tk H H') {v : V} {n : Int} {ts : List Tie} (h : WebAt H v n ts) : WebAt H' v n ts := by
  obtain ⟨a, b, vs, rfl, h1, h2, h3⟩ := h
  exact ⟨a, b, vs, rfl, k _ _ h1, k _ _ h2, ties_tk k h3⟩
theorem Kp.tk {d : Addr} {b : Nat} {H H' : Hp} (k : Kp d d H H') (D : Well H d b) : Tk H H' := fun c xs e => by
  obtain ⟨g, st, n, h1, h2⟩ := D
  have ne := ne_of e h1 (by intro z; cases z)
  exact k c _ ne ne e
theorem Kp.mut {d c l : Addr} {H H' : Hp} {o : HO} (k : Kp d c H H') (h : H l = none) : Kp d c H (upd H' l o) := fun b u h1 h2 e => by
  rw [upd_ne (ne_of_none e h)]
  exact k b u h1 h2 e
theorem Paired.at {α β : Type} {F : α → β → Prop} : ∀ {l : List α} {m : List β} {i : Nat} {a : α}, Paired F l m → l[i]? = some a → ∃ b, m[i]? = some b ∧ F a b
  | _, _, _, _, .nil, e => by simp at e
  | _, _, 0, _, .cons r _, e => by simp at e; subst e; exact ⟨_, rfl, r⟩
  | _, _, i + 1, a, .cons _ t, e => by
    obtain ⟨u, h1, h2⟩ := Paired.at (i := i) (a := a) t (by simpa using e)
    exact ⟨u, by simpa using h1, h2⟩
theorem Paired.at' {α β : Type} {F : α → β → Prop} : ∀ {l : List α} {m : List β} {i : Nat} {b : β}, Paired F l m → m[i]? = some b → ∃ a, l[i]? = some a ∧ F a b
  | _, _, _, _, .nil, e => by simp at e
  | _, _, 0, _, .cons r _, e => by simp at e; subst e; exact ⟨_, rfl, r⟩
  | _, _, i + 1, b, .cons _ t, e => by
    obtain ⟨u, h1, h2⟩ := Paired.at' (i := i) (b := b) t (by simpa using e)
    exact ⟨u, by simpa using h1, h2⟩
theorem getI {α : Type} {xs : List α} {i : Int} (h0 : 0 ≤ i) (h1 : i < (xs.length : Int)) : ∃ v, atI xs i = some v ∧ xs[i.toNat]? = some v := by
  obtain ⟨j, rfl⟩ : ∃ j : Nat, i = (j : Int) := ⟨i.toNat, by omega⟩
  have h2 : j < xs.length := by omega
  exact ⟨xs[j], atI_nat (List.getElem?_eq_getElem h2), by rw [Int.toNat_natCast]; exact List.getElem?_eq_getElem h2⟩
theorem other_ne {n a b : Int} (h0 : 0 ≤ a) (h1 : a < n) (g0 : 0 ≤ b) (g1 : b < n - 1) : a ≠ (a + 1 + b) % n := by
  by_cases h : a + 1 + b < n
  · rw [Int.emod_eq_of_lt (by omega) h]
    omega
  · have e : a + 1 + b = (a + 1 + b - n) + 1 * n := by omega
    rw [e, Int.add_mul_emod_self_right, Int.emod_eq_of_lt (by omega) (by omega)]
    omega
theorem pick2 {α : Type} (a b : α) (k : Bool) : atI [a, b] (if k then 1 else 0) = some (if k then b else a) := by
  cases k <;> rfl
def spWeb : Sp := fun vs H Q _ => ∃ (d : Addr) (b : Nat), vs = [.ref d] ∧ Well H d b ∧ b < 2 ^ 50 ∧
  ∀ v n ts H', WebAt H' v n ts → WebOk n ts → Well H' d (b + 1000) → Kp d d H H' → Q v H'
theorem Kp.free {d c l : Addr} {H H' : Hp} (k : Kp d c H H') (h : H' l = none) (h1 : l ≠ d) (h2 : l ≠ c) : H l = none := by
  cases e : H l with
  | none => rfl
  | some o =>
    rw [k l o h1 h2 e] at h
    cases h
theorem atI_of {xs : List V} {i : Int} {v : V} (h0 : 0 ≤ i) (e : xs[i.toNat]? = some v) : atI xs i = some v := by
  obtain ⟨j, rfl⟩ : ∃ j : Nat, i = (j : Int) := ⟨i.toNat, by omega⟩
  exact atI_nat (by rw [Int.toNat_natCast] at e; exact e)
theorem atI_ints {xs : List Int} {i : Int} (h0 : 0 ≤ i) (h1 : i < xs.length) : ∃ x ∈ xs, xs[i.toNat]? = some x ∧ atI (xs.map V.int) i = some (.int x) := by
  have h : i.toNat < xs.length := by omega
  exact ⟨xs[i.toNat], List.getElem_mem h, List.getElem?_eq_getElem h, atI_of h0 (by rw [List.getElem?_map, List.getElem?_eq_getElem h]; rfl)⟩
theorem at0 {α : Type} (x : α) (xs : List α) : atI (x :: xs) 0 = some x := atI_nat (j := 0) rfl
theorem ix0 (n : Nat) : ixN (n + 1) 0 = some 0 := by
  unfold ixN
  rw [if_pos (by decide), if_pos (by omega)]
  rfl
/-! ### a draw -/
theorem ok_l_draw {f : Addr} {fd : FuncData} (F : Fun K "_law_draw" "_law_draw" s_l_draw f fd) : FnOk P w K mg base CX0 1 f fd ["_law_well_here", "_law_most"] spDraw := by
  refine F.ok sc_l_draw (fun vs H Q E h => ?_) (fun cdv A outer s H vs Q E hr h => ?_)
  · obtain ⟨d, b, m, rfl, _⟩ := h
    rfl
  · obtain ⟨d, b, m, rfl, hD, hB, hm, hb, q⟩ := h
    obtain ⟨g, st, n, hd, hn⟩ := hD
    refine ⟨_, (pss_cons (ps_if (pt_cmpR op_gt (pe_ix ix_list (pv 0) pe_int (fun _ _ => rfl)) pe_int (nomark _))
        (pss_cons (ps_set (i := 2) sc_l_draw.nd rfl (.inl rfl) (pe_op op_mod (pe_ix ix_list (pv 0) pe_int (fun _ _ => rfl)) (pv 1)))
        (pss_cons (ps_asg (pe_op op_fdivW (pe_ix ix_list (pv 0) pe_int (fun _ _ => rfl)) (pv 1)) (pg_sub (pv 0) pe_int set_list))
        (pss_one (ps_ret (pv 2)))))
        pss_nil)
      (pss_cons (ps_asg (pe_op op_add (pe_ix ix_list (pv 0) pe_int (fun _ _ => rfl)) pe_int) (pg_sub (pv 0) pe_int set_list))
      (Evl.pss_cut (ps_set (i := 3) sc_l_draw.nd rfl (.inl rfl) (pe_op op_mod (pe_op op_mul (pe_op op_add (pe_ix ix_list (pv 0) pe_int (fun _ _ => rfl)) (pe_op op_mul (pe_op op_mul pe_int (pe_ix ix_list (pv 0) pe_int (fun _ _ => rfl))) (pe_ix ix_list (pv 0) pe_int (fun _ _ => rfl)))) pe_int) pe_int))
      (Evl.pss_cut (ps_set (i := 3) sc_l_draw.nd rfl (.inl rfl) (pe_op op_mod (pe_op op_add (pe_op op_add (pe_op op_mul (pv 3) (pv 3)) (pe_op op_mul pe_int (pv 3))) pe_int) pe_int))
      (pss_one (ps_ret (pe_op op_mod (pe_op op_fdiv (pe_op op_mod (pe_op op_add (pe_op op_mul (pv 3) (pv 3)) pe_int) pe_int) pe_int) (pv 1)))))))), ?_⟩
    refine ⟨.ref d, rfl, d, _, 0, .int g, rfl, rfl, SqL.of hd, rfl, g, 0, rfl, rfl, _, rfl, ite2 (fun _ => ?_) (fun _ => ?_)⟩
    · refine ⟨.ref d, rfl, d, _, 0, .int g, rfl, rfl, SqL.of hd, rfl, .int m, rfl, g, m, rfl, rfl, hm, ?_⟩
      refine ⟨.ref d, rfl, d, _, 0, .int g, rfl, rfl, SqL.of hd, rfl, .int m, rfl, g, m, rfl, rfl, wide_div hm hb (by decide) (by decide), .ref d, rfl, d, _, 0, 0, rfl, rfl, hd, rfl, ?_⟩
      exact ⟨.int (g % m), rfl, q _ _ (mod_rng hm).1 (mod_rng hm).2 ⟨g / m, st, n, by rw [upd_same]; rfl, by omega⟩ Kp.at_d⟩
    · refine ⟨.ref d, rfl, d, _, 2, .int n, rfl, rfl, SqL.of hd, rfl, n, 1, rfl, rfl, .ref d, rfl, d, _, 2, 2, rfl, rfl, hd, rfl, ?_⟩
      have hd2 : (upd H d (.lst ([V.int g, V.int st, V.int n].set 2 (.int (n + 1))))) d = some (.lst [.int g, .int st, .int ((n + 1 : Nat) : Int)]) := by rw [upd_same]; rfl
      have k2 : Kp d d H (upd H d (.lst ([V.int g, V.int st, V.int n].set 2 (.int (n + 1))))) := Kp.at_d
      generalize upd H d (.lst ([V.int g, V.int st, V.int n].set 2 (.int (n + 1)))) = H2 at hd2 k2
      refine ⟨fun σ' H5 => ∃ N : Int, σ' = [some (.ref d), some (.int m), none, some (.int N)] ∧ 0 ≤ N ∧ N < 2147483647 ∧ H5 = H2, ?_, ?_⟩
      · exact ⟨.ref d, rfl, d, _, 1, .int st, rfl, rfl, SqL.of hd2, rfl, .ref d, rfl, d, _, 2, _, rfl, rfl, SqL.of hd2, rfl, 7919, _, rfl, rfl, .inl ⟨by decide, by decide⟩, .ref d, rfl, d, _, 2, _, rfl, rfl, SqL.of hd2, rfl, _, _, rfl, rfl, .inr ⟨by omega, by omega⟩, _, _, rfl, rfl, _, 48271, rfl, rfl, .inr ⟨by decide, by decide⟩, _, 2147483647, rfl, rfl, show (0 : Int) < 2147483647 by decide, _, rfl, (mod_rng (by decide)).1, (mod_rng (by decide)).2, rfl⟩
      rintro σ' H5 ⟨N, rfl, hN0, hN1, rfl⟩
      refine ⟨fun σ' H6 => ∃ M : Int, σ' = [some (.ref d), some (.int m), none, some (.int M)] ∧ 0 ≤ M ∧ M < 2147483629 ∧ H6 = H5, ?_, ?_⟩
      · exact ⟨.int N, rfl, .int N, rfl, N, N, rfl, rfl, .inl ⟨by omega, by omega⟩, .int N, rfl, 69621, N, rfl, rfl, .inl ⟨by decide, by decide⟩, _, _, rfl, rfl, _, 7, rfl, rfl, _, 2147483629, rfl, rfl, show (0 : Int) < 2147483629 by decide, _, rfl, (mod_rng (by decide)).1, (mod_rng (by decide)).2, rfl⟩
      rintro σ' H6 ⟨M, rfl, hM0, hM1, rfl⟩
      refine ⟨.int M, rfl, .int M, rfl, M, M, rfl, rfl, .inl ⟨by omega, by omega⟩, _, 16807, rfl, rfl, _, 2147483587, rfl, rfl, show (0 : Int) < 2147483587 by decide, _, 64, rfl, rfl, ⟨by decide, by decide⟩, .int m, rfl, _, m, rfl, rfl, hm, ?_⟩
      exact q _ _ (mod_rng hm).1 (mod_rng hm).2 ⟨g, st, n + 1, hd2, by omega⟩ k2
/-! ### the well is laid -/
theorem cutV_len (xs : List V) : (cutV xs none (some 63)).length ≤ xs.length := by
  unfold cutV
  rw [List.length_take, List.length_drop]
  omega
def spWell (K : PySem.W.Frag) : Sp := fun vs H Q _ => ∃ (a : Addr) (ns : List Int) (k : Nat), vs = [.ref a, .int k] ∧ SqL K H a (ns.map V.int) ∧ k < 1000 ∧
  ∀ d H', Same H H' → H d = none → Well H' d 3 → Q (.ref d) H'
theorem ok_l_well {f : Addr} {fd : FuncData} (F : Fun K "_law_well" "_law_well" s_l_well f fd) (M : Free mg) : FnOk P w K mg base CX0 1 f fd ["_law_script", "_law_k"] (spWell K) := by
  refine F.ok sc_l_well (fun vs H Q E h => ?_) (fun cdv A outer s H vs Q E hr h => ?_)
  · obtain ⟨a, ns, k, rfl, _⟩ := h
    rfl
  · obtain ⟨a, ns, k, rfl, hS, hk, q⟩ := h
    refine ⟨_, (pss_cons (ps_set (i := 2) sc_l_well.nd rfl (.inl rfl) pe_int)
      (Evl.pss_cut (ps_if (pt_cmpR op_lt (pv 1) (pe_callB call_len_seq (by rfl) M.len PySem.boot_len (pa_cons (pe_slice sl_list (pv 0) po_none (po_some pe_int)) pa_nil)) (nomark _))
        (pss_one (ps_set (i := 2) sc_l_well.nd rfl (.inl rfl) (pe_ix ix_list (pv 0) (pv 1) (fun _ _ => rfl))))
        pss_nil)
      (pss_cons (ps_set (i := 3) sc_l_well.nd rfl (.inl rfl) pe_int)
      (Evl.pss_cut (ps_if (pt_cmpR op_ge (pv 2) (pe_op op_pow pe_int pe_int) (nomark _))
        (pss_one (ps_set (i := 3) sc_l_well.nd rfl (.inl rfl) (pv 2)))
        pss_nil)
      (pss_one (ps_ret (pe_lst (pa_cons (pv 3) (pa_cons (pe_op op_mod (pe_op op_add (pe_op op_add (pv 2) (pe_op op_mul (pe_op op_mul pe_int (pv 1)) (pv 1))) pe_int) pe_int) (pa_cons pe_int pa_nil)))))))))), ?_⟩
    refine ⟨fun σ' H' => ∃ x : Int, σ' = [some (.ref a), some (.int k), some (.int x), none] ∧ Same H H', ?_, ?_⟩
    · refine ⟨.int k, rfl, .ref a, rfl, 63, rfl, a, _, rfl, hS, fun p np => ⟨p, _, rfl, .inl (SqL.of upd_same), k, _, rfl, rfl, _, rfl, ite2 (fun e => ?_) (fun e => ?_)⟩⟩
      · have hlt := of_decide_eq_true e
        have h2 := cutV_len (ns.map V.int)
        rw [List.length_map] at h2
        obtain ⟨x, _, _, hx⟩ := atI_ints (xs := ns) (i := k) (by omega) (by omega)
        exact ⟨.ref a, rfl, .int k, rfl, a, _, k, _, rfl, rfl, (same_new np).seq hS, hx, x, rfl, same_new np⟩
      · exact ⟨0, rfl, same_new np⟩
    rintro σ' H1 ⟨x, rfl, s1⟩
    refine ⟨fun σ' H' => ∃ y : Int, σ' = [some (.ref a), some (.int k), some (.int x), some (.int y)] ∧ H' = H1, ?_, ?_⟩
    · refine ⟨.int x, rfl, 10, 18, rfl, rfl, ⟨by decide, by decide, by decide⟩, x, _, rfl, rfl, _, rfl, ite2 (fun _ => ?_) (fun _ => ?_)⟩
      · exact ⟨.int x, rfl, x, rfl, rfl⟩
      · exact ⟨0, rfl, rfl⟩
    rintro σ' H2 ⟨y, rfl, rfl⟩
    refine ⟨.int y, rfl, .int x, rfl, .int k, rfl, 7919, k, rfl, rfl, .inl ⟨by decide, by decide⟩, .int k, rfl, _, k, rfl, rfl, .inr ⟨by omega, by omega⟩, _, _, rfl, rfl, _, 48271, rfl, rfl, _, 2147483629, rfl, rfl, show (0 : Int) < 2147483629 by decide, by show 3 ≤ sizeLine; decide, fun d nd => ?_⟩
    exact q d _ (s1.trans (same_new nd)) (s1.free nd) ⟨y, _, 3, upd_same, Nat.le_refl _⟩
theorem ok_l_web {f : Addr} {fd : FuncData} (F : Fun K "_law_web" "_law_web" s_l_web f fd) (M : Free mg) (Dd : Df P w K mg base 1 "_law_draw" ["_law_well_here", "_law_most"] spDraw) : FnOk P w K mg base CX0 2 f fd ["_law_well_here"] spWeb := by
  obtain ⟨fD, fdD, GD, gD, kD, bD⟩ := Dd
  refine F.ok sc_l_web (fun vs H Q E h => ?_) (fun cdv A outer s H vs Q E hr h => ?_)
  · obtain ⟨d, b, rfl, _⟩ := h
    rfl
  · obtain ⟨d, b, rfl, hD, hB, q⟩ := h
    refine ⟨_, (Evl.pss_cut (ps_set (i := 1) sc_l_web.nd rfl (.inl rfl) (pe_callTy call_int1 (by rfl) M.int (by decide +kernel) (pa_cons (pe_cmpR op_eq (pe_call GD hr (by rfl) gD kD bD .nil pass0 (pa_cons (pv 0) (pa_cons pe_int pa_nil))) pe_int (nomark _)) pa_nil)))
      (Evl.pss_cut (ps_set (i := 2) sc_l_web.nd rfl (.inl rfl) (pe_op op_add pe_int (pe_call GD hr (by rfl) gD kD bD .nil pass0 (pa_cons (pv 0) (pa_cons (pe_ix ix_list (pe_lst (pa_cons pe_int (pa_cons pe_int pa_nil))) (pv 1) (fun _ _ => rfl)) pa_nil)))))
      (pss_cons (ps_set (i := 3) sc_l_web.nd rfl (.inl rfl) (pe_lst pa_nil))
      (pss_cons (ps_for PassesOwn.never rfl (pi_range1 (by rfl) M.range (pa_cons (pe_op op_mul (pe_call GD hr (by rfl) gD kD bD .nil pass0 (pa_cons (pv 0) (pa_cons (pe_ix ix_list (pe_lst (pa_cons pe_int (pa_cons pe_int pa_nil))) (pv 1) (fun _ _ => rfl)) pa_nil))) (pe_callTy call_int1 (by rfl) M.int (by decide +kernel) (pa_cons (pe_cmpR op_gt (pv 2) pe_int (nomark _)) pa_nil))) pa_nil)) (pg_name (i := 4) sc_l_web.nd rfl (.inl rfl))
        (pss_cons (ps_set (i := 5) sc_l_web.nd rfl (.inl rfl) (pe_call GD hr (by rfl) gD kD bD .nil pass0 (pa_cons (pv 0) (pa_cons (pv 2) pa_nil))))
        (pss_cons (ps_set (i := 6) sc_l_web.nd rfl (.inl rfl) (pe_op op_mod (pe_op op_add (pe_op op_add (pv 5) pe_int) (pe_call GD hr (by rfl) gD kD bD .nil pass0 (pa_cons (pv 0) (pa_cons (pe_op op_sub (pv 2) pe_int) pa_nil)))) (pv 2)))
        (Evl.pss_cut (ps_if (PW.pt (pw_and (pt_cmpR (op_neE hr.units0) (pv 3) (pe_lst pa_nil) (nomark _)) (pw_and1 (pt_cmpR op_eq (pe_call GD hr (by rfl) gD kD bD .nil pass0 (pa_cons (pv 0) (pa_cons pe_int pa_nil))) pe_int (nomark _)))))
          (pss_cons (ps_asg (pe_ix ix_list (pv 3) (pe_call GD hr (by rfl) gD kD bD .nil pass0 (pa_cons (pv 0) (pa_cons (pe_callB call_len_seq (by rfl) M.len PySem.boot_len (pa_cons (pv 3) pa_nil)) pa_nil))) (fun _ _ => rfl)) (pg_tup rfl (pgs_cons (pg_name (i := 5) sc_l_web.nd rfl (.inl rfl)) (pgs_cons (pg_name (i := 6) sc_l_web.nd rfl (.inl rfl)) (pgs_cons (pg_name (i := 7) sc_l_web.nd rfl (.inl rfl)) pgs_nil)))))
          (pss_one (ps_if (pt_cmpR op_eq (pe_call GD hr (by rfl) gD kD bD .nil pass0 (pa_cons (pv 0) (pa_cons pe_int pa_nil))) pe_int (nomark _))
            (pss_one (ps_par (i := 5) (j := 6) rfl sc_l_web.nd rfl rfl (by decide) rfl rfl (pa_cons (pv 6) (pa_cons (pv 5) pa_nil)) rfl))
            pss_nil)))
          pss_nil)
        (pss_one (ps_expr (pe_bm PySem.F.plainAttrs_list PySem.F.slot_list_append PySem.F.type_list_append mt_append (pv 3) (pa_cons (pe_tup (pa_cons (pv 5) (pa_cons (pv 6) (pa_cons (pe_ix ix_list (pe_lst (pa_cons pe_str (pa_cons pe_str pa_nil))) (pe_call GD hr (by rfl) gD kD bD .nil pass0 (pa_cons (pv 0) (pa_cons pe_int pa_nil))) (fun _ _ => rfl)) pa_nil)))) pa_nil))))))))
      (pss_one (ps_ret (pe_tup (pa_cons (pv 2) (pa_cons (pe_callTy call_tuple_of (by rfl) M.tuple (by decide +kernel) (pa_cons (pv 3) pa_nil)) pa_nil))))))))), ?_⟩
    -- great
    refine ⟨fun σ' H' => ∃ g : Bool, σ' = [some (.ref d), some (.int (if g = true then 1 else 0)), none, none, none, none, none, none] ∧ Well H' d (b + 1) ∧ Kp d d H H', ⟨.ref d, rfl, d, b, 8, rfl, hD, by omega, by decide, by decide, fun v1 H1 a1 b1 D1 K1 => ⟨rfl, .inr ⟨_, rfl, _, rfl, D1, K1⟩⟩⟩, ?_⟩
    rintro σ' H1 ⟨g, rfl, D1, K1⟩
    -- many
    refine ⟨fun σ' H' => ∃ n : Int, σ' = [some (.ref d), some (.int (if g = true then 1 else 0)), some (.int n), none, none, none, none, none] ∧ 1 ≤ n ∧ n ≤ 40 ∧ Well H' d (b + 2) ∧ Kp d d H H', ?_, ?_⟩
    · refine ⟨.ref d, rfl, by show 2 ≤ sizeLine; decide, fun p np => ?_⟩
      cases g
      · exact ⟨.int 0, rfl, p, _, 0, .int 6, rfl, rfl, SqL.of upd_same, rfl, d, b + 1, 6, rfl, D1.new np, by omega, by decide, by decide, fun v H2 a b D2 K2 => ⟨1, v, rfl, rfl, _, rfl, by omega, by omega, D2, (K1.trans (Kp.new np)).trans K2⟩⟩
      · exact ⟨.int 1, rfl, p, _, 1, .int 40, rfl, rfl, SqL.of upd_same, rfl, d, b + 1, 40, rfl, D1.new np, by omega, by decide, by decide, fun v H2 a b D2 K2 => ⟨1, v, rfl, rfl, _, rfl, by omega, by omega, D2, (K1.trans (Kp.new np)).trans K2⟩⟩
    clear D1 K1 H1
    rintro σ' H1 ⟨n, rfl, hn1, hn2, D1, K1⟩
    obtain ⟨k, rfl⟩ : ∃ k : Nat, n = k := ⟨n.toNat, by omega⟩
    -- ties = []
    refine ⟨Nat.zero_le _, fun L nL => ?_⟩
    have hLd := D1.ned nL
    have nL0 := K1.free nL hLd hLd
    have s1 : Same H1 (upd H1 L (.lst [])) := same_new nL
    have hL1 : (upd H1 L (.lst [])) L = some (.lst []) := upd_same
    have K1' : Kp d d H (upd H1 L (.lst [])) := K1.trans (Kp.new nL)
    have D1' := D1.same s1
    generalize upd H1 L (.lst []) = H2 at s1 hL1 K1' D1'
    -- how many
    refine ⟨.ref d, rfl, by show 2 ≤ sizeLine; decide, fun p np => ?_⟩
    have cnt : ∃ m : Int, atI [V.int 13, V.int 121] (if g = true then 1 else 0) = some (.int m) ∧ 0 < m ∧ m ≤ 121 := by
      cases g
      · exact ⟨13, rfl, by decide, by decide⟩
      · exact ⟨121, rfl, by decide, by decide⟩
    obtain ⟨m, em, hm0, hm1⟩ := cnt
    refine ⟨_, rfl, p, _, _, _, rfl, rfl, SqL.of upd_same, em, d, b + 2, m, rfl, D1'.new np, by omega, hm0, by omega, fun v H3 a3 b3 D3 K3 => ?_⟩
    refine ⟨.int k, rfl, k, 1, rfl, rfl, .inr ⟨_, rfl, v, _, rfl, rfl, .inl ⟨by omega, by omega⟩, _, rfl, ?_, ?_, ?_⟩⟩
    · by_cases hb : decide ((1 : Int) < k) = true
      · rw [hb]
        show -(2 ^ 62) ≤ v * 1
        omega
      · rw [Bool.not_eq_true] at hb
        rw [hb]
        show -(2 ^ 62) ≤ v * 0
        omega
    · by_cases hb : decide ((1 : Int) < k) = true
      · rw [hb]
        show v * 1 < 2 ^ 62
        omega
      · rw [Bool.not_eq_true] at hb
        rw [hb]
        show v * 0 < 2 ^ 62
        omega
    generalize hN : (v * (if decide ((1 : Int) < k) = true then 1 else 0)).toNat = N
    have hN2 : N ≤ 120 ∧ (0 < N → (1 : Int) < k) := by
      by_cases hb : (1 : Int) < k
      · rw [if_pos (decide_eq_true hb)] at hN
        exact ⟨by omega, fun _ => hb⟩
      · rw [if_neg (by simpa using hb)] at hN
        exact ⟨by omega, fun z => by omega⟩
    have K3' : Kp d d H H3 := (K1'.trans (Kp.new np)).trans K3
    have hL3 : H3 L = some (.lst []) := K3 _ _ hLd hLd (same_new np _ _ hL1)
    refine for_range (lo := 0) (n := N) (fun i σ' H' => ∃ (y4 y5 y6 y7 : Option V) (vs : List V) (ts : List Tie), σ' = [some (.ref d), some (.int (if g = true then 1 else 0)), some (.int k), some (.ref L), y4, y5, y6, y7] ∧ H' L = some (.lst vs) ∧ Paired (TieV H') vs ts ∧ ts.length = i ∧ (∀ t ∈ ts, TieOk k t) ∧ Well H' d (b + 3 + 6 * i) ∧ Kp d d H H') ?_ ?_ ?_
    · exact ⟨none, none, none, none, [], [], rfl, hL3, .nil, rfl, fun t ht => by simp at ht, D3, K3'⟩
    · clear K3' hL3 D3 K3
      rintro i σ' H4 hi ⟨y4, y5, y6, y7, vs, ts, rfl, hL, hP, hlen, hok, D4, K4⟩
      have hn := hN2.2 (by omega)
      refine ⟨.ref d, rfl, .int k, rfl, d, b + 3 + 6 * i, k, rfl, D4, by omega, by omega, by omega, fun v1 H5 a1 b1 D5 K5 => ?_⟩
      refine ⟨.int v1, rfl, v1, 1, rfl, rfl, .ref d, rfl, .int k, rfl, k, 1, rfl, rfl, d, b + 3 + 6 * i + 1, k - 1, rfl, D5, by omega, by omega, by omega, fun v2 H6 a2 b2 D6 K6 => ⟨v1 + 1, v2, rfl, rfl, .int k, rfl, _, k, rfl, rfl, show (0 : Int) < k by omega, ?_⟩⟩
      have hL6 : H6 L = some (.lst vs) := K6 _ _ hLd hLd (K5 _ _ hLd hLd hL)
      have hP6 : Paired (TieV H6) vs ts := ties_tk ((K5.tk D4).trans (K6.tk D5)) hP
      have K46 : Kp d d H H6 := (K4.trans K5).trans K6
      -- as one ahead, either way about
      refine ⟨fun σ' H' => ∃ (y4 y7 : Option V) (t' : Tie), σ' = [some (.ref d), some (.int (if g = true then 1 else 0)), some (.int k), some (.ref L), y4, some (.int t'.one), some (.int t'.other), y7] ∧ TieOk k t' ∧ H' L = some (.lst vs) ∧ Paired (TieV H') vs ts ∧ Well H' d (b + 3 + 6 * i + 5) ∧ Kp d d H H', ?_, ?_⟩
      · have ok1 : TieOk k ⟨v1, (v1 + 1 + v2) % k, false⟩ := ⟨a1, b1, (mod_rng (by omega)).1, (mod_rng (by omega)).2, other_ne a1 b1 a2 b2⟩
        refine ⟨.ref L, rfl, Nat.zero_le _, fun p np => ⟨L, p, vs, rfl, rfl, SqL.of (same_new np _ _ hL6), SqL.of upd_same, _, rfl, ?_⟩⟩
        by_cases hvs : vs = []
        · subst hvs
          exact ⟨_, _, ⟨v1, (v1 + 1 + v2) % k, false⟩, rfl, ok1, same_new np _ _ hL6, ties_tk (Same.tk (same_new np)) hP6, (D6.new np).mono (by omega), K46.trans (Kp.new np)⟩
        · have hpos : 0 < vs.length := List.length_pos_iff.mpr hvs
          have hb : (!vs.isEmpty) = true := by
            cases vs with
            | nil => exact absurd rfl hvs
            | cons z zs => rfl
          rw [hb]
          refine ⟨.ref d, rfl, d, _, 4, rfl, D6.new np, by omega, by decide, by decide, fun v3 H7 a3 b3 D7 K7 => ⟨rfl, _, rfl, ?_⟩⟩
          have hL7 : H7 L = some (.lst vs) := K7 _ _ hLd hLd (same_new np _ _ hL6)
          have hP7 : Paired (TieV H7) vs ts := ties_tk (K7.tk (D6.new np)) (ties_tk (Same.tk (same_new np)) hP6)
          have K17 : Kp d d H H7 := (K46.trans (Kp.new np)).trans K7
          refine ite2 (fun _ => ?_) (fun _ => ?_)
          · have hlv : vs.length = ts.length := Paired.length hP7
            refine ⟨.ref L, rfl, .ref d, rfl, .ref L, rfl, L, vs, rfl, .inl (SqL.of hL7), d, _, vs.length, rfl, D7, by omega, by omega, by omega, fun v4 H8 a4 b4 D8 K8 => ?_⟩
            have hL8 : H8 L = some (.lst vs) := K8 _ _ hLd hLd hL7
            have hP8 : Paired (TieV H8) vs ts := ties_tk (K8.tk D7) hP7
            obtain ⟨v, e1, e2⟩ := getI a4 b4
            obtain ⟨t', e3, a, rfl, e4⟩ := Paired.at hP8 e2
            have okt : TieOk k t' := hok t' (List.mem_of_getElem? e3)
            refine ⟨L, vs, v4, _, rfl, rfl, SqL.of hL8, e1, a, _, rfl, SqT.of e4, rfl, _, _, rfl, _, _, rfl, _, _, rfl, rfl, ?_⟩
            refine ⟨.ref d, rfl, d, _, 2, rfl, D8, by omega, by decide, by decide, fun v5 H9 a5 b5 D9 K9 => ⟨rfl, _, rfl, ?_⟩⟩
            have hL9 : H9 L = some (.lst vs) := K9 _ _ hLd hLd hL8
            have hP9 : Paired (TieV H9) vs ts := ties_tk (K9.tk D8) hP8
            have K19 : Kp d d H H9 := (K17.trans K8).trans K9
            refine ite2 (fun _ => ?_) (fun _ => ?_)
            · exact ⟨.int t'.other, rfl, .int t'.one, rfl, _, _, rfl, _, _, ⟨t'.other, t'.one, false⟩, rfl, ⟨okt.2.2.1, okt.2.2.2.1, okt.1, okt.2.1, Ne.symm okt.2.2.2.2⟩, hL9, hP9, D9, K19⟩
            · exact ⟨_, _, t', rfl, okt, hL9, hP9, D9, K19⟩
          · exact ⟨_, _, ⟨v1, (v1 + 1 + v2) % k, false⟩, rfl, ok1, hL7, hP7, D7.mono (by omega), K17⟩
      clear hL6 hP6 K46 D6 K6 K5 D5
      rintro σ' H6 ⟨y4', y7', t', rfl, okt, hL6, hP6, D6, K6⟩
      -- append
      refine ⟨.ref L, rfl, .inl ⟨rfl, _, SqL.of hL6⟩, .int t'.one, rfl, .int t'.other, rfl, by show 2 ≤ sizeLine; decide, fun p np => ?_⟩
      refine ⟨.ref d, rfl, d, _, 2, rfl, D6.new np, by omega, by decide, by decide, fun v7 H7 a7 b7 D7 K7 => ?_⟩
      have hp : p ≠ d := D6.ned np
      have fo : ∃ fo : Bool, atI [V.str "friend", V.str "foe"] v7 = some (.str (kindS fo)) := by
        have h01 : v7 = 0 ∨ v7 = 1 := by omega
        rcases h01 with e | e <;> subst e
        · exact ⟨false, rfl⟩
        · exact ⟨true, rfl⟩
      obtain ⟨fo, e5⟩ := fo
      refine ⟨p, _, v7, _, rfl, rfl, SqL.of (K7 _ _ hp hp upd_same), e5, by show 3 ≤ sizeLine; decide, fun q2 nq => ?_⟩
      have hL7 := same_new (o := .tup [.int t'.one, .int t'.other, .str (kindS fo)]) nq _ _ (K7 _ _ hLd hLd (same_new np _ _ hL6))
      have hP7 := ties_tk (Same.tk (same_new (o := .tup [.int t'.one, .int t'.other, .str (kindS fo)]) nq)) (ties_tk (K7.tk (D6.new np)) (ties_tk (Same.tk (same_new (o := .lst [.str "friend", .str "foe"]) np)) hP6))
      have hlv : vs.length = ts.length := Paired.length hP6
      refine ⟨L, vs, _, rfl, rfl, hL7, small1000 (by omega), ?_⟩
      refine ⟨_, _, _, _, vs ++ [.ref q2], ts ++ [⟨t'.one, t'.other, fo⟩], rfl, upd_same, Paired.snoc (ties_tk (tk_lst hL7) hP7) ⟨q2, rfl, tk_lst hL7 _ _ upd_same⟩, by rw [List.length_append, hlen]; rfl, fun t2 ht => ?_, ((D7.new nq).mut hLd).mono (by omega), (((K6.trans (Kp.new np)).trans K7).trans (Kp.new nq)).mut nL0⟩
      rcases List.mem_append.mp ht with h | h
      · exact hok t2 h
      · rw [List.mem_singleton.mp h]
        exact okt
    · rintro σ' H4 ⟨y4, y5, y6, y7, vs, ts, rfl, hL, hP, hlen, hok, D4, K4⟩
      refine ⟨.int k, rfl, .ref L, rfl, L, vs, rfl, .inl ⟨SqL.of hL, fun b nb => ⟨by show 2 ≤ sizeLine; decide, fun a na => ?_⟩⟩⟩
      have s2 := (same_new (o := .tup vs) nb).trans (same_new (o := .tup [.int k, .ref b]) na)
      exact q _ k ts _ ⟨a, b, vs, rfl, upd_same, same_new na _ _ upd_same, ties_tk (Same.tk s2) hP⟩ ⟨hn1, hn2, by omega, hok⟩ ((D4.same s2).mono (by omega)) (K4.trans (Same.kp s2))
end
/-! ### tuples cut and put together -/
section
variable {X : Cx}
theorem cutV_whole {xs : List V} {lo hi : Option Int} (h : HT.sIx xs.length 0 lo = 0 ∧ HT.sIx xs.length xs.length hi = xs.length) : cutV xs lo hi = xs := by
  unfold cutV
  rw [h.1, h.2]
  simp
def rSlU : V → Option Int → Option Int → Hp → VK → Prop := fun x lo hi H Q => ∃ a xs, x = .ref a ∧ H a = some (.tup xs) ∧ ∀ r H', Same H H' → H' r = some (.tup (cutV xs lo hi)) → Q (.ref r) H'
theorem sl_tupU : SlR X rSlU := by
  intro pins s σ H x v vl vu lo hi sl Q I rx hs pl pu h
  obtain ⟨a, xs, rfl, hx, q⟩ := h
  refine sl_tupA pins s σ H _ v vl vu lo hi sl Q I rx hs pl pu ⟨a, xs, rfl, SqT.of hx, fun hw => ?_, fun _ p np => ?_⟩
  · exact q a H (Same.refl H) (by rw [cutV_whole hw]; exact hx)
  · exact q p _ (same_new np) upd_same
def rCatU : R2 := fun x y H Q => ∃ a b xs ys, x = .ref a ∧ y = .ref b ∧ H a = some (.tup xs) ∧ H b = some (.tup ys) ∧ xs.length + ys.length ≤ 100000 ∧ ∀ r H', Same H H' → H' r = some (.tup (xs ++ ys)) → Q (.ref r) H'
theorem op_catU : OpR X (binaryOp .Add) rCatU := by
  intro pins s σ H x y v u Q I rx ry h
  obtain ⟨a, b, xs, ys, rfl, rfl, ha, hb, hz, q⟩ := h
  refine op_catA pins s σ H _ _ v u Q I rx ry ⟨a, b, xs, ys, rfl, rfl, SqT.of ha, SqT.of hb, Evl.sz_of hz, fun e => ?_, fun _ e => ?_, fun _ _ p np => ?_⟩
  · subst e
    exact q b H (Same.refl H) hb
  · subst e
    exact q a H (Same.refl H) (by rw [List.append_nil]; exact ha)
  · exact q p _ (same_new np) upd_same
end
/-! ### things of any kind -/
/-- its kind is known -/
def Kn (H : Hp) : V → Prop
  | .non => True
  | .bl _ => True
  | .int _ => True
  | .str _ => True
  | .ref a => (∃ xs, H a = some (.lst xs)) ∨ (∃ xs, H a = some (.tup xs)) ∨ ∃ kvs, H a = some (.dK kvs)
  | _ => False
def isI : V → Bool
  | .int _ => true
  | .bl _ => true
  | _ => false
def isB : V → Bool
  | .bl _ => true
  | _ => false
def isW : V → Bool
  | .int _ => true
  | _ => false
def isT (H : Hp) : V → Bool
  | .ref a => match H a with
    | some (.tup _) => true
    | _ => false
  | _ => false
section
variable {K : PySem.W.Frag} {H : Hp}
theorem kn_int {v : V} (h : Kn H v) : ∃ t, TyX K H v t ∧ PySem.W.kitOne K t (.type "int") = some (isI v) := by
  cases v with
  | non => exact ⟨_, .base .non, kit_ty (r := false) (by decide +kernel)⟩
  | bl b => exact ⟨_, .base (.bl b), kit_ty (r := true) (by decide +kernel)⟩
  | int i => exact ⟨_, .base (.int i), kit_ty (r := true) (by decide +kernel)⟩
  | str x => exact ⟨_, .base (.str x), kit_ty (r := false) (by decide +kernel)⟩
  | ref a =>
    rcases h with ⟨xs, h⟩ | ⟨xs, h⟩ | ⟨xs, h⟩
    · exact ⟨_, .base (.lst h), kit_ty (r := false) (by decide +kernel)⟩
    · exact ⟨_, .base (.tup h), kit_ty (r := false) (by decide +kernel)⟩
    · exact ⟨_, .base (.dK h), kit_ty (r := false) (by decide +kernel)⟩
  | byt b => exact h.elim
  | flt b => exact h.elim
  | ty n => exact h.elim
theorem kn_bool {v : V} (h : Kn H v) : ∃ t, TyX K H v t ∧ PySem.W.kitOne K t (.type "bool") = some (isB v) := by
  cases v with
  | non => exact ⟨_, .base .non, kit_ty (r := false) (by decide +kernel)⟩
  | bl b => exact ⟨_, .base (.bl b), kit_ty (r := true) (by decide +kernel)⟩
  | int i => exact ⟨_, .base (.int i), kit_ty (r := false) (by decide +kernel)⟩
  | str x => exact ⟨_, .base (.str x), kit_ty (r := false) (by decide +kernel)⟩
  | ref a =>
    rcases h with ⟨xs, h⟩ | ⟨xs, h⟩ | ⟨xs, h⟩
    · exact ⟨_, .base (.lst h), kit_ty (r := false) (by decide +kernel)⟩
    · exact ⟨_, .base (.tup h), kit_ty (r := false) (by decide +kernel)⟩
    · exact ⟨_, .base (.dK h), kit_ty (r := false) (by decide +kernel)⟩
  | byt b => exact h.elim
  | flt b => exact h.elim
  | ty n => exact h.elim
theorem kn_tup {v : V} (h : Kn H v) : ∃ t, TyX K H v t ∧ PySem.W.kitOne K t (.type "tuple") = some (isT H v) := by
  cases v with
  | non => exact ⟨_, .base .non, kit_ty (r := false) (by decide +kernel)⟩
  | bl b => exact ⟨_, .base (.bl b), kit_ty (r := false) (by decide +kernel)⟩
  | int i => exact ⟨_, .base (.int i), kit_ty (r := false) (by decide +kernel)⟩
  | str x => exact ⟨_, .base (.str x), kit_ty (r := false) (by decide +kernel)⟩
  | ref a =>
    unfold isT
    rcases h with ⟨xs, h⟩ | ⟨xs, h⟩ | ⟨xs, h⟩
    · exact ⟨_, .base (.lst h), by simp only [h]; exact kit_ty (r := false) (by decide +kernel)⟩
    · exact ⟨_, .base (.tup h), by simp only [h]; exact kit_ty (r := true) (by decide +kernel)⟩
    · exact ⟨_, .base (.dK h), by simp only [h]; exact kit_ty (r := false) (by decide +kernel)⟩
  | byt b => exact h.elim
  | flt b => exact h.elim
  | ty n => exact h.elim
theorem isT_at {v : V} (h : isT H v = true) : ∃ a xs, v = .ref a ∧ H a = some (.tup xs) := by
  cases v with
  | ref a =>
    unfold isT at h
    cases e : H a with
    | none => simp only [e] at h; cases h
    | some o =>
      cases o with
      | tup xs => exact ⟨a, xs, rfl, e⟩
      | _ => simp only [e] at h; cases h
  | _ => cases h
theorem isT_of {a : Addr} {xs : List V} (h : H a = some (.tup xs)) : isT H (.ref a) = true := by
  unfold isT
  simp only [h]
end
section
variable {P : Program} {w : World} {K : PySem.W.Frag} {mg : Str → Option Value} {base : Heap}
def spWhole : Sp := fun vs H Q _ => ∃ v, vs = [v] ∧ Kn H v ∧ Q (.bl (isW v)) H
theorem and_whole {v : V} : (isI v && !isB v) = isW v := by cases v <;> rfl
def wfrom (lo : Int) : V → Bool
  | .int i => decide (lo ≤ i)
  | _ => false
def parts (H : Hp) : V → Option (List V)
  | .ref a => match H a with
    | some (.tup xs) => some xs
    | _ => none
  | _ => none
theorem parts_of' {H : Hp} {a : Addr} {xs : List V} (h : H a = some (.tup xs)) : parts H (.ref a) = some xs := by
  unfold parts
  simp only [h]
theorem parts_none {H : Hp} {v : V} (h : isT H v = false) : parts H v = none := by
  cases v with
  | ref a =>
    unfold isT at h
    unfold parts
    cases e : H a with
    | none => simp only [e]
    | some o =>
      cases o with
      | tup xs => simp only [e] at h; cases h
      | _ => simp only [e]
  | _ => rfl
def lenIs (H : Hp) (v : V) (n : Int) : Bool := match parts H v with
  | some xs => decide ((xs.length : Int) = n)
  | none => false
theorem dec_int (a b : Int) : decide (V.int a = V.int b) = decide (a = b) := by
  by_cases h : a = b
  · rw [decide_eq_true h, h, decide_eq_true rfl]
  · rw [decide_eq_false h, decide_eq_false (fun z => h (V.int.inj z))]
/-! ### a def whose code object stands at c: its own table is at Pt -/
structure FunC (K : PySem.W.Frag) (x qual : Str) (st : Stmt) (f : Addr) (fd : FuncData) (c : Addr) : Prop where
  ex : ∃ (oc : Value) (od : Option Addr) (kV doc pm : Value) (an : Option Addr) (ct : Value) (osl : Array (Option Value)),
    fd = PySem.W.fnOf x qual (defArgs st) (defBody st) (defScope st) .none kV doc pm an (.ref c) ct ∧ K.lookup f = some ⟨oc, od, .func fd, osl⟩ ∧ PySem.W.codeIn K (.ref c) qual = true
  kp : PySem.W.keepIn K (.ref f) = true
theorem FunC.ok {x qual : Str} {st : Stmt} {f c : Addr} {fd : FuncData} {N ps : List Str} {k : Nat} {sp : Sp} (F : FunC K x qual st f fd c) (S : FnScope N ps (defScope st)) (len : ∀ vs H Q E, sp vs H Q E → vs.length = ps.length)
    (hbody : ∀ (A : Around) (outer : List Env) (s : Shared) (H : Hp) (vs : List V) (Q : VK) (E : XK), Room k (A.deeper (envOfC qual (defScope st) s.heap.objs.size f (.ref c))) → sp vs H Q E →
      ∃ t, PSs (cxOf CX0 P w K mg base N qual (defScope st) f (.ref c) A outer s H E).nox (defBody st) t ∧ t { nx := fun _ H' => Q .non H', rt := Q } (start N vs) H) : FnOk P w K mg base CX0 (k + 1) f fd ps sp := by
  obtain ⟨oc, od, kV, doc, pm, an, ct, osl, rfl, lk, hcd⟩ := F.ex
  refine fn_of lk hcd S len fun A outer s H vs Q E hr hsp => ?_
  obtain ⟨t, h, q⟩ := hbody A outer s H vs Q E hr hsp
  exact ⟨t, h.nox, q⟩
theorem FunC.fn {x qual : Str} {st : Stmt} {f c : Addr} {fd : FuncData} (F : FunC K x qual st f fd c) : Fun K x qual st f fd := by
  obtain ⟨oc, od, kV, doc, pm, an, ct, osl, rfl, lk, hcd⟩ := F.ex
  exact ⟨⟨oc, od, kV, doc, pm, an, _, ct, osl, rfl, lk, hcd⟩, F.kp⟩
theorem parts_at {H : Hp} {v : V} {xs : List V} (h : parts H v = some xs) : ∃ a, v = .ref a ∧ H a = some (.tup xs) := by
  cases v with
  | ref a =>
    unfold parts at h
    cases e : H a with
    | none => simp only [e] at h; cases h
    | some o =>
      cases o with
      | tup ys => simp only [e] at h; cases h; exact ⟨a, rfl, e⟩
      | _ => simp only [e] at h; cases h
  | _ => cases h
end
/-! ### all but the tables is kept -/
structure Kt (Ps : List Addr) (H H' : Hp) : Prop where
  tab : ∀ P ∈ Ps, GxR.TabG H' P
  keep : ∀ b o, b ∉ Ps → H b = some o → H' b = some o
def Tabs (Ps : List Addr) (H : Hp) : Prop := ∀ P ∈ Ps, GxR.TabG H P
theorem Kt.refl {Ps : List Addr} {H : Hp} (h : Tabs Ps H) : Kt Ps H H := ⟨h, fun _ _ _ e => e⟩
theorem Kt.trans {Ps : List Addr} {H H1 H2 : Hp} (a : Kt Ps H H1) (b : Kt Ps H1 H2) : Kt Ps H H2 := ⟨b.tab, fun x o h e => b.keep x o h (a.keep x o h e)⟩
theorem Kt.same {Ps : List Addr} {H H' : Hp} (h : Tabs Ps H) (s : Same H H') : Kt Ps H H' := ⟨fun P hP => by obtain ⟨ps, e, t⟩ := h P hP; exact ⟨ps, s _ _ e, t⟩, fun b o _ e => s b o e⟩
theorem Kt.tabbed {Ps : List Addr} {P : Addr} {H H' : Hp} (h : Tabs Ps H) (hP : P ∈ Ps) (t : GxR.Tabbed P H H') : Kt Ps H H' := by
  refine ⟨fun Q hQ => ?_, fun b o hb e => ?_⟩
  · by_cases e : Q = P
    · rw [e]
      exact t.1
    · obtain ⟨ps, e1, t1⟩ := h Q hQ
      exact ⟨ps, by rw [t.2 Q e]; exact e1, t1⟩
  · rw [t.2 b (fun z => hb (by rw [z]; exact hP))]
    exact e
theorem Tabs.out {Ps : List Addr} {H : Hp} {a : Addr} {o : HO} (t : Tabs Ps H) (h : H a = some o) (no : ∀ ps, o ≠ .tbl ps) : a ∉ Ps := fun z => by
  obtain ⟨ps, e, _⟩ := t a z
  rw [e] at h
  cases h
  exact no _ rfl
theorem Kt.tup {Ps : List Addr} {a : Addr} {H H' : Hp} {xs : List V} (k : Kt Ps H H') (t : Tabs Ps H) (h : H a = some (.tup xs)) : H' a = some (.tup xs) := k.keep a _ (t.out h fun _ z => by cases z) h
theorem Kt.lst {Ps : List Addr} {a : Addr} {H H' : Hp} {xs : List V} (k : Kt Ps H H') (t : Tabs Ps H) (h : H a = some (.lst xs)) : H' a = some (.lst xs) := k.keep a _ (t.out h fun _ z => by cases z) h
theorem Kt.dct {Ps : List Addr} {a : Addr} {H H' : Hp} {xs : List (Key × V)} (k : Kt Ps H H') (t : Tabs Ps H) (h : H a = some (.dK xs)) : H' a = some (.dK xs) := k.keep a _ (t.out h fun _ z => by cases z) h
theorem Kt.tk {Ps : List Addr} {H H' : Hp} (k : Kt Ps H H') (t : Tabs Ps H) : Tk H H' := fun _ _ e => k.tup t e
theorem Kt.kn {Ps : List Addr} {H H' : Hp} (k : Kt Ps H H') (t : Tabs Ps H) {v : V} (h : Kn H v) : Kn H' v := by
  cases v with
  | ref a =>
    rcases h with ⟨xs, h⟩ | ⟨xs, h⟩ | ⟨xs, h⟩
    · exact .inl ⟨xs, k.lst t h⟩
    · exact .inr (.inl ⟨xs, k.tup t h⟩)
    · exact .inr (.inr ⟨xs, k.dct t h⟩)
  | _ => exact h
theorem Kt.well {Ps : List Addr} {d : Addr} {b : Nat} {H H' : Hp} (k : Kt Ps H H') (t : Tabs Ps H) (D : Well H d b) : Well H' d b := by
  obtain ⟨g, st, n, e1, e2⟩ := D
  exact ⟨g, st, n, k.lst t e1, e2⟩
theorem Tabs.kp {Ps : List Addr} {d : Addr} {b : Nat} {H H' : Hp} (t : Tabs Ps H) (k : Kp d d H H') (D : Well H d b) : Tabs Ps H' := fun P hP => by
  obtain ⟨ps, e, x⟩ := t P hP
  obtain ⟨g, st, n, e1, e2⟩ := D
  have ne : P ≠ d := ne_of e e1 (by intro z; cases z)
  exact ⟨ps, k _ _ ne ne e, x⟩
theorem Tabs.same {Ps : List Addr} {H H' : Hp} (t : Tabs Ps H) (s : Same H H') : Tabs Ps H' := (Kt.same t s).tab
theorem Tabs.new {Ps : List Addr} {H : Hp} {a : Addr} {o : HO} (t : Tabs Ps H) (h : H a = none) : Tabs Ps (upd H a o) := t.same (same_new h)
/-! ### x in t of data of any depth -/
def rInT (K : PySem.W.Frag) : R2 := fun x y H Q => ∃ d ds, Dp K H x d ∧ Dp K H y (.tuple ds) ∧ SeqAt.shaped d = true ∧ SeqAt.shaped (.tuple ds) = true ∧ Q (.bl (ds.any fun z => PyData.eqv z d)) H
theorem op_inTup {X : Cx} (hu : X.A.units + 65 < cLine) : OpR X (compareOp .In) (rInT X.K) := by
  intro pins s σ H x y v u Q I rx ry want
  obtain ⟨d, ds, hd, he, sd, se, q⟩ := want
  obtain ⟨as, r1⟩ := Dp.reads I d x v hd rx
  obtain ⟨bs, r2⟩ := Dp.reads I (.tuple ds) y u he ry
  have lay : PyData.canLayAll0 ds = true := by
    have z := SeqAt.canLay_of_shaped se
    rw [PyData.canLay0] at z
    exact z
  have deep := SeqAt.depth_of_shaped sd
  exact SeqAt.in_tuple_reads r2 r1 lay (SeqAt.canLay_of_shaped sd) (by omega) ⟨.bl _, H, I, rfl, q⟩
/-! ### ties, walks, parts: the mathematics -/
def Adj (ts : List Tie) (a b : Int) (foe : Bool) : Prop := ∃ t ∈ ts, t.foe = foe ∧ ((t.one = a ∧ t.other = b) ∨ (t.one = b ∧ t.other = a))
theorem Adj.symm {ts : List Tie} {a b : Int} {k : Bool} (h : Adj ts a b k) : Adj ts b a k := by
  obtain ⟨t, ht, e, h⟩ := h
  exact ⟨t, ht, e, h.symm⟩
/-- a walk with so many foes, even or odd -/
inductive RP (ts : List Tie) (a : Int) : Int → Bool → Prop
  | nil : RP ts a a false
  | step {b c : Int} {p k : Bool} : RP ts a b p → Adj ts b c k → RP ts a c (p ^^ k)
def Rch (ts : List Tie) (a b : Int) : Prop := ∃ p, RP ts a b p
theorem RP.trans {ts : List Tie} {a b c : Int} {p q : Bool} (h : RP ts a b p) (g : RP ts b c q) : RP ts a c (p ^^ q) := by
  induction g with
  | nil =>
    rw [Bool.xor_false]
    exact h
  | step _ k ih =>
    rw [← Bool.xor_assoc]
    exact ih.step k
theorem RP.one {ts : List Tie} {a b : Int} {k : Bool} (h : Adj ts a b k) : RP ts a b k := by
  have q := RP.nil.step h
  rw [Bool.false_xor] at q
  exact q
theorem RP.symm {ts : List Tie} {a b : Int} {p : Bool} (h : RP ts a b p) : RP ts b a p := by
  induction h with
  | nil => exact .nil
  | step _ k ih =>
    have q := (RP.one k.symm).trans ih
    rw [Bool.xor_comm] at q
    exact q
theorem Rch.refl {ts : List Tie} {a : Int} : Rch ts a a := ⟨_, .nil⟩
theorem Rch.symm {ts : List Tie} {a b : Int} (h : Rch ts a b) : Rch ts b a := by
  obtain ⟨p, h⟩ := h
  exact ⟨p, h.symm⟩
theorem Rch.trans {ts : List Tie} {a b c : Int} (h : Rch ts a b) (g : Rch ts b c) : Rch ts a c := by
  obtain ⟨p, h⟩ := h
  obtain ⟨q, g⟩ := g
  exact ⟨_, h.trans g⟩
theorem Rch.adj {ts : List Tie} {a b : Int} {k : Bool} (h : Adj ts a b k) : Rch ts a b := ⟨_, RP.one h⟩
theorem Rch.ind {ts : List Tie} {a b : Int} (C : Int → Prop) (h : Rch ts a b) (h0 : C a) (hs : ∀ x y k, C x → Adj ts x y k → C y) : C b := by
  obtain ⟨p, h⟩ := h
  induction h with
  | nil => exact h0
  | step _ k ih => exact hs _ _ _ ih k
theorem Adj.rng {ts : List Tie} {n a b : Int} {k : Bool} (ok : ∀ t ∈ ts, TieOk n t) (h : Adj ts a b k) : 0 ≤ b ∧ b < n := by
  obtain ⟨t, ht, _, h⟩ := h
  obtain ⟨h1, h2, h3, h4, _⟩ := ok t ht
  rcases h with ⟨e1, e2⟩ | ⟨e1, e2⟩
  · omega
  · omega
theorem Rch.rng {ts : List Tie} {n a b : Int} (ok : ∀ t ∈ ts, TieOk n t) (ha : 0 ≤ a ∧ a < n) (h : Rch ts a b) : 0 ≤ b ∧ b < n := h.ind (fun x => 0 ≤ x ∧ x < n) ha fun _ _ _ _ k => k.rng ok
def leader (ts : List Tie) (s : Int) : Prop := ∀ q, Rch ts s q → s ≤ q
/-- rising lists of the same numbers are one -/
theorem rising_ext : ∀ {xs ys : List Int}, xs.Pairwise (· < ·) → ys.Pairwise (· < ·) → (∀ z, z ∈ xs ↔ z ∈ ys) → xs = ys
  | [], [], _, _, _ => rfl
  | [], y :: ys, _, _, h => by have := (h y).mpr (by simp); simp at this
  | x :: xs, [], _, _, h => by have := (h x).mp (by simp); simp at this
  | x :: xs, y :: ys, hx, hy, h => by
    rw [List.pairwise_cons] at hx hy
    have e : x = y := by
      have h1 := (h x).mp (by simp)
      have h2 := (h y).mpr (by simp)
      rcases List.mem_cons.mp h1 with e | e
      · exact e
      · rcases List.mem_cons.mp h2 with e' | e'
        · exact e'.symm
        · have := hx.1 y e'
          have := hy.1 x e
          omega
    subst e
    rw [rising_ext hx.2 hy.2 fun z => ?_]
    constructor
    · intro hz
      rcases List.mem_cons.mp ((h z).mp (List.mem_cons_of_mem _ hz)) with e | e
      · have := hx.1 z hz
        omega
      · exact e
    · intro hz
      rcases List.mem_cons.mp ((h z).mpr (List.mem_cons_of_mem _ hz)) with e | e
      · have := hy.1 z hz
        omega
      · exact e
/-- 0, 1, .., n - 1 -/
def rng (n : Nat) : List Int := (List.range n).map fun (i : Nat) => (i : Int)
theorem mem_rng {n : Nat} {z : Int} : z ∈ rng n ↔ 0 ≤ z ∧ z < n := by
  unfold rng
  rw [List.mem_map]
  constructor
  · rintro ⟨i, hi, rfl⟩
    have := List.mem_range.mp hi
    omega
  · rintro ⟨h1, h2⟩
    exact ⟨z.toNat, List.mem_range.mpr (by omega), by omega⟩
theorem rng_rising (n : Nat) : (rng n).Pairwise (· < ·) := by
  unfold rng
  rw [List.pairwise_map]
  exact List.pairwise_lt_range.imp (by intro a b h; omega)
theorem rng_succ (n : Nat) : rng (n + 1) = rng n ++ [(n : Int)] := by
  unfold rng
  rw [List.range_succ, List.map_append]
  rfl
theorem rng_length (n : Nat) : (rng n).length = n := by
  unfold rng
  rw [List.length_map, List.length_range]
open Classical in
/-- the part of s -/
noncomputable def partOf (ts : List Tie) (n : Nat) (s : Int) : List Int := (rng n).filter fun p => decide (Rch ts s p)
open Classical in
/-- the parts by their first places, below i -/
noncomputable def partsTo (ts : List Tie) (n i : Nat) : List (List Int) := ((rng i).filter fun s => decide (leader ts s)).map (partOf ts n)
open Classical in
theorem partsTo_succ (ts : List Tie) (n i : Nat) : partsTo ts n (i + 1) = partsTo ts n i ++ (if leader ts i then [partOf ts n i] else []) := by
  unfold partsTo
  rw [rng_succ, List.filter_append, List.map_append]
  congr 1
  by_cases h : leader ts (i : Int)
  · rw [if_pos h, List.filter_cons, if_pos (decide_eq_true h)]
    rfl
  · rw [if_neg h, List.filter_cons, if_neg (by simpa using h)]
    rfl
theorem part_rising (ts : List Tie) (n : Nat) (s : Int) : (partOf ts n s).Pairwise (· < ·) := (rng_rising n).filter _
theorem mem_part {ts : List Tie} {n : Nat} {s z : Int} : z ∈ partOf ts n s ↔ (0 ≤ z ∧ z < n) ∧ Rch ts s z := by
  unfold partOf
  rw [List.mem_filter, mem_rng]
  simp
/-! ### the least place that each comes to, gone over again and again -/
def relax (f : Int → Int) (t : Tie) : Int → Int := fun x => if x = t.one ∨ x = t.other then min (f t.one) (f t.other) else f x
def rounds (ts : List Tie) : Nat → Int → Int
  | 0 => fun x => x
  | r + 1 => ts.foldl relax (rounds ts r)
theorem relax_le (f : Int → Int) (t : Tie) (x : Int) : relax f t x ≤ f x := by
  unfold relax
  split
  · rename_i h
    rcases h with rfl | rfl <;> omega
  · exact Int.le_refl _
theorem fold_le : ∀ (l : List Tie) (f : Int → Int) (x : Int), l.foldl relax f x ≤ f x
  | [], _, _ => Int.le_refl _
  | t :: l, f, x => Int.le_trans (fold_le l (relax f t) x) (relax_le f t x)
theorem fold_tie : ∀ (l : List Tie) (f : Int → Int) (t : Tie), t ∈ l → l.foldl relax f t.one ≤ min (f t.one) (f t.other) ∧ l.foldl relax f t.other ≤ min (f t.one) (f t.other)
  | t' :: l, f, t, h => by
    rcases List.mem_cons.mp h with e | e
    · subst e
      have h1 := fold_le l (relax f t) t.one
      have h2 := fold_le l (relax f t) t.other
      have e1 : relax f t t.one = min (f t.one) (f t.other) := by unfold relax; rw [if_pos (.inl rfl)]
      have e2 : relax f t t.other = min (f t.one) (f t.other) := by unfold relax; rw [if_pos (.inr rfl)]
      rw [e1] at h1
      rw [e2] at h2
      exact ⟨h1, h2⟩
    · have ih := fold_tie l (relax f t') t e
      have h1 := relax_le f t' t.one
      have h2 := relax_le f t' t.other
      exact ⟨Int.le_trans ih.1 (by omega), Int.le_trans ih.2 (by omega)⟩
theorem fold_rch {ts : List Tie} : ∀ (l : List Tie) (f : Int → Int), (∀ t ∈ l, t ∈ ts) → (∀ x, Rch ts x (f x)) → ∀ x, Rch ts x (l.foldl relax f x)
  | [], _, _, h => h
  | t :: l, f, hl, h => fold_rch l (relax f t) (fun t' ht => hl t' (List.mem_cons_of_mem _ ht)) fun x => by
    have ad : Rch ts t.one t.other := Rch.adj (k := t.foe) ⟨t, hl t (by simp), rfl, .inl ⟨rfl, rfl⟩⟩
    unfold relax
    split
    · rename_i hx
      have key : Rch ts x t.one ∧ Rch ts x t.other := by
        rcases hx with e | e <;> subst e
        · exact ⟨Rch.refl, ad⟩
        · exact ⟨ad.symm, Rch.refl⟩
      rcases Int.le_total (f t.one) (f t.other) with q | q
      · rw [Int.min_eq_left q]
        exact key.1.trans (h _)
      · rw [Int.min_eq_right q]
        exact key.2.trans (h _)
    · exact h x
theorem rounds_rch (ts : List Tie) : ∀ (r : Nat) (x : Int), Rch ts x (rounds ts r x)
  | 0, _ => Rch.refl
  | r + 1, x => fold_rch ts _ (fun _ h => h) (rounds_rch ts r) x
theorem filter_lt {p q : Int → Bool} : ∀ {l : List Int}, (∀ x ∈ l, q x = true → p x = true) → (∃ x ∈ l, p x = true ∧ q x = false) → (l.filter q).length < (l.filter p).length
  | [], _, ⟨x, hx, _⟩ => by simp at hx
  | y :: l, hi, ⟨x, hx, hp, hq⟩ => by
    have mono : (l.filter q).length ≤ (l.filter p).length := by
      have hi' : ∀ x ∈ l, q x = true → p x = true := fun x h => hi x (List.mem_cons_of_mem _ h)
      clear hi hx hp hq
      induction l with
      | nil => exact Nat.le_refl _
      | cons z l ih =>
        have ih := ih fun x h => hi' x (List.mem_cons_of_mem _ h)
        rw [List.filter_cons, List.filter_cons]
        have hz := hi' z (by simp)
        cases h1 : q z <;> cases h2 : p z <;> simp_all <;> omega
    rw [List.filter_cons, List.filter_cons]
    rcases List.mem_cons.mp hx with e | e
    · subst e
      rw [hq, hp]
      simp
      omega
    · have ih := filter_lt (l := l) (fun x h => hi x (List.mem_cons_of_mem _ h)) ⟨x, e, hp, hq⟩
      have hy := hi y (by simp)
      cases h1 : q y <;> cases h2 : p y <;> simp_all <;> omega
open Classical in
/-- behind as many rounds as there are places each has its part's least place -/
theorem rounds_least {ts : List Tie} {n : Nat} (ok : ∀ t ∈ ts, TieOk n t) {m p : Int} (hm : leader ts m) (h0 : 0 ≤ m ∧ m < n) (hp : Rch ts m p) : rounds ts n p = m := by
  have ge : ∀ r x, Rch ts m x → m ≤ rounds ts r x := fun r x hx => hm _ (hx.trans (rounds_rch ts r x))
  have mono : ∀ r x, rounds ts (r + 1) x ≤ rounds ts r x := fun r x => fold_le ts _ x
  have atm : ∀ r, rounds ts r m = m := fun r => by
    have h1 := ge r m Rch.refl
    have h2 : rounds ts r m ≤ m := by
      induction r with
      | zero => exact Int.le_refl _
      | succ r ih => exact Int.le_trans (mono r m) (ih (ge r m Rch.refl))
    omega
  have cnt : ∀ r, ((rng n).filter fun x => decide (Rch ts m x ∧ rounds ts r x ≠ m)).length ≤ n - r := fun r => by
    induction r with
    | zero =>
      refine Nat.le_trans (List.length_filter_le _ _) ?_
      rw [rng_length]
      omega
    | succ r ih =>
      by_cases hex : ∃ x, Rch ts m x ∧ rounds ts r x ≠ m
      · obtain ⟨x, hx, hne⟩ := hex
        -- an edge over which it comes
        have edge : ∃ a b k, Rch ts m a ∧ rounds ts r a = m ∧ Adj ts a b k ∧ rounds ts r b ≠ m := by
          by_cases hn : ∃ a b k, Rch ts m a ∧ rounds ts r a = m ∧ Adj ts a b k ∧ rounds ts r b ≠ m
          · exact hn
          · exfalso
            refine hne (hx.ind (fun y => Rch ts m y ∧ rounds ts r y = m) ⟨Rch.refl, atm r⟩ fun a b k ha k' => ⟨ha.1.trans (Rch.adj k'), ?_⟩).2
            by_cases hb : rounds ts r b = m
            · exact hb
            · exact absurd ⟨a, b, k, ha.1, ha.2, k', hb⟩ hn
        obtain ⟨a, b, k, ha, ha2, hab, hb⟩ := edge
        have hmb : Rch ts m b := ha.trans (Rch.adj hab)
        have hb' : rounds ts (r + 1) b = m := by
          have h1 := ge (r + 1) b hmb
          obtain ⟨t, ht, _, h⟩ := hab
          have ft := fold_tie ts (rounds ts r) t ht
          have h2 : rounds ts (r + 1) b ≤ m := by
            rcases h with ⟨e1, e2⟩ | ⟨e1, e2⟩
            · have q := ft.2
              rw [e1, e2, ha2] at q
              exact Int.le_trans q (by omega)
            · have q := ft.1
              rw [e1, e2, ha2] at q
              exact Int.le_trans q (by omega)
          omega
        have lt := filter_lt (p := fun x => decide (Rch ts m x ∧ rounds ts r x ≠ m)) (q := fun x => decide (Rch ts m x ∧ rounds ts (r + 1) x ≠ m)) (l := rng n) (fun x _ hq => by
          have hq := of_decide_eq_true hq
          refine decide_eq_true ⟨hq.1, fun z => hq.2 ?_⟩
          have h1 := ge (r + 1) x hq.1
          have h2 := mono r x
          omega) ⟨b, mem_rng.mpr (hmb.rng ok h0), decide_eq_true ⟨hmb, hb⟩, decide_eq_false fun z => z.2 hb'⟩
        omega
      · have e : (rng n).filter (fun x => decide (Rch ts m x ∧ rounds ts (r + 1) x ≠ m)) = [] := by
          rw [List.filter_eq_nil_iff]
          intro x _ hq
          have hq := of_decide_eq_true hq
          refine hex ⟨x, hq.1, fun z => hq.2 ?_⟩
          have h1 := ge (r + 1) x hq.1
          have h2 := mono r x
          omega
        rw [e]
        exact Nat.zero_le _
  have c := cnt n
  rw [Nat.sub_self] at c
  have e := List.eq_nil_of_length_eq_zero (Nat.le_zero.mp c)
  by_cases hne : rounds ts n p = m
  · exact hne
  · rw [List.filter_eq_nil_iff] at e
    exact absurd (decide_eq_true ⟨hp, hne⟩) (e p (mem_rng.mpr (hp.rng ok h0)))
open Classical in
/-- each has a least place -/
theorem has_leader {ts : List Tie} {n : Nat} (ok : ∀ t ∈ ts, TieOk n t) {p : Int} (h0 : 0 ≤ p ∧ p < n) : ∃ m, leader ts m ∧ (0 ≤ m ∧ m < n) ∧ Rch ts m p := by
  have key : ∀ (k : Nat) (x : Int), x = k → Rch ts p x → ∃ m, leader ts m ∧ (0 ≤ m ∧ m < n) ∧ Rch ts m p := by
    intro k
    induction k using Nat.strongRecOn with
    | ind k ih =>
      intro x hx hr
      have hxr := hr.rng ok h0
      by_cases hl : leader ts x
      · exact ⟨x, hl, hxr, hr.symm⟩
      · have hl' : ∃ q, Rch ts x q ∧ q < x := by
          by_cases h : ∃ q, Rch ts x q ∧ q < x
          · exact h
          · exfalso
            refine hl fun q hq => ?_
            by_cases h' : q < x
            · exact absurd ⟨q, hq, h'⟩ h
            · omega
        obtain ⟨q, hq, hlt⟩ := hl'
        have hqr := hq.rng ok hxr
        exact ih q.toNat (by omega) q (by omega) (hr.trans hq)
  exact key p.toNat p (by omega) Rch.refl
/-! ### tuples that are known to have no dict: their methods -/
def NoD (H : Hp) (p : Addr) (xs : List V) : Prop := ∃ o : Obj, o.dict = none ∧ H p = some (.frz o (.tup xs))
theorem NoD.same {H H' : Hp} {p : Addr} {xs : List V} (h : NoD H p xs) (s : Same H H') : NoD H' p xs := by
  obtain ⟨o, h1, h2⟩ := h
  exact ⟨o, h1, s _ _ h2⟩
theorem NoD.sq {K : PySem.W.Frag} {H : Hp} {p : Addr} {xs : List V} (h : NoD H p xs) : SqT K H p xs := by
  obtain ⟨o, h1, h2⟩ := h
  exact .inl (.inr ⟨o, h2⟩)
theorem NoD.kp {H H' : Hp} {d p : Addr} {b : Nat} {xs : List V} (h : NoD H p xs) (k : Kp d d H H') (D : Well H d b) : NoD H' p xs := by
  obtain ⟨o, h1, h2⟩ := h
  obtain ⟨g, st, n, e1, _⟩ := D
  have ne : p ≠ d := ne_of h2 e1 (by intro z; cases z)
  exact ⟨o, h1, k _ _ ne ne h2⟩
section
variable {X : Cx}
theorem call_tuple_ofZ : CallR X (.type "tuple") (fun xs H Q => ∃ p ys, xs = [.ref p] ∧ SqL X.K H p ys ∧ ∀ l o, o.dict = none → H l = none → Q (.ref l) (upd H l (.frz o (.tup ys)))) := by
  intro pins s σ H xs us Q I r h
  obtain ⟨p, ys, rfl, hq, q⟩ := h
  obtain ⟨u, rfl, rx⟩ := vals1 r
  cases rx
  obtain ⟨its, r', pl, hz⟩ := I.list hq
  have hlen := r'.length
  refine call_tuple_list pl.isList (fun h' kp => ?_) (by simp only [List.size_toArray] <;> omega)
  have I1 : Inv X pins σ H { s with heap := h' } := I.kept (t' := s.toks) kp
  have I2 : Inv X pins σ (upd H h'.objs.size (.frz { cls := .type "tuple", data := .seq its.toArray } (.tup ys))) { s with heap := h'.push { cls := .type "tuple", data := .seq its.toArray } } :=
    I1.laid (t' := s.toks) (fun b o e => Heap.get?_push_of_some _ e) (Nat.le_refl _) (show ObjOk X.prog X.w _ _ _ (.frz { cls := .type "tuple", data := .seq its.toArray } (.tup ys)) from ⟨Heap.get?_push_size _ rfl, hz, its, r', IsTup.new _ _⟩)
  exact ⟨.ref h'.objs.size, _, I2, rfl, q _ _ rfl (I1.hok.fresh (Nat.le_refl _))⟩
def tTupRgZ (te : L2.St → Hp → (Int → Int → Hp → Prop) → Prop) : TE := fun σ H Q => te σ H fun a b H1 => RgOk a b ∧ ∀ q o, o.dict = none → H1 q = none → Q (.ref q) (upd H1 q (.frz o (.tup (rgV a b))))
theorem pe_tupRgZ {e : Expr} {te : L2.St → Hp → (Int → Int → Hp → Prop) → Prop} {p pos : Pos} (hc : X.calm = true) (hg : Gl X "tuple") (hm : X.mg "tuple" = none) (he : PRg X e te) (na : starEach [e] X.env = (false, eval e X.env) :: starEach [] X.env := by rfl) : PE X (.Call (.Name "tuple" p) [e] [] pos) (tTupRgZ te) := by
  refine ⟨fun pins s σ H Q I h => ?_⟩
  refine Call_ (ld_blt I hg hm boot_tuple (PyProof.Rows.callWith_type1 (args_cons (thn (he pins s σ H _ I h) fun x s1 ⟨r, a, b, t, u, v, H1, ex, hr, I1, ok, q⟩ => args_nil ?_) na) na))
  subst ex
  obtain ⟨b1, b2, b3, b4, b5⟩ := ok
  refine call_tuple_range (n := (b - a).toNat) (I1.ok.hd hc) hr (small_one b1 b2 b3 b4) (rangeSize_nat a b) b5 fun h' tk acc hk hi => ?_
  have I2 : Inv X pins σ H1 { s1 with heap := h', toks := tk } := I1.kept hk
  refine ⟨.ref h'.objs.size, upd H1 h'.objs.size (.frz { cls := .type "tuple", data := .seq acc } (.tup (rgV a b))), I2.laid (t' := tk) (fun c o e => Heap.get?_push_of_some _ e) (Nat.le_refl _) (show ObjOk X.prog X.w _ _ _ (.frz { cls := .type "tuple", data := .seq acc } (.tup (rgV a b))) from ⟨Heap.get?_push_size _ rfl, ?_, acc.toList, vals_rg hi, ?_⟩), rfl, q _ _ rfl (I2.hok.fresh (Nat.le_refl _))⟩
  · rw [rgV_length, sizeLine_eq]; omega
  · rw [Array.toArray_toList]; exact IsTup.new _ _
/-- a method of such a tuple -/
def tBMT (r : V → List V → Hp → VK → Prop) (to : TE) (t : TA) : TE := fun σ H Q => to σ H fun x H1 => (∃ p xs, x = .ref p ∧ NoD H1 p xs) ∧ t σ H1 fun xs H2 => r x xs H2 Q
theorem pe_bmT {o e : Expr} {es : List Expr} {to : TE} {t : TA} {name : Str} {apos cpos : Pos} {id : String} {r : V → List V → Hp → VK → Prop} (slot : Slot "tuple" name id) (hty : typeOf (.builtin id) = pure (.type "method_descriptor")) (hm : MtR X id r) (ho : PE X o to) (ha : PA X (e :: es) t)
    (hbase : attributeBase o name X.env (eval o X.env) = eval o X.env := by rfl)
    (hfew : ((backTo cpos (starEach (e :: es) X.env)).all (fun x => !x.1) && (backToKw cpos (keywordEach [] X.env)).all (fun x => x.1.isSome)
      && decide ((e :: es).length + ([] : List Keyword).length + (if ([] : List Keyword).isEmpty then 0 else 1) < 30)) = true := by rfl)
    (hline : (apos.endLine == cpos.line) = true := by rfl) (hs : starEach (e :: es) X.env = (false, eval e X.env) :: starEach es X.env := by rfl) (hplain : (backTo cpos (starEach es X.env)).any (·.1) = false := by rfl) :
    PE X (.Call (.Attribute o name apos) (e :: es) [] cpos) (tBMT r to t) := by
  refine ⟨fun pins s σ H Q I h => ?_⟩
  refine wpAny_Call_method_late hbase hfew hline rfl (thn (ho.run pins s σ H _ I h) fun v s1 ⟨x, H1, I1, r1, ⟨p, xs, ex, ob, od, hp⟩, q1⟩ => ?_)
  subst ex
  obtain rfl : v = Value.ref p := r1
  obtain ⟨e1, hz, its, rv, o2, e2, c2, n2, d2⟩ := (show ObjOk X.prog X.w H1 s1.heap p (.frz ob (.tup xs)) from I1.hok p _ hp)
  rw [e1] at e2
  cases e2
  refine ⟨"tuple", id, PySem.F.plainAttrs_tuple, slot, hty, ⟨ob, e1, c2⟩, fun a ea => ?_, ?_⟩
  · cases ea
    exact ⟨ob, e1, od⟩
  have hA := ha.run cpos pins s1 σ H1 _ I1 q1
  rw [hs] at hA ⊢
  refine Calls.callWith_builtin (by show (false || (backTo cpos (starEach es X.env)).any (·.1)) = false; rw [hplain] <;> rfl) (Calls.evalArgs_plain ?_)
  exact thn hA fun us s2 ⟨vs, H2, I2, r2, q2⟩ => hm pins s2 σ H2 (.ref p) vs (.ref p) us Q I2 rfl r2 q2
def rCntT (K : PySem.W.Frag) : V → List V → Hp → VK → Prop := fun x xs H Q => ∃ (p : Addr) (ns : List Int) (k : Int), x = .ref p ∧ xs = [.int k] ∧ SqT K H p (ns.map V.int) ∧ Q (.int (ns.count k : Nat)) H
theorem mt_tcount : MtR X "tuple.count" (rCntT X.K) := by
  intro pins s σ H x xs v us Q I rx rxs h
  obtain ⟨p, ns, k, rfl, rfl, hs, q⟩ := h
  cases rx
  obtain ⟨u, rfl, ru⟩ := rxs.one
  obtain ⟨t, rfl⟩ := ru
  obtain ⟨its, rv, ⟨⟨cls, dd, data, sl⟩, ho, hc, n, hd⟩, hlen⟩ := I.tuple hs
  simp only at hc hd
  subst hc hd
  have hi := ints_of_vals rv
  refine call_meets PySem.F.slot_tuple_count ⟨_, ho, rfl⟩ PySem.F.entry_tuple_count (PySem.F.args_tuple_count_2 _ _)
    (SeqAt.tuple_countAt p its.toArray n dd sl (.int k t) (eqk k)) ⟨ho, fun y hy => (eqk_gives hi y (by simpa using hy)).at _ _, ?_⟩
  have ec : its.toArray.toList.countP (eqk k) = ns.count k := eqk_count hi
  refine ⟨.int (ns.count k : Nat), H, I.tok _, ⟨s.toks, ?_⟩, q⟩
  show Value.int ((its.toArray.toList.countP (eqk k) : Nat) : Int) s.toks = Value.int ((ns.count k : Nat) : Int) s.toks
  rw [ec]
end
/-! ### zip of two tuples -/
theorem walk_zipT {K : PySem.W.Frag} {a b : Addr} {xs ys : List V} {n : Nat} (hn : n = min xs.length ys.length) : Walk (RZ.ItzT K a b) n (fun H => SqT K H a xs ∧ SqT K H b ys) (YPair (fun i => xs[i]?) (fun i => ys[i]?)) := by
  subst hn
  refine ⟨fun i _ hi q => ?_, fun _ q => ⟨xs, ys, q.1, q.2, by omega⟩, fun i H v H' _ q y => ?_⟩
  · have h1 : i < xs.length := by omega
    have h2 : i < ys.length := by omega
    exact ⟨xs, ys, xs[i], ys[i], q.1, q.2, by simp [h1], by simp [h2]⟩
  · obtain ⟨T, x, z, h1, h2, h3, h4, h5⟩ := y
    exact ⟨T, x, z, h1, h2, h3, h4 xs q.1, h5 ys q.2⟩
/-! ### rows of numbers as data -/
def IntsV (H : Hp) (v : V) (xs : List Int) : Prop := ∃ b, v = .ref b ∧ H b = some (.tup (xs.map V.int))
theorem IntsV.tk {H H' : Hp} (k : Tk H H') {v : V} {xs : List Int} (h : IntsV H v xs) : IntsV H' v xs := by
  obtain ⟨a, rfl, e⟩ := h
  exact ⟨a, rfl, k _ _ e⟩
def intsD (xs : List Int) : PyData := .tuple (xs.map PyData.int)
section
variable {K : PySem.W.Frag} {H : Hp}
theorem dp_ints : ∀ (xs : List Int), DpAll K H (xs.map V.int) (xs.map PyData.int)
  | [] => .nil
  | x :: xs => .cons (.int x) (dp_ints xs)
theorem IntsV.dp {v : V} {xs : List Int} (h : IntsV H v xs) : Dp K H v (intsD xs) := by
  obtain ⟨b, rfl, e⟩ := h
  exact .tup (SqT.of e) (dp_ints xs)
end
theorem lay_ints : ∀ xs : List Int, PyData.canLayAll0 (xs.map PyData.int) = true
  | [] => by simp [PyData.canLayAll0]
  | x :: xs => by simp [PyData.canLayAll0, PyData.canLay0, lay_ints xs]
theorem deep_ints : ∀ xs : List Int, PyData.depthAll (xs.map PyData.int) = 0
  | [] => by simp [PyData.depthAll]
  | x :: xs => by simp [PyData.depthAll, PyData.depth, deep_ints xs]
theorem lay_intsD (xs : List Int) : (intsD xs).canLay0 = true := by
  unfold intsD
  rw [PyData.canLay0]
  exact lay_ints xs
theorem deep_intsD (xs : List Int) : (intsD xs).depth = 1 := by
  unfold intsD
  rw [PyData.depth, deep_ints]
theorem shaped_intsD (xs : List Int) : SeqAt.shaped (intsD xs) = true := by
  unfold SeqAt.shaped
  rw [lay_intsD, deep_intsD]
  rfl
theorem eqv_nil (xs : List Int) : PyData.eqv (intsD xs) (intsD []) = xs.isEmpty := by
  unfold intsD
  rw [PyData.eqv]
  cases xs <;> rfl
/-! ### enumerate of a tuple -/
set_option maxHeartbeats 1000000 in
theorem meets_enumOne {v : Value} {o : Obj} {S : Heap → Prop} (B : Begins v o S) : Meets (Builtin.«enumerate.__new__» ⟨[.type "enumerate", v], []⟩) (fun _ R s => S s.heap ∧
      R (.ok (.ret (.ref (s.heap.push o).objs.size))) { s with heap := (s.heap.push o).push { cls := .type "enumerate", data := .fields #[.none, .bool false, .ref s.heap.objs.size, rawInt 0, .none, .none] } }) :=
  .of_wp fun prog w A R s h => by
    obtain ⟨hp, g, d, tk, os⟩ := s
    obtain ⟨h1, h⟩ := h
    have sub0 := sub_enumerate
    have begun : ∀ {A' : PySem.Around} {E : Value → Shared → Prop} {Q : Value → Shared → Prop}, Q (.ref hp.objs.size) ⟨hp.push o, g, d, tk, os⟩ → wpAny (model prog w) A' (pyIter v) Q E ⟨hp, g, d, tk, os⟩ := fun q => B.iter prog w _ _ ⟨hp, g, d, tk, os⟩ _ h1 q
    wp_walk using begun
    refine wpAny_stack_any fun st => wpAny_pure ?_
    split
    · rename_i c _ _ _ _ _
      cases (c == Value.type "enumerate")
      all_goals
        wp_walk using begun
        exact ⟨_, rfl, h⟩
    · wp_walk using begun
      exact ⟨_, rfl, h⟩
theorem call_enumT {P : Program} {w : World} {A : PySem.Around} {E : Value → Shared → Prop} {s : Shared} {t : Addr} {items : Array Value} {Q : Value → Shared → Prop} (ht : s.heap.IsTuple t items)
    (h : ∀ h', IsEnum h' (s.heap.objs.size + 1) s.heap.objs.size 0 .none → h'.IsTupleIter s.heap.objs.size t 0 → (∀ b o, s.heap.get? b = some o → h'.get? b = some o) → Q (.ref (s.heap.objs.size + 1)) { s with heap := h' }) : wpAny (model P w) A (call (.type "enumerate") [.ref t]) Q E s := by
  refine callType_new PySem.F.called_enumerate (by decide) (PySem.F.typeCall_enumerate_1 _) (PySem.F.newCall_enumerate_1 _) (fun ob => PySem.F.args_object_init_2 ob _) PySem.F.entry_enumerate_new (meets_enumOne (begins_tuple t items)) ⟨ht, ?_⟩
  have size1 := Heap.size_push s.heap { cls := .type "tuple_iterator", data := .fields #[.ref t, .int 0 0] }
  have en := Heap.get?_push_size (s.heap.push { cls := .type "tuple_iterator", data := .fields #[.ref t, .int 0 0] }) (o := { cls := .type "enumerate", data := .fields #[.none, .bool false, .ref s.heap.objs.size, rawInt 0, .none, .none] }) rfl
  rw [size1] at en
  show _ ∧ _
  rw [size1]
  exact ⟨⟨_, en, rfl⟩, h _ en ⟨_, Heap.get?_push_of_some _ (Heap.get?_push_size _ rfl), rfl, rfl⟩ fun b o e => Heap.get?_push_of_some _ (Heap.get?_push_of_some _ e)⟩
/-- the turns: a new pair each, of the number and the part -/
def ItN (K : PySem.W.Frag) (a : Addr) : It where
  go := fun i H => ∃ (xs : List V) (x : V), SqT K H a xs ∧ xs[i]? = some x
  yld := fun i H v H' => ∃ T x, v = .ref T ∧ H T = none ∧ H' = upd H T (.tup [.int (i : Nat), x]) ∧ ∀ xs, SqT K H a xs → xs[i]? = some x
  stop := fun i H => ∃ xs : List V, SqT K H a xs ∧ xs.length ≤ i
theorem turn_enumT {P : Program} {w : World} {K : PySem.W.Frag} {elts : List Expr} {kk : Nat} {tpos : Pos} (a e it : Addr) (n1 : e ≠ it) (n2 : a ≠ it) (n3 : e ≠ a) :
    Turn P w K (.Tuple elts kk tpos) (ItN K a) [e, it] e (fun i h => (∃ old, IsEnum h e it ((i : Nat) : Int) old) ∧ h.IsTupleIter it a i) where
  mem := List.mem_cons_self
  obj := by
    rintro i h ⟨⟨old, he⟩, o, ho, hc, hd⟩ b hb
    rcases List.mem_cons.mp hb with rfl | hb
    · exact ⟨_, he, fun v q => nomatch q⟩
    · rw [List.mem_singleton.mp hb]
      exact ⟨o, ho, fun v q => by rw [hd] at q; cases q⟩
  keep := by
    rintro i h h' ⟨⟨old, he⟩, hit⟩ kp
    exact ⟨⟨old, kp e (by simp) _ he⟩, hit.at fun o q => kp it (by simp) o q⟩
  item := by
    intro X hP hw hK hc i pins s σ H E I hf st hg
    subst hP hw hK
    obtain ⟨⟨old, he⟩, hit⟩ := st
    obtain ⟨xs, x, hq, hx⟩ := hg
    obtain ⟨its, rv, tup, _⟩ := I.tuple hq
    obtain ⟨u, hu, ru⟩ := rv.get hx
    have le := Heap.lt_size he
    have li : it < s.heap.objs.size := let ⟨_, q, _⟩ := hit; Heap.lt_size q
    have lt : i < its.toArray.size := by simpa using (List.getElem?_eq_some_iff.mp hu).1
    refine wpAny_pyNext_enum_itemD (Draws.tuple (A := X.A.in1) (I.ok.hd hc) it a n2 its.toArray) he ⟨hit, tup⟩ lt n1 (by simp [n1, n3]) fun x' h' tk ex out st' new _ kp => ?_
    obtain rfl : u = x' := Option.some.inj (((by simpa using hu) : its.toArray[i]? = some u).symm.trans ex)
    refine ⟨_, rfl, wpAny_letOwnedTupleGo_enum (s := { s with heap := h', toks := tk + 1 }) out fun h2 he2 sb => ?_⟩
    have new2 : h2.get? s.heap.objs.size = some { cls := .type "tuple", data := .seq #[.int i tk, u] } := (sb.2 _ (Nat.ne_of_gt le)).trans new
    have objT : ObjOk X.prog X.w (upd H s.heap.objs.size (.tup [.int (i : Nat), x])) h2 s.heap.objs.size (.tup [.int (i : Nat), x]) := ⟨by show 2 ≤ sizeLine; decide, [.int i tk, u], .cons ⟨_, rfl⟩ (.cons ru .nil), ⟨_, new2, rfl, _, rfl⟩⟩
    have J : Inv X pins σ (upd H s.heap.objs.size (.tup [.int (i : Nat), x])) { s with heap := h2, toks := tk + 1 } := I.turnedNew (ch := [e, it]) (fun b ob hb q => by
      simp only [List.mem_cons, List.not_mem_nil, or_false, not_or] at hb
      exact (sb.2 b hb.1).trans (kp b ob hb.1 hb.2 q)) hf (Nat.le_refl _) objT
    refine ⟨.ref s.heap.objs.size, _, J, rfl, ⟨_, x, rfl, I.hok.fresh (Nat.le_refl _), rfl, fun ys hy => by rw [I.tuple_inj hy hq]; exact hx⟩, ⟨⟨u, ?_⟩, st'.1.at fun o q => (sb.2 it (Ne.symm n1)).trans q⟩, fun b hb => ?_⟩
    · rw [show ((i + 1 : Nat) : Int) = (i : Int) + 1 from by omega]
      exact he2
    · have lb : b < s.heap.objs.size := by
        rcases List.mem_cons.mp hb with rfl | hb
        · exact le
        · rw [List.mem_singleton.mp hb]
          exact li
      rw [upd_ne (Nat.ne_of_lt lb)]
      exact (hf b hb).1
  done := by
    intro X hP hw hK hc i pins s σ H E I hf st hg
    subst hP hw hK
    obtain ⟨⟨old, he⟩, hit⟩ := st
    obtain ⟨xs, hq, hx⟩ := hg
    obtain ⟨its, rv, tup, _⟩ := I.tuple hq
    have hl := rv.length
    obtain ⟨f0, f1, f2, f3, f4, f5⟩ := hf it (by simp)
    have D : Draws X.prog X.w X.A.in1 it [it, a] i (fun _ _ => False) (fun j h => j = i ∧ h.IsTupleIter it a i ∧ h.IsTuple a its.toArray) := {
      live := fun j h z => let ⟨_, ⟨o, q, _⟩, _⟩ := z; ⟨o, q⟩
      frame := fun j h h' z kp => ⟨z.1, z.2.1.at fun o q => kp it (by simp) o q, z.2.2.at fun o q => kp a (by simp) o q⟩
      item := fun j s' Q E' hj z => absurd z.1 (Nat.ne_of_lt hj)
      done := fun s' Q E' z fin => wpAny_nextOf_tuple_end (I.ok.hd hc) z.2.1 z.2.2 (by simp; omega) fin }
    exact wpAny_pyNext_enum_endD D he ⟨rfl, hit, tup⟩ fun h' eb => ⟨rfl, I.turned (t' := s.toks) (fun b o hb q => eb b o hb q) f0 f1 f3 f4 f5⟩
  self := fun A i s Q E st h => let ⟨⟨_, he⟩, _⟩ := st; wpAny_pyIter_enum he h
def iEnT (K : PySem.W.Frag) (ta : TA) : TI := fun σ H R => ta σ H fun vs H1 => ∃ a xs, vs = [.ref a] ∧ SqT K H1 a xs ∧ R (ItN K a) H1
theorem pi_enumT {X : Cx} {e : Expr} {ta : TA} {p pos tpos : Pos} {elts : List Expr} {kk : Nat} (hg : Gl X "enumerate") (hm : X.mg "enumerate" = none) (ha : PA X [e] ta) (hs : starEach [e] X.env = [(false, eval e X.env)] := by rfl) :
    PI X (.Tuple elts kk tpos) (.Call (.Name "enumerate" p) [e] [] pos) (iEnT X.K ta) := by
  refine ⟨fun pins s σ H R I want => Call_ (ld_blt I hg hm boot_enumerate (PyProof.Rows.callWith_type1 (thn (ha.run pos pins s σ H _ I want) fun us s1 got => ?_) hs rfl))⟩
  obtain ⟨vs, H1, J, rel, a, xs, ex, hq, q⟩ := got
  subst ex
  obtain ⟨u, eu, r1⟩ := vals1 rel
  subst eu
  obtain rfl : u = Value.ref a := r1
  obtain ⟨its, rv, tup, _⟩ := J.tuple hq
  have la : a < s1.heap.objs.size := let ⟨_, q, _⟩ := tup; Heap.lt_size q
  refine call_enumT (items := its.toArray) tup fun h' he hit kp => wpAny_pyIter_enum he ?_
  have J2 : Inv X pins σ H1 { s1 with heap := h' } := J.kept (t' := s1.toks) kp
  refine ⟨s1.heap.objs.size + 1, [s1.heap.objs.size + 1, s1.heap.objs.size], _, _, H1, rfl, J2, turn_enumT a (s1.heap.objs.size + 1) s1.heap.objs.size (Nat.succ_ne_self _) (Nat.ne_of_lt la) (Nat.ne_of_gt (Nat.lt_succ_of_lt la)), ⟨⟨.none, he⟩, hit⟩, fun b hb => ?_, q⟩
  have lb : s1.heap.objs.size ≤ b := by
    rcases List.mem_cons.mp hb with rfl | hb
    · exact Nat.le_succ _
    · rw [List.mem_singleton.mp hb]
      exact Nat.le_refl _
  exact J.fpOk lb (J.hok.fresh lb)
theorem walk_enumT {K : PySem.W.Frag} {a : Addr} {xs : List V} : Walk (ItN K a) xs.length (fun H => SqT K H a xs) (YPair (fun i => some (.int (i : Nat))) (fun i => xs[i]?)) :=
  ⟨fun i H hi h => ⟨xs, xs[i], h, List.getElem?_eq_getElem hi⟩, fun H h => ⟨xs, h, Nat.le_refl _⟩, fun i H x H' hi h y => by
    obtain ⟨T, z, e1, e2, e3, e4⟩ := y
    exact ⟨T, _, z, e1, e2, e3, rfl, e4 xs h⟩⟩
/-! ### the law: the least place that each comes to -/
def lf (f : Int → Int) (n : Nat) : List V := (rng n).map fun i => V.int (f i)
theorem lf_len (f : Int → Int) (n : Nat) : (lf f n).length = n := by unfold lf; rw [List.length_map, rng_length]
theorem lf_get? (f : Int → Int) {n j : Nat} (h : j < n) : (lf f n)[j]? = some (.int (f j)) := by
  unfold lf rng
  rw [List.map_map, List.getElem?_map, List.getElem?_range h]
  rfl
theorem lf_at (f : Int → Int) {n : Nat} {i : Int} (h0 : 0 ≤ i) (h1 : i < n) : atI (lf f n) i = some (.int (f i)) := by
  have e : ((i.toNat : Nat) : Int) = i := by omega
  refine atI_of h0 ?_
  rw [lf_get? f (by omega), e]
theorem lf_set (f : Int → Int) {n : Nat} {i y : Int} (h0 : 0 ≤ i) (h1 : i < n) : (lf f n).set i.toNat (.int y) = lf (fun x => if x = i then y else f x) n := by
  refine List.ext_getElem? fun j => ?_
  rw [List.getElem?_set]
  by_cases hj : j < n
  · by_cases e : i.toNat = j
    · rw [if_pos e, if_pos (by rw [lf_len]; omega), lf_get? _ hj, if_pos (by omega)]
    · rw [if_neg e, lf_get? _ hj, lf_get? _ hj, if_neg (by omega)]
  · have e : i.toNat ≠ j := by omega
    rw [if_neg e, List.getElem?_eq_none (by rw [lf_len]; omega), List.getElem?_eq_none (by rw [lf_len]; omega)]
theorem ixN_of {n : Nat} {i : Int} (h0 : 0 ≤ i) (h1 : i < n) : ixN n i = some i.toNat := by
  unfold ixN
  rw [if_pos (by omega), if_pos (by omega)]
/-! ### stems (mathematics) -/
theorem Rch.mono {ts ts' : List Tie} (h : ∀ t ∈ ts, t ∈ ts') {a b : Int} (r : Rch ts a b) : Rch ts' a b :=
  r.ind (fun x => Rch ts' a x) .refl fun x y k hx ad => by
    obtain ⟨t, ht, e⟩ := ad
    exact hx.trans (Rch.adj (k := k) ⟨t, h t ht, e⟩)
theorem rch_pq {ts : List Tie} {t : Tie} {p q : Int} (h : (p = t.one ∧ q = t.other) ∨ (p = t.other ∧ q = t.one)) : Rch (ts ++ [t]) p q := by
  refine Rch.adj (k := t.foe) ⟨t, List.mem_append_right _ (by simp), rfl, ?_⟩
  rcases h with ⟨h1, h2⟩ | ⟨h1, h2⟩
  · exact .inl ⟨h1.symm, h2.symm⟩
  · exact .inr ⟨h2.symm, h1.symm⟩
theorem rch_snoc {ts : List Tie} {t : Tie} {p q : Int} (h : (p = t.one ∧ q = t.other) ∨ (p = t.other ∧ q = t.one)) {a b : Int} : Rch (ts ++ [t]) a b ↔ Rch ts a b ∨ (Rch ts a p ∧ Rch ts q b) ∨ (Rch ts a q ∧ Rch ts p b) := by
  have up : ∀ {x y : Int}, Rch ts x y → Rch (ts ++ [t]) x y := fun r => r.mono fun t ht => List.mem_append_left _ ht
  constructor
  · intro r
    refine r.ind (fun x => Rch ts a x ∨ (Rch ts a p ∧ Rch ts q x) ∨ (Rch ts a q ∧ Rch ts p x)) (.inl .refl) fun x y k hx ad => ?_
    obtain ⟨t', ht, e1, e2⟩ := ad
    rcases List.mem_append.mp ht with ht | ht
    · have st : Rch ts x y := Rch.adj (k := k) ⟨t', ht, e1, e2⟩
      rcases hx with h1 | ⟨h1, h2⟩ | ⟨h1, h2⟩
      · exact .inl (h1.trans st)
      · exact .inr (.inl ⟨h1, h2.trans st⟩)
      · exact .inr (.inr ⟨h1, h2.trans st⟩)
    · rw [List.mem_singleton] at ht
      subst ht
      have xy : (x = p ∧ y = q) ∨ (x = q ∧ y = p) := by
        rcases e2 with ⟨e2, e3⟩ | ⟨e2, e3⟩ <;> rcases h with ⟨h1, h2⟩ | ⟨h1, h2⟩
        · exact .inl ⟨by omega, by omega⟩
        · exact .inr ⟨by omega, by omega⟩
        · exact .inr ⟨by omega, by omega⟩
        · exact .inl ⟨by omega, by omega⟩
      rcases xy with ⟨rfl, rfl⟩ | ⟨rfl, rfl⟩
      · rcases hx with h1 | ⟨h1, h2⟩ | ⟨h1, h2⟩
        · exact .inr (.inl ⟨h1, .refl⟩)
        · exact .inr (.inl ⟨h1, .refl⟩)
        · exact .inl h1
      · rcases hx with h1 | ⟨h1, h2⟩ | ⟨h1, h2⟩
        · exact .inr (.inr ⟨h1, .refl⟩)
        · exact .inl h1
        · exact .inr (.inr ⟨h1, .refl⟩)
  · rintro (h1 | ⟨h1, h2⟩ | ⟨h1, h2⟩)
    · exact up h1
    · exact (up h1).trans ((rch_pq h).trans (up h2))
    · exact (up h1).trans ((rch_pq h).symm.trans (up h2))
theorem rch_nil {a b : Int} (h : Rch [] a b) : a = b := h.ind (fun x => a = x) rfl fun x y k _ ad => by
  obtain ⟨t, ht, _⟩ := ad
  simp at ht
def tieN (ts : List Tie) (k : Nat) : Tie := ts.getD k ⟨0, 0, false⟩
theorem tieN_of {ts : List Tie} {k : Nat} {t : Tie} (h : ts[k]? = some t) : tieN ts k = t := by
  unfold tieN
  rw [List.getD_eq_getElem?_getD, h]
  rfl
open Classical in
noncomputable def stemB (ts : List Tie) (k : Nat) : Bool := decide (¬ Rch (ts.take k) (tieN ts k).one (tieN ts k).other)
noncomputable def stemsTo (ts : List Tie) (k : Nat) : List Int := (rng k).filter fun i => stemB ts i.toNat
theorem stemsTo_succ (ts : List Tie) (k : Nat) : stemsTo ts (k + 1) = stemsTo ts k ++ (if stemB ts k = true then [(k : Int)] else []) := by
  unfold stemsTo
  rw [rng_succ, List.filter_append, List.filter_cons, Int.toNat_natCast]
  rfl
theorem stemsTo_len (ts : List Tie) (k : Nat) : (stemsTo ts k).length ≤ k := by
  unfold stemsTo
  have := List.length_filter_le (fun i => stemB ts i.toNat) (rng k)
  rw [rng_length] at this
  exact this
open Classical in
theorem stem_iff {ts : List Tie} {k : Nat} {t : Tie} (h : ts[k]? = some t) : stemB ts k = true ↔ ¬ Rch (ts.take k) t.one t.other := by
  unfold stemB
  rw [tieN_of h]
  exact decide_eq_true_iff
theorem take_snoc {α : Type} {ts : List α} {k : Nat} {t : α} (h : ts[k]? = some t) : ts.take (k + 1) = ts.take k ++ [t] := by
  rw [List.take_add_one, h]
  rfl
/-- labels: alike just where ties lead -/
def Lab (ts : List Tie) (n : Nat) (g : Int → Int) : Prop := ∀ i j : Int, 0 ≤ i → i < n → 0 ≤ j → j < n → (g i = g j ↔ Rch ts i j)
def mrg (g : Int → Int) (old new : Int) : Int → Int := fun x => if g x = old then new else g x
theorem lab_nil (n : Nat) : Lab [] n (fun i => i) := fun i j _ _ _ _ => ⟨fun h => by rw [show i = j from h]; exact .refl, fun h => rch_nil h⟩
theorem lab_same {ts : List Tie} {n : Nat} {g : Int → Int} {t : Tie} (h : Lab ts n g) (ok : TieOk n t) (e : g t.one = g t.other) : Lab (ts ++ [t]) n g := fun i j i0 i1 j0 j1 => by
  obtain ⟨o1, o2, o3, o4, _⟩ := ok
  have r : Rch ts t.one t.other := (h _ _ o1 o2 o3 o4).mp e
  rw [rch_snoc (.inl ⟨rfl, rfl⟩), h i j i0 i1 j0 j1]
  constructor
  · exact .inl
  · rintro (h1 | ⟨h1, h2⟩ | ⟨h1, h2⟩)
    · exact h1
    · exact h1.trans (r.trans h2)
    · exact h1.trans (r.symm.trans h2)
theorem lab_step {ts : List Tie} {n : Nat} {g : Int → Int} {t : Tie} {p q : Int} (h : Lab ts n g) (ok : TieOk n t) (e : (p = t.one ∧ q = t.other) ∨ (p = t.other ∧ q = t.one)) : Lab (ts ++ [t]) n (mrg g (g p) (g q)) := fun i j i0 i1 j0 j1 => by
  have pr : (0 ≤ p ∧ p < n) ∧ (0 ≤ q ∧ q < n) := by
    obtain ⟨o1, o2, o3, o4, _⟩ := ok
    rcases e with ⟨rfl, rfl⟩ | ⟨rfl, rfl⟩
    · exact ⟨⟨o1, o2⟩, o3, o4⟩
    · exact ⟨⟨o3, o4⟩, o1, o2⟩
  obtain ⟨⟨p0, p1⟩, q0, q1⟩ := pr
  rw [rch_snoc e]
  unfold mrg
  have ip := h i p i0 i1 p0 p1
  have jp := h j p j0 j1 p0 p1
  have iq := h i q i0 i1 q0 q1
  have jq := h j q j0 j1 q0 q1
  have ij := h i j i0 i1 j0 j1
  by_cases hi : g i = g p <;> by_cases hj : g j = g p
  · rw [if_pos hi, if_pos hj]
    exact ⟨fun _ => .inl (ij.mp (hi.trans hj.symm)), fun _ => rfl⟩
  · rw [if_pos hi, if_neg hj]
    constructor
    · intro z
      exact .inr (.inl ⟨ip.mp hi, (jq.mp z.symm).symm⟩)
    · rintro (z | ⟨_, z⟩ | ⟨_, z⟩)
      · exact absurd ((ij.mpr z).symm.trans hi) hj
      · exact (jq.mpr z.symm).symm
      · exact absurd (jp.mpr z.symm) hj
  · rw [if_neg hi, if_pos hj]
    constructor
    · intro z
      exact .inr (.inr ⟨iq.mp z, (jp.mp hj).symm⟩)
    · rintro (z | ⟨z, _⟩ | ⟨z, _⟩)
      · exact absurd ((ij.mpr z).trans hj) hi
      · exact absurd (ip.mpr z) hi
      · exact iq.mpr z
  · rw [if_neg hi, if_neg hj]
    constructor
    · intro z
      exact .inl (ij.mp z)
    · rintro (z | ⟨z, _⟩ | ⟨_, z⟩)
      · exact ij.mpr z
      · exact absurd (ip.mpr z) hi
      · exact absurd (jp.mpr z.symm) hj
/-- heads: labels that are places of their own; how many -/
structure Heads (ts : List Tie) (n i : Nat) (g : Int → Int) : Prop where
  lab : Lab (ts.take i) n g
  rng : ∀ x : Int, 0 ≤ x → x < n → 0 ≤ g x ∧ g x < n
  idem : ∀ x : Int, 0 ≤ x → x < n → g (g x) = g x
  cnt : ((FF.rng n).filter fun x => decide (g x = x)).length + (stemsTo ts i).length = n
theorem heads_nil (ts : List Tie) (n : Nat) : Heads ts n 0 (fun i => i) := by
  refine ⟨by rw [List.take_zero]; exact lab_nil n, fun x h0 h1 => ⟨h0, h1⟩, fun x _ _ => rfl, ?_⟩
  have e : ((FF.rng n).filter fun x => decide (x = x)) = FF.rng n := by
    rw [List.filter_eq_self]
    intro x _
    exact decide_eq_true rfl
  show ((FF.rng n).filter fun x => decide (x = x)).length + 0 = n
  rw [e, rng_length, Nat.add_zero]
theorem filter_drop {p q : Int → Bool} {h : Int} : ∀ {l : List Int}, l.Nodup → h ∈ l → p h = true → (∀ x ∈ l, q x = (p x && decide (x ≠ h))) → (l.filter q).length + 1 = (l.filter p).length
  | x :: l, nd, hm, hp, hq => by
    rw [List.nodup_cons] at nd
    have hx := hq x (by simp)
    rw [List.filter_cons, List.filter_cons, hx]
    by_cases e : x = h
    · subst e
      have same : l.filter q = l.filter p := List.filter_congr fun y hy => by
        rw [hq y (List.mem_cons_of_mem _ hy), decide_eq_true (show y ≠ x from fun z => nd.1 (by rw [← z]; exact hy)), Bool.and_true]
      rw [same, hp]
      simp
    · have hm' : h ∈ l := (List.mem_cons.mp hm).elim (fun z => absurd z.symm e) id
      have ih := filter_drop (l := l) nd.2 hm' hp fun y hy => hq y (List.mem_cons_of_mem _ hy)
      rw [decide_eq_true (show x ≠ h from e), Bool.and_true]
      cases p x
      · simpa using ih
      · simp
        omega
theorem heads_same {ts : List Tie} {n i : Nat} {g : Int → Int} {t : Tie} (h : Heads ts n i g) (et : ts[i]? = some t) (ok : TieOk n t) (e : g t.one = g t.other) : Heads ts n (i + 1) g := by
  refine ⟨by rw [take_snoc et]; exact lab_same h.lab ok e, h.rng, h.idem, ?_⟩
  have no : ¬ stemB ts i = true := fun z => (stem_iff et).mp z ((h.lab _ _ ok.1 ok.2.1 ok.2.2.1 ok.2.2.2.1).mp e)
  rw [stemsTo_succ, if_neg no, List.append_nil]
  exact h.cnt
theorem heads_step {ts : List Tie} {n i : Nat} {g : Int → Int} {t : Tie} {p q : Int} (h : Heads ts n i g) (et : ts[i]? = some t) (ok : TieOk n t) (e : (p = t.one ∧ q = t.other) ∨ (p = t.other ∧ q = t.one)) (ne : g p ≠ g q) : Heads ts n (i + 1) (mrg g (g p) (g q)) := by
  have pr : (0 ≤ p ∧ p < n) ∧ (0 ≤ q ∧ q < n) := by
    obtain ⟨o1, o2, o3, o4, _⟩ := ok
    rcases e with ⟨rfl, rfl⟩ | ⟨rfl, rfl⟩
    · exact ⟨⟨o1, o2⟩, o3, o4⟩
    · exact ⟨⟨o3, o4⟩, o1, o2⟩
  obtain ⟨⟨p0, p1⟩, q0, q1⟩ := pr
  have gp := h.rng p p0 p1
  have gq := h.rng q q0 q1
  have ip := h.idem p p0 p1
  have iq := h.idem q q0 q1
  refine ⟨by rw [take_snoc et]; exact lab_step h.lab ok e, fun x x0 x1 => ?_, fun x x0 x1 => ?_, ?_⟩
  · unfold mrg
    split
    · exact gq
    · exact h.rng x x0 x1
  · have ix := h.idem x x0 x1
    by_cases hx : g x = g p
    · have e1 : mrg g (g p) (g q) x = g q := if_pos hx
      rw [e1]
      show (if g (g q) = g p then g q else g (g q)) = g q
      rw [iq, if_neg (Ne.symm ne)]
    · have e1 : mrg g (g p) (g q) x = g x := if_neg hx
      rw [e1]
      show (if g (g x) = g p then g q else g (g x)) = g x
      rw [ix, if_neg hx]
  · have yes : stemB ts i = true := (stem_iff et).mpr fun z => by
      have hl := (h.lab _ _ ok.1 ok.2.1 ok.2.2.1 ok.2.2.2.1).mpr z
      rcases e with ⟨rfl, rfl⟩ | ⟨rfl, rfl⟩
      · exact ne hl
      · exact ne hl.symm
    have drop := filter_drop (p := fun x => decide (g x = x)) (q := fun x => decide (mrg g (g p) (g q) x = x)) (h := g p) (l := FF.rng n) ((rng_rising n).imp fun h => by omega) (mem_rng.mpr gp) (decide_eq_true ip) (fun x hx => ?_)
    · rw [stemsTo_succ, if_pos yes, List.length_append]
      have := h.cnt
      simp only [List.length_cons, List.length_nil]
      omega
    · have xr := mem_rng.mp hx
      rw [Bool.eq_iff_iff, Bool.and_eq_true, decide_eq_true_iff, decide_eq_true_iff, decide_eq_true_iff]
      show (if g x = g p then g q else g x) = x ↔ _
      by_cases hx : g x = g p
      · rw [if_pos hx]
        constructor
        · intro z
          exact absurd (by rw [← z, iq] at hx; exact hx.symm) ne
        · rintro ⟨z1, z2⟩
          exact absurd (z1.symm.trans hx) z2
      · rw [if_neg hx]
        exact ⟨fun z => ⟨z, fun y => hx (by rw [y]; exact ip)⟩, fun z => z.1⟩
/-- stems are told by the places of the ties alone -/
theorem rch_frames : ∀ {ts us : List Tie}, ts.length = us.length → (∀ (i : Nat) t u, ts[i]? = some t → us[i]? = some u → (u.one = t.one ∧ u.other = t.other) ∨ (u.one = t.other ∧ u.other = t.one)) → ∀ {a b : Int}, Rch ts a b → Rch us a b := by
  intro ts us hl h a b r
  refine r.ind (fun x => Rch us a x) .refl fun x y k hx ad => ?_
  obtain ⟨t, ht, _, e⟩ := ad
  obtain ⟨i, hi, rfl⟩ := List.getElem_of_mem ht
  have hu : us[i]? = some us[i] := List.getElem?_eq_getElem (by omega)
  have w := h i _ _ (List.getElem?_eq_getElem hi) hu
  refine hx.trans (Rch.adj (k := us[i].foe) ⟨us[i], List.getElem_mem _, rfl, ?_⟩)
  rcases w with ⟨w1, w2⟩ | ⟨w1, w2⟩ <;> rcases e with ⟨e1, e2⟩ | ⟨e1, e2⟩
  · exact .inl ⟨by omega, by omega⟩
  · exact .inr ⟨by omega, by omega⟩
  · exact .inr ⟨by omega, by omega⟩
  · exact .inl ⟨by omega, by omega⟩
def Framed (ts us : List Tie) : Prop := ts.length = us.length ∧ ∀ (i : Nat) t u, ts[i]? = some t → us[i]? = some u → (u.one = t.one ∧ u.other = t.other) ∨ (u.one = t.other ∧ u.other = t.one)
theorem Framed.symm {ts us : List Tie} (h : Framed ts us) : Framed us ts := ⟨h.1.symm, fun i u t e1 e2 => by
  rcases h.2 i t u e2 e1 with ⟨w1, w2⟩ | ⟨w1, w2⟩
  · exact .inl ⟨w1.symm, w2.symm⟩
  · exact .inr ⟨w2.symm, w1.symm⟩⟩
theorem Framed.take {ts us : List Tie} (h : Framed ts us) (k : Nat) : Framed (ts.take k) (us.take k) := by
  refine ⟨by rw [List.length_take, List.length_take, h.1], fun i t u e1 e2 => ?_⟩
  by_cases hk : i < k
  · rw [List.getElem?_take_of_lt hk] at e1 e2
    exact h.2 i t u e1 e2
  · rw [List.getElem?_take] at e1
    rw [if_neg hk] at e1
    cases e1
theorem Framed.map {ts : List Tie} {f : Tie → Tie} (h : ∀ t ∈ ts, ((f t).one = t.one ∧ (f t).other = t.other) ∨ ((f t).one = t.other ∧ (f t).other = t.one)) : Framed ts (ts.map f) := by
  refine ⟨by rw [List.length_map], fun i t u e1 e2 => ?_⟩
  rw [List.getElem?_map, e1] at e2
  cases e2
  exact h t (List.mem_of_getElem? e1)
theorem stems_framed {ts us : List Tie} (h : Framed ts us) : stemsTo us us.length = stemsTo ts ts.length := by
  unfold stemsTo
  rw [← h.1]
  refine List.filter_congr fun i hi => ?_
  have ir := mem_rng.mp hi
  have e1 : ts[i.toNat]? = some ts[i.toNat] := List.getElem?_eq_getElem (by omega)
  have l := h.1
  have e2 : us[i.toNat]? = some us[i.toNat] := List.getElem?_eq_getElem (by omega)
  have ht := h.take i.toNat
  rw [Bool.eq_iff_iff, stem_iff e1, stem_iff e2]
  have both : ∀ a b : Int, Rch (ts.take i.toNat) a b ↔ Rch (us.take i.toNat) a b := fun a b => ⟨fun r => rch_frames ht.1 ht.2 r, fun r => rch_frames ht.symm.1 ht.symm.2 r⟩
  rcases h.2 _ _ _ e1 e2 with ⟨w1, w2⟩ | ⟨w1, w2⟩
  · rw [w1, w2, both]
  · rw [w1, w2, both]
    exact ⟨fun z y => z y.symm, fun z y => z y.symm⟩
theorem stemsTo_rising (ts : List Tie) (k : Nat) : (stemsTo ts k).Pairwise (· < ·) := (rng_rising k).filter _
theorem stemsTo_mem {ts : List Tie} {k : Nat} {i : Int} : i ∈ stemsTo ts k ↔ (0 ≤ i ∧ i < k) ∧ stemB ts i.toNat = true := by
  unfold stemsTo
  rw [List.mem_filter, mem_rng]
theorem stems_own (ts : List Tie) : stemsTo ((stemsTo ts ts.length).map fun i => tieN ts i.toNat) (stemsTo ts ts.length).length = rng (stemsTo ts ts.length).length := by
  generalize hS : stemsTo ts ts.length = S
  unfold stemsTo
  rw [List.filter_eq_self]
  intro j hj
  have jr := mem_rng.mp hj
  have hjl : j.toNat < S.length := by omega
  have ej : (S.map fun i => tieN ts i.toNat)[j.toNat]? = some (tieN ts S[j.toNat].toNat) := by
    rw [List.getElem?_map, List.getElem?_eq_getElem hjl]
    rfl
  have hm : S[j.toNat] ∈ stemsTo ts ts.length := by rw [hS]; exact List.getElem_mem _
  obtain ⟨⟨m0, m1⟩, mb⟩ := stemsTo_mem.mp hm
  have et : ts[S[j.toNat].toNat]? = some (tieN ts S[j.toNat].toNat) := by
    have h : S[j.toNat].toNat < ts.length := by omega
    rw [List.getElem?_eq_getElem h, tieN_of (List.getElem?_eq_getElem h)]
  rw [stem_iff ej]
  rw [stem_iff et] at mb
  refine fun r => mb (r.mono fun t ht => ?_)
  rw [← List.map_take, List.mem_map] at ht
  obtain ⟨x, hx, rfl⟩ := ht
  obtain ⟨a, ha, rfl⟩ := List.getElem_of_mem hx
  rw [List.length_take] at ha
  rw [List.getElem_take]
  have hx' : S[a] ∈ stemsTo ts ts.length := by rw [hS]; exact List.getElem_mem _
  obtain ⟨⟨x0, x1⟩, _⟩ := stemsTo_mem.mp hx'
  have rise : S.Pairwise (· < ·) := by rw [← hS]; exact stemsTo_rising _ _
  have lt : S[a] < S[j.toNat] := List.pairwise_iff_getElem.mp rise a j.toNat (by omega) hjl (by omega)
  have h : S[a].toNat < ts.length := by omega
  rw [tieN_of (List.getElem?_eq_getElem h)]
  rw [List.mem_iff_getElem]
  exact ⟨S[a].toNat, by rw [List.length_take]; omega, by rw [List.getElem_take]⟩
/-! ### ties that sides break -/
def sd (ss : List Int) (i : Int) : Int := ss.getD i.toNat 0
def tieAt (ts : List Tie) (i : Int) : Tie := ts.getD i.toNat ⟨0, 0, false⟩
def brk (ss : List Int) (t : Tie) : Bool := decide (sd ss t.one = sd ss t.other) == t.foe
def badTo (ss : List Int) (ts : List Tie) (k : Nat) : List Int := (rng k).filter fun i => brk ss (tieAt ts i)
def bad (ss : List Int) (ts : List Tie) : List Int := badTo ss ts ts.length
theorem badTo_succ (ss : List Int) (ts : List Tie) (k : Nat) : badTo ss ts (k + 1) = badTo ss ts k ++ (if brk ss (tieAt ts k) = true then [(k : Int)] else []) := by
  unfold badTo
  rw [rng_succ, List.filter_append, List.filter_cons]
  rfl
theorem badTo_len (ss : List Int) (ts : List Tie) (k : Nat) : (badTo ss ts k).length ≤ k := by
  unfold badTo
  have := List.length_filter_le (fun i => brk ss (tieAt ts i)) (rng k)
  rw [rng_length] at this
  exact this
theorem atI_sd {ss : List Int} {i : Int} (h0 : 0 ≤ i) (h1 : i < ss.length) : atI (ss.map V.int) i = some (.int (sd ss i)) := by
  have h : i.toNat < ss.length := by omega
  refine atI_of h0 ?_
  unfold sd
  rw [List.getElem?_map, List.getElem?_eq_getElem h, List.getD_eq_getElem?_getD, List.getElem?_eq_getElem h]
  rfl
theorem tieAt_of {ts : List Tie} {i : Nat} {t : Tie} (h : ts[i]? = some t) : tieAt ts i = t := by
  unfold tieAt
  rw [Int.toNat_natCast, List.getD_eq_getElem?_getD, h]
  rfl
theorem eq_brk (x y : Int) (f : Bool) : decide (V.bl (decide (V.int x = V.int y)) = V.bl (decide (V.str (kindS f) = V.str "foe"))) = (decide (x = y) == f) := by
  have e : decide (V.int x = V.int y) = decide (x = y) := by
    by_cases h : x = y
    · rw [decide_eq_true h, decide_eq_true (by rw [h])]
    · rw [decide_eq_false h, decide_eq_false (fun z => h (V.int.inj z))]
  rw [e]
  cases decide (x = y) <;> cases f <;> rfl
theorem ne_brk (x y : Int) (f : Bool) : (!decide (V.bl (!decide (V.int x = V.int y)) = V.bl (decide (V.str (kindS f) = V.str "foe")))) = (decide (x = y) == f) := by
  have e : decide (V.int x = V.int y) = decide (x = y) := by
    by_cases h : x = y
    · rw [decide_eq_true h, decide_eq_true (by rw [h])]
    · rw [decide_eq_false h, decide_eq_false (fun z => h (V.int.inj z))]
  rw [e]
  cases decide (x = y) <;> cases f <;> rfl
def spBreaks : Sp := fun vs H Q _ => ∃ (a b : Addr) (ss : List Int) (t : Tie), vs = [.ref a, .ref b] ∧ H a = some (.tup (ss.map V.int)) ∧ H b = some (.tup [.int t.one, .int t.other, .str (kindS t.foe)]) ∧ TieOk ss.length t ∧ Q (.bl (brk ss t)) H
def spBroken : Sp := fun vs H Q _ => ∃ (v : V) (a : Addr) (n : Int) (ts : List Tie) (ss : List Int), vs = [v, .ref a] ∧ WebAt H v n ts ∧ WebOk n ts ∧ H a = some (.tup (ss.map V.int)) ∧ (ss.length : Int) = n ∧
  ∀ r H', Same H H' → H' r = some (.tup ((bad ss ts).map V.int)) → Q (.ref r) H'
section
variable {P : Program} {w : World} {K : PySem.W.Frag} {mg : Str → Option Value} {base : Heap}
theorem ok_breaks {f : Addr} {fd : FuncData} (F : Fun K "breaks" "breaks" s_breaks f fd) : FnOk P w K mg base CX0 1 f fd ["sides", "tie"] spBreaks := by
  refine F.ok sc_breaks (fun vs H Q E h => ?_) (fun cdv A outer s H vs Q E hr h => ?_)
  · obtain ⟨a, b, ss, t, rfl, _⟩ := h
    rfl
  · obtain ⟨a, b, ss, t, rfl, ha, hb, ok, q⟩ := h
    refine ⟨_, (pss_cons (ps_asg (pv 1) (pg_tup rfl (pgs_cons (pg_name (i := 2) sc_breaks.nd rfl (.inl rfl)) (pgs_cons (pg_name (i := 3) sc_breaks.nd rfl (.inl rfl)) (pgs_cons (pg_name (i := 4) sc_breaks.nd rfl (.inl rfl)) pgs_nil)))))
      (pss_one (ps_ret (pe_cmpR op_eq (pe_cmpR op_eq (pe_ix ix_tup (pv 0) (pv 2) (fun _ _ => rfl)) (pe_ix ix_tup (pv 0) (pv 3) (fun _ _ => rfl)) (nomark _)) (pe_cmpR op_eq (pv 4) pe_str (nomark _)) (nomark _))))), ?_⟩
    refine ⟨.ref b, rfl, b, _, rfl, SqT.of hb, rfl, _, _, rfl, _, _, rfl, _, _, rfl, rfl, ?_⟩
    refine ⟨.ref a, rfl, .int t.one, rfl, a, _, t.one, _, rfl, rfl, SqT.of ha, atI_sd ok.1 ok.2.1, .ref a, rfl, .int t.other, rfl, a, _, t.other, _, rfl, rfl, SqT.of ha, atI_sd ok.2.2.1 ok.2.2.2.1, rfl, .str (kindS t.foe), rfl, rfl, rfl, ?_⟩
    rw [eq_brk]
    exact q
theorem ok_broken_by {f : Addr} {fd : FuncData} (F : Fun K "broken_by" "broken_by" s_broken_by f fd) (M : Free mg) (me : mg "enumerate" = none) (D1 : Df P w K mg base 1 "breaks" ["sides", "tie"] spBreaks) : FnOk P w K mg base CX0 2 f fd ["web", "sides"] spBroken := by
  obtain ⟨f1, fd1, G1, g1, k1, b1⟩ := D1
  refine F.ok sc_broken_by (fun vs H Q E h => ?_) (fun cdv A outer s H vs Q E hr h => ?_)
  · obtain ⟨v, a, n, ts, ss, rfl, _⟩ := h
    rfl
  · obtain ⟨v, a, n, ts, ss, rfl, ⟨wa, wb, us, rfl, hwa, hwb, hp⟩, ok, ha, hl, q⟩ := h
    refine ⟨_, (pss_one (ps_ret (pe_callTy call_tuple_of (by rfl) M.tuple (by decide +kernel) (pa_cons (pe_lc (own := [("number", 2), ("tie", 3)]) (g := gTup K 2 (gCons (gName 2) (gCons (gName 3) gNil))) (te := tVar 2) rfl sc_broken_by.nd (pi_enumT (by rfl) me (pa_cons (pe_ix ix_tup (pv 0) pe_int (fun _ _ => rfl)) pa_nil)) (blkOk_by (N := N_broken_by) (sc := defScope s_broken_by) (own := [("number", 2), ("tie", 3)]) (by decide +kernel)) (fun _ _ _ _ _ => (pg_tup rfl (pgs_cons (pg_name (i := 2) sc_broken_by.nd rfl (.inl rfl)) (pgs_cons (pg_name (i := 3) sc_broken_by.nd rfl (.inl rfl)) pgs_nil)))) (fun _ _ _ _ _ => (pts_one (pt_val (pe_call G1 hr (by rfl) g1 k1 b1 .nil pass0 (pa_cons (pv 1) (pa_cons (pv 3) pa_nil)))))) (fun _ _ _ _ _ => (pv 2))) pa_nil)))), ?_⟩
    have hlen : us.length = ts.length := Paired.length hp
    have few := ok.few
    refine ⟨.ref wa, rfl, wa, _, 1, .ref wb, rfl, rfl, SqT.of hwa, rfl, wb, us, rfl, SqT.of hwb, fun Z nZ => ?_⟩
    refine lc_it (walk_enumT (xs := us)) (fun i H' => H' Z = some (.lst ((badTo ss ts i).map V.int)) ∧ Same H H') ⟨upd_same, same_new nZ⟩ (fun i H' _ h => SqT.of (h.2 _ _ hwb)) ?_ ?_
    · rintro i x H1 H2 hi ⟨hZ, s1⟩ ⟨T, x1, y, rfl, nT, rfl, e1, e2⟩
      obtain rfl : V.int (i : Nat) = x1 := Option.some.inj e1
      obtain ⟨t, et, c, rfl, hc⟩ := Paired.at hp e2
      have okt := ok.ok t (List.mem_of_getElem? et)
      have s2 := s1.trans (same_new (o := .tup [.int (i : Nat), .ref c]) nT)
      have hZ2 := same_new (o := .tup [.int (i : Nat), .ref c]) nT _ _ hZ
      refine ⟨T, _, rfl, SqT.of upd_same, rfl, _, _, rfl, _, _, rfl, rfl, rfl, .ref a, rfl, .ref c, rfl, a, c, ss, t, rfl, s2 _ _ ha, s2 _ _ hc, by rw [hl]; exact okt, _, rfl, ?_⟩
      have et2 := tieAt_of et
      have lb := badTo_len ss ts i
      rw [badTo_succ, et2, List.map_append]
      by_cases hb : brk ss t = true
      · rw [hb]
        exact ⟨.int i, rfl, _, hZ2, by rw [List.length_map]; exact small1000 (by omega), upd_same, fun b o e => by rw [upd_ne (ne_of_none e nZ)]; exact s2 b o e⟩
      · rw [Bool.not_eq_true] at hb
        rw [hb]
        simp only [Bool.false_eq_true, if_false, List.map_nil, List.append_nil]
        exact ⟨hZ2, s2⟩
    · rintro H1 ⟨hZ, s1⟩
      rw [hlen] at hZ
      refine ⟨Z, _, rfl, .inl ⟨SqL.of hZ, fun r nr => ?_⟩⟩
      exact q r _ (s1.trans (same_new nr)) upd_same
end
/-! ### sides put over -/
def Bin (ss : List Int) : Prop := ∀ x ∈ ss, x = 0 ∨ x = 1
theorem sd_get {ss : List Int} {i : Int} (h0 : 0 ≤ i) (h1 : i < ss.length) : ∃ h : i.toNat < ss.length, sd ss i = ss[i.toNat] := by
  have h : i.toNat < ss.length := by omega
  refine ⟨h, ?_⟩
  unfold sd
  rw [List.getD_eq_getElem?_getD, List.getElem?_eq_getElem h]
  rfl
theorem sd_bin {ss : List Int} (b : Bin ss) {i : Int} (h0 : 0 ≤ i) (h1 : i < ss.length) : sd ss i = 0 ∨ sd ss i = 1 := by
  obtain ⟨h, e⟩ := sd_get h0 h1
  rw [e]
  exact b _ (List.getElem_mem h)
def over (ss : List Int) : List Int := ss.map fun s => 1 - s
theorem sd_over {ss : List Int} {i : Int} (h0 : 0 ≤ i) (h1 : i < ss.length) : sd (over ss) i = 1 - sd ss i := by
  obtain ⟨h, e⟩ := sd_get h0 h1
  obtain ⟨h', e'⟩ := sd_get (ss := over ss) h0 (by unfold over; rw [List.length_map]; exact h1)
  rw [e, e']
  simp [over]
theorem brk_over {ss : List Int} {t : Tie} (ok : TieOk ss.length t) : brk (over ss) t = brk ss t := by
  unfold brk
  rw [sd_over ok.1 ok.2.1, sd_over ok.2.2.1 ok.2.2.2.1]
  congr 1
  rw [decide_eq_decide]
  omega
theorem tieAt_mem {ts : List Tie} {i : Int} (h : i ∈ rng ts.length) : tieAt ts i ∈ ts := by
  rw [mem_rng] at h
  have h' : i.toNat < ts.length := by omega
  unfold tieAt
  rw [List.getD_eq_getElem?_getD, List.getElem?_eq_getElem h']
  exact List.getElem_mem h'
theorem bad_over {ss : List Int} {ts : List Tie} (ok : ∀ t ∈ ts, TieOk ss.length t) : bad (over ss) ts = bad ss ts := by
  unfold bad badTo
  exact List.filter_congr fun i hi => brk_over (ok _ (tieAt_mem hi))
def moved (ss : List Int) (p : Int) : List Int := ss.set p.toNat (1 - sd ss p)
theorem moved_len (ss : List Int) (p : Int) : (moved ss p).length = ss.length := by unfold moved; rw [List.length_set]
theorem sd_moved {ss : List Int} {p i : Int} (p0 : 0 ≤ p) (p1 : p < ss.length) (h0 : 0 ≤ i) (h1 : i < ss.length) : sd (moved ss p) i = if i = p then 1 - sd ss p else sd ss i := by
  show (ss.set p.toNat (1 - sd ss p)).getD i.toNat 0 = _
  rw [List.getD_eq_getElem?_getD, List.getElem?_set]
  by_cases hp : i = p
  · subst hp
    rw [if_pos rfl, if_pos (by omega), if_pos rfl]
    rfl
  · rw [if_neg (by omega), if_neg hp]
    unfold sd
    rw [List.getD_eq_getElem?_getD]
theorem brk_moved {ss : List Int} (b : Bin ss) {t : Tie} {p : Int} (ok : TieOk ss.length t) (p0 : 0 ≤ p) (p1 : p < ss.length) : brk (moved ss p) t = (brk ss t != (t.one == p || t.other == p)) := by
  unfold brk
  rw [sd_moved p0 p1 ok.1 ok.2.1, sd_moved p0 p1 ok.2.2.1 ok.2.2.2.1]
  have b1 := sd_bin b ok.1 ok.2.1
  have b2 := sd_bin b ok.2.2.1 ok.2.2.2.1
  have ne := ok.2.2.2.2
  by_cases h1 : t.one = p
  · have h2 : t.other ≠ p := fun z => ne (h1.trans z.symm)
    rw [if_pos h1, if_neg h2, ← h1]
    have e1 : (t.one == t.one) = true := by simp
    rw [e1, Bool.true_or]
    rcases b1 with e | e <;> rcases b2 with e' | e' <;> rw [e, e'] <;> cases t.foe <;> rfl
  · rw [if_neg h1]
    have e1 : (t.one == p) = false := by simp [h1]
    rw [e1, Bool.false_or]
    by_cases h2 : t.other = p
    · rw [if_pos h2, ← h2]
      have e2 : (t.other == t.other) = true := by simp
      rw [e2]
      rcases b1 with e | e <;> rcases b2 with e' | e' <;> rw [e, e'] <;> cases t.foe <;> rfl
    · rw [if_neg h2]
      have e2 : (t.other == p) = false := by simp [h2]
      rw [e2, Bool.bne_false]
theorem moved_cut {ss : List Int} {p : Int} (p0 : 0 ≤ p) (p1 : p < ss.length) : cutV (ss.map V.int) none (some p) ++ [V.int (1 - sd ss p)] ++ cutV (ss.map V.int) (some (p + 1)) none = (moved ss p).map V.int := by
  obtain ⟨k, rfl⟩ : ∃ k : Nat, p = k := ⟨p.toNat, by omega⟩
  have hk : k < ss.length := by omega
  have e1 : cutV (ss.map V.int) none (some (k : Int)) = (ss.take k).map V.int := by
    unfold cutV
    rw [HT.sIx_none, HT.sIx_nat, List.length_map, Nat.min_eq_left (by omega), List.drop_zero, List.map_take]
    rfl
  have e2 : cutV (ss.map V.int) (some ((k : Int) + 1)) none = (ss.drop (k + 1)).map V.int := by
    unfold cutV
    rw [HT.sIx_none, show ((k : Int) + 1) = ((k + 1 : Nat) : Int) from by omega, HT.sIx_nat, List.length_map, Nat.min_eq_left (by omega), List.map_drop]
    exact List.take_of_length_le (by rw [List.length_drop, List.length_map]; omega)
  rw [e1, e2]
  unfold moved
  rw [Int.toNat_natCast, List.set_eq_take_append_cons_drop, if_pos hk]
  simp
theorem in_bad {ss : List Int} {ts : List Tie} {i : Nat} (hi : i < ts.length) : inV (.int (i : Int)) ((bad ss ts).map V.int) = brk ss (tieAt ts i) := by
  rw [Bool.eq_iff_iff]
  unfold inV
  rw [List.any_map, List.any_eq_true]
  unfold bad badTo
  constructor
  · rintro ⟨x, hx, e⟩
    have e' : (x == (i : Int)) = true := e
    rw [beq_iff_eq] at e'
    subst e'
    exact (List.mem_filter.mp hx).2
  · intro h
    exact ⟨i, List.mem_filter.mpr ⟨mem_rng.mpr (by omega), h⟩, by show ((i : Int) == (i : Int)) = true; simp⟩
theorem flat_ints (xs : List Int) : (xs.map V.int).all flatV = true := by
  rw [List.all_map, List.all_eq_true]
  intro x _
  rfl
theorem in_two (p x y : Int) : inV (.int p) [.int x, .int y] = (x == p || y == p) := by
  show ((x == p) || ((y == p) || false)) = _
  rw [Bool.or_false]
theorem ne_bl (a b : Bool) : (!decide (V.bl a = V.bl b)) = (a != b) := by cases a <;> cases b <;> rfl
/-! ### the fixed choice: the mathematics -/
def Cons (ss : List Int) (ts : List Tie) : Prop := ∀ t ∈ ts, brk ss t = false
def Odd (ts : List Tie) (n : Nat) : Prop := ∃ x : Int, (0 ≤ x ∧ x < n) ∧ RP ts x x true
def one? (ss : List Int) (i : Int) : Bool := decide (sd ss i = 1)
structure Told (ts : List Tie) (n : Nat) (ss : List Int) : Prop where
  len : ss.length = n
  bin : Bin ss
  each : ∀ i : Int, 0 ≤ i → i < n → ∃ m, leader ts m ∧ RP ts m i (one? ss i)
theorem brk_one {ss : List Int} (b : Bin ss) {t : Tie} (ok : TieOk ss.length t) : brk ss t = ((one? ss t.one ^^ one? ss t.other) ^^ t.foe) := by
  unfold brk one?
  have b1 := sd_bin b ok.1 ok.2.1
  have b2 := sd_bin b ok.2.2.1 ok.2.2.2.1
  rcases b1 with e | e <;> rcases b2 with e' | e' <;> rw [e, e'] <;> cases t.foe <;> decide
theorem cons_adj {ss : List Int} {ts : List Tie} (b : Bin ss) (ok : ∀ t ∈ ts, TieOk ss.length t) (h : Cons ss ts) {x y : Int} {k : Bool} (ad : Adj ts x y k) : (one? ss x ^^ one? ss y) = k := by
  obtain ⟨t, ht, rfl, h1⟩ := ad
  have e := h t ht
  rw [brk_one b (ok t ht)] at e
  rcases h1 with ⟨rfl, rfl⟩ | ⟨rfl, rfl⟩
  · revert e
    cases one? ss t.one <;> cases one? ss t.other <;> cases t.foe <;> simp
  · revert e
    cases one? ss t.one <;> cases one? ss t.other <;> cases t.foe <;> simp
theorem cons_walk {ss : List Int} {ts : List Tie} (b : Bin ss) (ok : ∀ t ∈ ts, TieOk ss.length t) (h : Cons ss ts) {x y : Int} {p : Bool} (r : RP ts x y p) : (one? ss x ^^ one? ss y) = p := by
  induction r with
  | nil => rw [Bool.xor_self]
  | step _ ad ih =>
    rw [← ih, ← cons_adj b ok h ad]
    rename_i u v p k _
    cases one? ss x <;> cases one? ss u <;> cases one? ss v <;> rfl
theorem cons_no_odd {ss : List Int} {ts : List Tie} {n : Nat} (b : Bin ss) (ok : ∀ t ∈ ts, TieOk ss.length t) (h : Cons ss ts) : ¬ Odd ts n := by
  rintro ⟨x, _, r⟩
  have := cons_walk b ok h r
  rw [Bool.xor_self] at this
  cases this
theorem leader_one {ts : List Tie} {m m' i : Int} (h : leader ts m) (h' : leader ts m') (r : Rch ts m i) (r' : Rch ts m' i) : m = m' := by
  have h1 := h m' (r.trans r'.symm)
  have h2 := h' m (r'.trans r.symm)
  omega
theorem told_unique {ts : List Tie} {n : Nat} {ss zs : List Int} (ok : ∀ t ∈ ts, TieOk n t) (h : Told ts n ss) (g : Told ts n zs) (c : Cons ss ts) : ss = zs := by
  refine List.ext_getElem? fun j => ?_
  by_cases hj : j < n
  · obtain ⟨m, l1, r1⟩ := h.each j (by omega) (by omega)
    obtain ⟨m', l2, r2⟩ := g.each j (by omega) (by omega)
    obtain rfl := leader_one l1 l2 ⟨_, r1⟩ ⟨_, r2⟩
    have w := cons_walk h.bin (by rw [h.len]; exact ok) c (r1.trans r2.symm)
    rw [Bool.xor_self] at w
    have e : one? ss j = one? zs j := by
      revert w
      cases one? ss (j : Int) <;> cases one? zs (j : Int) <;> simp
    have b1 := sd_bin h.bin (i := j) (by omega) (by rw [h.len]; omega)
    have b2 := sd_bin g.bin (i := j) (by omega) (by rw [g.len]; omega)
    obtain ⟨h1, e1⟩ := sd_get (ss := ss) (i := j) (by omega) (by rw [h.len]; omega)
    obtain ⟨h2, e2⟩ := sd_get (ss := zs) (i := j) (by omega) (by rw [g.len]; omega)
    have es : sd ss j = sd zs j := by
      unfold one? at e
      rcases b1 with x | x <;> rcases b2 with y | y <;> rw [x, y] at e ⊢ <;> revert e <;> decide
    rw [Int.toNat_natCast] at h1 h2
    rw [List.getElem?_eq_getElem h1, List.getElem?_eq_getElem h2]
    have : ss[j] = zs[j] := by
      have q1 : sd ss j = ss[j] := e1
      have q2 : sd zs j = zs[j] := e2
      rw [← q1, ← q2, es]
    rw [this]
  · rw [List.getElem?_eq_none (by rw [h.len]; omega), List.getElem?_eq_none (by rw [g.len]; omega)]
theorem told_odd {ts : List Tie} {n : Nat} {ss : List Int} (ok : ∀ t ∈ ts, TieOk n t) (h : Told ts n ss) {t : Tie} (ht : t ∈ ts) (hb : brk ss t = true) : Odd ts n := by
  have okt := ok t ht
  obtain ⟨m, l1, r1⟩ := h.each t.one okt.1 okt.2.1
  obtain ⟨m', l2, r2⟩ := h.each t.other okt.2.2.1 okt.2.2.2.1
  have ad : Adj ts t.one t.other t.foe := ⟨t, ht, rfl, .inl ⟨rfl, rfl⟩⟩
  obtain rfl := leader_one l1 l2 (Rch.trans ⟨_, r1⟩ (Rch.adj ad)) ⟨_, r2⟩
  have w := (r1.step ad).trans r2.symm
  refine ⟨m, Rch.rng ok ⟨okt.1, okt.2.1⟩ ⟨_, r1.symm⟩, ?_⟩
  have e : ((one? ss t.one ^^ t.foe) ^^ one? ss t.other) = true := by
    rw [brk_one h.bin (by rw [h.len]; exact okt)] at hb
    revert hb
    cases one? ss t.one <;> cases one? ss t.other <;> cases t.foe <;> simp
  rw [← e]
  exact w
theorem bad_nil {ss : List Int} {ts : List Tie} : bad ss ts = [] ↔ Cons ss ts := by
  unfold bad badTo Cons
  rw [List.filter_eq_nil_iff]
  constructor
  · intro h t ht
    obtain ⟨j, hj⟩ := List.getElem?_of_mem ht
    have hl := (List.getElem?_eq_some_iff.mp hj).1
    have := h j (mem_rng.mpr (by omega))
    rw [tieAt_of hj] at this
    simpa using this
  · intro h i hi
    rw [h _ (tieAt_mem hi)]
    decide
/-! ### groups by their least places, sides along the ties -/
theorem RP.mono {ts ts' : List Tie} (h : ∀ t ∈ ts, t ∈ ts') {a b : Int} {p : Bool} (r : RP ts a b p) : RP ts' a b p := by
  induction r with
  | nil => exact .nil
  | step _ ad ih =>
    obtain ⟨t, ht, e, q⟩ := ad
    exact ih.step ⟨t, h t ht, e, q⟩
def bit (x : Int) : Bool := decide (x = 1)
structure GS (ts : List Tie) (n : Nat) (g s : Int → Int) (good : Bool) : Prop where
  rp : ∀ i : Int, 0 ≤ i → i < n → RP ts (g i) i (bit (s i))
  le : ∀ i : Int, 0 ≤ i → i < n → 0 ≤ g i ∧ g i ≤ i
  bn : ∀ i : Int, 0 ≤ i → i < n → s i = 0 ∨ s i = 1
  eq : ∀ t ∈ ts, g t.one = g t.other
  yes : good = true → ∀ t ∈ ts, (bit (s t.one) ^^ bit (s t.other)) = t.foe
  no : good = false → Odd ts n
theorem GS.nil (n : Nat) : GS [] n (fun i => i) (fun _ => 0) true :=
  ⟨fun i _ _ => .nil, fun i h _ => ⟨h, Int.le_refl _⟩, fun _ _ _ => .inl rfl, fun t h => by simp at h, fun _ t h => by simp at h, fun h => by cases h⟩
theorem GS.same {ts : List Tie} {n : Nat} {g s : Int → Int} {good : Bool} (h : GS ts n g s good) {a b : Int} (r : Rch ts a b) : g a = g b :=
  r.ind (fun x => g a = g x) rfl fun x y k e ad => by
    obtain ⟨t, ht, _, q⟩ := ad
    have := h.eq t ht
    rcases q with ⟨rfl, rfl⟩ | ⟨rfl, rfl⟩
    · rw [e, this]
    · rw [e, this]
theorem GS.lead {ts : List Tie} {n : Nat} {g s : Int → Int} {good : Bool} (ok : ∀ t ∈ ts, TieOk n t) (h : GS ts n g s good) {i : Int} (h0 : 0 ≤ i) (h1 : i < n) : leader ts (g i) := fun q hq => by
  have e1 := h.same hq
  have e2 := h.same (⟨_, h.rp i h0 h1⟩ : Rch ts (g i) i)
  have r := hq.rng ok ⟨(h.le i h0 h1).1, by have := (h.le i h0 h1).2; omega⟩
  have := (h.le q r.1 r.2).2
  omega
def gNew (g : Int → Int) (low high : Int) : Int → Int := fun x => if low < high ∧ g x = high then low else g x
def sNew (g s : Int → Int) (low high turn : Int) : Int → Int := fun x => if low < high ∧ g x = high then (s x + turn) % 2 else s x
theorem bit_add {a b : Int} (ha : a = 0 ∨ a = 1) (hb : b = 0 ∨ b = 1) : bit ((a + b) % 2) = (bit a ^^ bit b) ∧ ((a + b) % 2 = 0 ∨ (a + b) % 2 = 1) := by
  rcases ha with rfl | rfl <;> rcases hb with rfl | rfl <;> decide
theorem GS.step {ts : List Tie} {n : Nat} {g s : Int → Int} {good : Bool} (h : GS ts n g s good) (okts : ∀ t ∈ ts, TieOk n t) {t : Tie} (ok : TieOk n t) {low high turn : Int} (hlow : low = min (g t.one) (g t.other)) (hhigh : high = max (g t.one) (g t.other)) (ht : turn = (s t.one + s t.other + (if t.foe = true then 1 else 0)) % 2) :
    GS (ts ++ [t]) n (gNew g low high) (sNew g s low high turn) (if low = high then good && decide (turn = 0) else good) := by
  have mono : ∀ x ∈ ts, x ∈ ts ++ [t] := fun x hx => List.mem_append_left _ hx
  have ad : Adj (ts ++ [t]) t.one t.other t.foe := ⟨t, by simp, rfl, .inl ⟨rfl, rfl⟩⟩
  have r1 := (h.rp t.one ok.1 ok.2.1).mono mono
  have r2 := (h.rp t.other ok.2.2.1 ok.2.2.2.1).mono mono
  have b1 := h.bn t.one ok.1 ok.2.1
  have b2 := h.bn t.other ok.2.2.1 ok.2.2.2.1
  have bt : bit turn = ((bit (s t.one) ^^ bit (s t.other)) ^^ t.foe) ∧ (turn = 0 ∨ turn = 1) := by
    rw [ht]
    rcases b1 with e | e <;> rcases b2 with e' | e' <;> rw [e, e'] <;> cases t.foe <;> decide
  have cross : low < high → RP (ts ++ [t]) low high (bit turn) := fun hl => by
    by_cases hc : g t.one ≤ g t.other
    · have e1 : low = g t.one := by omega
      have e2 : high = g t.other := by omega
      have w := (r1.step ad).trans r2.symm
      rw [e1, e2, bt.1]
      rw [show ((bit (s t.one) ^^ bit (s t.other)) ^^ t.foe) = ((bit (s t.one) ^^ t.foe) ^^ bit (s t.other)) from by cases bit (s t.one) <;> cases bit (s t.other) <;> cases t.foe <;> rfl]
      exact w
    · have e1 : low = g t.other := by omega
      have e2 : high = g t.one := by omega
      have w := (r2.step ad.symm).trans r1.symm
      rw [e1, e2, bt.1]
      rw [show ((bit (s t.one) ^^ bit (s t.other)) ^^ t.foe) = ((bit (s t.other) ^^ t.foe) ^^ bit (s t.one)) from by cases bit (s t.one) <;> cases bit (s t.other) <;> cases t.foe <;> rfl]
      exact w
  refine ⟨fun i h0 h1 => ?_, fun i h0 h1 => ?_, fun i h0 h1 => ?_, fun x hx => ?_, fun hg x hx => ?_, fun hg => ?_⟩
  · unfold gNew sNew
    by_cases hc : low < high ∧ g i = high
    · rw [if_pos hc, if_pos hc, (bit_add (h.bn i h0 h1) bt.2).1, Bool.xor_comm]
      have w := (h.rp i h0 h1).mono mono
      rw [hc.2] at w
      exact (cross hc.1).trans w
    · rw [if_neg hc, if_neg hc]
      exact (h.rp i h0 h1).mono mono
  · unfold gNew
    have l := h.le i h0 h1
    have l1 := h.le t.one ok.1 ok.2.1
    have l2 := h.le t.other ok.2.2.1 ok.2.2.2.1
    split
    · omega
    · exact l
  · unfold sNew
    split
    · exact (bit_add (h.bn i h0 h1) bt.2).2
    · exact h.bn i h0 h1
  · unfold gNew
    rcases List.mem_append.mp hx with hx | hx
    · rw [h.eq x hx]
    · rw [List.mem_singleton.mp hx]
      split <;> split <;> omega
  · rcases List.mem_append.mp hx with hx | hx
    · have hgood : good = true := by
        by_cases e : low = high
        · rw [if_pos e] at hg
          revert hg
          cases good <;> simp
        · rw [if_neg e] at hg
          exact hg
      have q := h.yes hgood x hx
      have e := h.eq x hx
      unfold sNew
      by_cases hc : low < high ∧ g x.one = high
      · have hc' : low < high ∧ g x.other = high := ⟨hc.1, by rw [← e]; exact hc.2⟩
        have okx := okts x hx
        rw [if_pos hc, if_pos hc', (bit_add (h.bn x.one okx.1 okx.2.1) bt.2).1, (bit_add (h.bn x.other okx.2.2.1 okx.2.2.2.1) bt.2).1, ← q]
        cases bit (s x.one) <;> cases bit (s x.other) <;> cases bit turn <;> rfl
      · have hc' : ¬ (low < high ∧ g x.other = high) := fun z => hc ⟨z.1, by rw [e]; exact z.2⟩
        rw [if_neg hc, if_neg hc']
        exact q
    · rw [List.mem_singleton.mp hx]
      unfold sNew
      by_cases e : low = high
      · rw [if_pos e] at hg
        have h0 : turn = 0 := by
          revert hg
          cases good <;> simp
        rw [if_neg (by omega), if_neg (by omega)]
        have z := bt.1
        rw [h0] at z
        revert z
        cases bit (s t.one) <;> cases bit (s t.other) <;> cases t.foe <;> decide
      · have hlt : low < high := by omega
        by_cases hc : g t.one ≤ g t.other
        · rw [if_neg (by omega), if_pos ⟨hlt, by omega⟩, (bit_add b2 bt.2).1, bt.1]
          cases bit (s t.one) <;> cases bit (s t.other) <;> cases t.foe <;> rfl
        · rw [if_pos ⟨hlt, by omega⟩, if_neg (by omega), (bit_add b1 bt.2).1, bt.1]
          cases bit (s t.one) <;> cases bit (s t.other) <;> cases t.foe <;> rfl
  · have old : good = false → Odd (ts ++ [t]) n := fun e => by
      obtain ⟨x, hx, r⟩ := h.no e
      exact ⟨x, hx, r.mono mono⟩
    by_cases e : low = high
    · rw [if_pos e] at hg
      cases hgood : good
      · exact old hgood
      · rw [hgood] at hg
        have h1 : turn = 1 := by
          rcases bt.2 with z | z
          · rw [z] at hg
            cases hg
          · exact z
        have eg : g t.one = g t.other := by omega
        have w := (r1.step ad).trans (eg ▸ r2).symm
        refine ⟨g t.one, ?_, ?_⟩
        · have := h.le t.one ok.1 ok.2.1
          have := ok.2.1
          omega
        · have z := bt.1
          rw [h1] at z
          rw [show ((bit (s t.one) ^^ t.foe) ^^ bit (s t.other)) = true from by
            revert z
            cases bit (s t.one) <;> cases bit (s t.other) <;> cases t.foe <;> decide] at w
          exact w
    · rw [if_neg e] at hg
      exact old hg
/-! ### d.update(e) -/
def rUpdate : V → List V → Hp → VK → Prop := fun x vs H Q => ∃ (a b : Addr) (kvs more : List (Key × V)), x = .ref a ∧ vs = [.ref b] ∧ H a = some (.dK kvs) ∧ H b = some (.dK more) ∧ a ≠ b ∧ kvs.length + more.length ≤ sizeLine ∧ Q .non (upd H a (.dK (mergeK kvs more)))
theorem mt_update {X : Cx} : MtR X "dict.update" rUpdate := by
  intro pins s σ H x vs v us Q I rx rv h
  obtain ⟨a, b, kvs, more, ex, ev, e1, e2, ne, hl, q⟩ := h
  subst ex
  subst ev
  obtain rfl : v = Value.ref a := rx
  obtain ⟨u, eu, r1⟩ := vals1 rv
  subst eu
  obtain rfl : u = Value.ref b := r1
  obtain ⟨z1, hd1, vs1, rel1, dd1⟩ := dk_of I.hok e1
  obtain ⟨z2, hd2, vs2, rel2, dd2⟩ := dk_of I.hok e2
  refine call_meetsIn PySem.F.slot_dict_update dd1.typeIs PySem.F.entry_dict_update (PySem.F.args_dict_update_2 _ _) (meets_dict_update (mixKind X.prog X.w) a b ne hd2) ⟨vs1, vs2, dd1, dd2, by rw [← rel1.length, ← rel2.length]; exact hl, fun h' dd' _ hs => ⟨.non, _, ?_, rfl, q⟩⟩
  have he : ∃ q, h'.get? a = some q := let ⟨q, _, _, hq, _⟩ := dd'; ⟨q, hq⟩
  exact d_write (t' := s.toks) I (by rw [e1]; exact True.intro) hs he (dk_new (Nat.le_trans (length_mergeK more kvs) hl) hd1 (rel2.merge rel1) dd')
/-! ### for each place its ties -/
theorem Same.mut {H H' : Hp} {a : Addr} {o : HO} (s : Same H H') (h : H a = none) : Same H (upd H' a o) := fun b x e => by
  rw [upd_ne (ne_of_none e h)]
  exact s b x e
abbrev Nb := Int × Bool
def NbV (H : Hp) (v : V) (p : Nb) : Prop := ∃ a, v = .ref a ∧ H a = some (.tup [.int p.1, .str (kindS p.2)])
theorem NbV.tk {H H' : Hp} (k : Tk H H') {v : V} {p : Nb} (h : NbV H v p) : NbV H' v p := by
  obtain ⟨a, rfl, e⟩ := h
  exact ⟨a, rfl, k _ _ e⟩
structure Around (H : Hp) (L : Addr) (As : List Addr) (N : Nat → List Nb) : Prop where
  at' : H L = some (.lst (As.map V.ref))
  nd : As.Nodup
  each : ∀ j a, As[j]? = some a → ∃ vs, H a = some (.lst vs) ∧ Paired (NbV H) vs (N j)
  out : L ∉ As
theorem Around.same {H H' : Hp} {L : Addr} {As : List Addr} {N : Nat → List Nb} (h : Around H L As N) (s : Same H H') : Around H' L As N :=
  ⟨s _ _ h.at', h.nd, fun j a e => by
    obtain ⟨vs, h1, h2⟩ := h.each j a e
    exact ⟨vs, s _ _ h1, Paired.mono (fun _ _ x => x.tk (Same.tk s)) h2⟩, h.out⟩
theorem Around.put {H : Hp} {L q : Addr} {As : List Addr} {N : Nat → List Nb} (h : Around H L As N) {j : Nat} {a : Addr} {vs : List V} {p : Nb} (ea : As[j]? = some a) (ev : H a = some (.lst vs)) (eq : NbV H (.ref q) p) :
    Around (upd H a (.lst (vs ++ [.ref q]))) L As (fun i => N i ++ if i = j then [p] else []) := by
  have k : Tk H (upd H a (.lst (vs ++ [.ref q]))) := tk_lst ev
  refine ⟨?_, h.nd, fun i b e => ?_, h.out⟩
  · have ne : L ≠ a := fun z => h.out (by rw [z]; exact List.mem_of_getElem? ea)
    rw [upd_ne ne]
    exact h.at'
  · obtain ⟨ws, h1, h2⟩ := h.each i b e
    by_cases hij : i = j
    · subst hij
      rw [ea] at e
      cases e
      rw [ev] at h1
      cases h1
      refine ⟨_, upd_same, ?_⟩
      rw [if_pos rfl]
      exact Paired.snoc (Paired.mono (fun _ _ x => x.tk k) h2) (eq.tk k)
    · have ne : b ≠ a := fun z => hij (by
        subst z
        exact (List.getElem?_inj (List.getElem?_eq_some_iff.mp e).1 h.nd).mp (e.trans ea.symm))
      refine ⟨ws, by rw [upd_ne ne]; exact h1, ?_⟩
      rw [if_neg hij, List.append_nil]
      exact Paired.mono (fun _ _ x => x.tk k) h2
def nb1 (t : Tie) (i : Int) : List Nb := (if i = t.one then [(t.other, t.foe)] else []) ++ (if i = t.other then [(t.one, t.foe)] else [])
def nbs (ts : List Tie) (i : Int) : List Nb := ts.flatMap fun t => nb1 t i
theorem nbs_snoc (ts : List Tie) (t : Tie) (i : Int) : nbs (ts ++ [t]) i = nbs ts i ++ nb1 t i := by
  unfold nbs
  rw [List.flatMap_append]
  simp
theorem nb1_len (t : Tie) (i : Int) : (nb1 t i).length ≤ 2 := by
  unfold nb1
  rw [List.length_append]
  split <;> split <;> simp
theorem nbs_len (ts : List Tie) (i : Int) : (nbs ts i).length ≤ 2 * ts.length := by
  induction ts with
  | nil => simp [nbs]
  | cons t ts ih =>
    have h := nb1_len t i
    unfold nbs at ih ⊢
    rw [List.flatMap_cons, List.length_append, List.length_cons]
    omega
theorem mem_nbs {ts : List Tie} {i : Int} {p : Nb} : p ∈ nbs ts i ↔ Adj ts i p.1 p.2 := by
  unfold nbs Adj nb1
  rw [List.mem_flatMap]
  constructor
  · rintro ⟨t, ht, h⟩
    refine ⟨t, ht, ?_⟩
    rcases List.mem_append.mp h with h | h
    · split at h
      · rename_i e
        rw [List.mem_singleton] at h
        subst h
        exact ⟨rfl, .inl ⟨e.symm, rfl⟩⟩
      · simp at h
    · split at h
      · rename_i e
        rw [List.mem_singleton] at h
        subst h
        exact ⟨rfl, .inr ⟨rfl, e.symm⟩⟩
      · simp at h
  · rintro ⟨t, ht, e, h⟩
    refine ⟨t, ht, List.mem_append.mpr ?_⟩
    obtain ⟨p1, p2⟩ := p
    simp only at e h
    rcases h with ⟨h1, h2⟩ | ⟨h1, h2⟩
    · left
      rw [if_pos h1.symm, List.mem_singleton, ← e, ← h2]
    · right
      rw [if_pos h2.symm, List.mem_singleton, ← e, ← h1]
/-- the list that neighbours tells -/
def AroundAt (H : Hp) (v : V) (n : Int) (ts : List Tie) : Prop := ∃ L As, v = .ref L ∧ (As.length : Int) = n ∧ Around H L As (fun j => nbs ts j)
theorem AroundAt.same {H H' : Hp} {v : V} {n : Int} {ts : List Tie} (h : AroundAt H v n ts) (s : Same H H') : AroundAt H' v n ts := by
  obtain ⟨L, As, rfl, h1, h2⟩ := h
  exact ⟨L, As, rfl, h1, h2.same s⟩
def spNeighbours : Sp := fun vs H Q _ => ∃ (v : V) (n : Int) (ts : List Tie), vs = [v] ∧ WebAt H v n ts ∧ WebOk n ts ∧
  ∀ v' H', AroundAt H' v' n ts → Same H H' → Q v' H'
section
variable {P : Program} {w : World} {K : PySem.W.Frag} {mg : Str → Option Value} {base : Heap}
theorem ok_neighbours {f : Addr} {fd : FuncData} (F : Fun K "neighbours" "neighbours" s_neighbours f fd) (M : Free mg) : FnOk P w K mg base CX0 1 f fd ["web"] spNeighbours := by
  refine F.ok sc_neighbours (fun vs H Q E h => ?_) (fun cdv A outer s H vs Q E hr h => ?_)
  · obtain ⟨v, n, ts, rfl, _⟩ := h
    rfl
  · obtain ⟨v, n, ts, rfl, ⟨a, b, us, rfl, ha, hb, hp⟩, ok, q⟩ := h
    refine ⟨_, (pss_cons (ps_asg (pv 0) (pg_tup rfl (pgs_cons (pg_name (i := 1) sc_neighbours.nd rfl (.inl rfl)) (pgs_cons (pg_name (i := 2) sc_neighbours.nd rfl (.inl rfl)) pgs_nil))))
      (pss_cons (ps_setLc (i := 3) (own := [("place", 4)]) (g := gName 4) (tt := tYes) rfl sc_neighbours.nd rfl rfl (sw_true rfl rfl rfl (by decide +kernel)) (pi_range1 (by rfl) M.range (pa_cons (pv 1) pa_nil)) (blkOk_by (N := N_neighbours) (sc := defScope s_neighbours) (own := [("place", 4)]) (by decide +kernel)) (fun _ _ _ _ _ => (pg_name (i := 4) sc_neighbours.nd rfl (.inl rfl))) (fun _ _ _ _ _ => pts_nil) (fun _ _ _ _ _ => (pe_lst pa_nil)))
      (pss_cons (ps_for PassesOwn.never rfl (pi_tup (pv 2)) (pg_tup rfl (pgs_cons (pg_name (i := 5) sc_neighbours.nd rfl (.inl rfl)) (pgs_cons (pg_name (i := 6) sc_neighbours.nd rfl (.inl rfl)) (pgs_cons (pg_name (i := 7) sc_neighbours.nd rfl (.inl rfl)) pgs_nil))))
        (pss_cons (ps_expr (pe_bm PySem.F.plainAttrs_list PySem.F.slot_list_append PySem.F.type_list_append mt_append (pe_ix ix_list (pv 3) (pv 5) (fun _ _ => rfl)) (pa_cons (pe_tup (pa_cons (pv 6) (pa_cons (pv 7) pa_nil))) pa_nil)))
        (pss_one (ps_expr (pe_bm PySem.F.plainAttrs_list PySem.F.slot_list_append PySem.F.type_list_append mt_append (pe_ix ix_list (pv 3) (pv 6) (fun _ _ => rfl)) (pa_cons (pe_tup (pa_cons (pv 5) (pa_cons (pv 7) pa_nil))) pa_nil))))))
      (pss_one (ps_ret (pv 3)))))), ?_⟩
    obtain ⟨k, rfl⟩ : ∃ k : Nat, n = k := ⟨n.toNat, by have := ok.lo; omega⟩
    have hk : k ≤ 40 := by have := ok.hi; omega
    -- many, ties = web
    refine ⟨.ref a, rfl, a, _, rfl, SqT.of ha, rfl, _, _, rfl, _, _, rfl, rfl, ?_⟩
    -- around
    refine ⟨.int k, rfl, k, rfl, by omega, by omega, fun L nL => ?_⟩
    rw [Int.toNat_natCast]
    refine lc_range (lo := 0) (n := k) (fun i H' => ∃ As : List Addr, As.length = i ∧ Around H' L As (fun _ => []) ∧ (∀ x ∈ As, H x = none) ∧ Same H H') ?_ ?_ ?_
    · exact ⟨[], rfl, ⟨upd_same, List.nodup_nil, fun j a e => by simp at e, by simp⟩, fun x hx => by simp at hx, same_new nL⟩
    · rintro i H1 hi ⟨As, hl, hA, hf, s1⟩
      refine ⟨rfl, Nat.zero_le _, fun p np => ?_⟩
      have hA2 := hA.same (same_new (o := .lst []) np)
      refine ⟨_, hA2.at', by rw [List.length_map]; exact small1000 (by omega), As ++ [p], by rw [List.length_append, hl]; rfl, ?_, fun x hx => ?_, Same.mut (s1.trans (same_new np)) nL⟩
      · have npA : p ∉ As := fun z => by
          obtain ⟨j, hj⟩ := List.getElem?_of_mem z
          obtain ⟨vs, h1, _⟩ := hA.each j p hj
          rw [np] at h1
          cases h1
        have npL : p ≠ L := fun z => by
          have h1 := hA.at'
          rw [← z, np] at h1
          cases h1
        refine ⟨by rw [upd_same, List.map_append]; rfl, ?_, fun j x e => ?_, ?_⟩
        · rw [List.nodup_append]
          refine ⟨hA.nd, by simp, fun x hx y hy z => ?_⟩
          rw [List.mem_singleton] at hy
          subst hy
          subst z
          exact npA hx
        · have hx : x ≠ L := fun z => by
            subst z
            rcases List.mem_append.mp (List.mem_of_getElem? e) with h | h
            · exact hA.out h
            · exact npL (List.mem_singleton.mp h).symm
          rcases List.mem_append.mp (List.mem_of_getElem? e) with h | h
          · obtain ⟨j2, e2⟩ := List.getElem?_of_mem h
            obtain ⟨vs, h1, h2⟩ := hA2.each j2 x e2
            cases h2
            exact ⟨[], by rw [upd_ne hx]; exact h1, .nil⟩
          · rw [List.mem_singleton] at h
            subst h
            exact ⟨[], by rw [upd_ne hx]; exact upd_same, .nil⟩
        · intro z
          rcases List.mem_append.mp z with h | h
          · exact hA.out h
          · exact npL (List.mem_singleton.mp h).symm
      · rcases List.mem_append.mp hx with h | h
        · exact hf x h
        · rw [List.mem_singleton.mp h]
          exact s1.free np
    rintro H0 ⟨As, hl, hA, hf, s0⟩
    have nLH : H L = none := nL
    -- the loop
    refine ⟨.ref b, rfl, b, rfl, ⟨_, SqT.of (s0 _ _ hb)⟩, ?_⟩
    have hlen : us.length = ts.length := Paired.length hp
    refine for_tup (xs := us) (fun i σ' H' => ∃ y5 y6 y7 : Option V, σ' = [some (.ref a), some (.int k), some (.ref b), some (.ref L), none, y5, y6, y7] ∧ Around H' L As (fun j => nbs (ts.take i) j) ∧ Same H H') ?_ ?_ ?_ ?_
    · exact ⟨none, none, none, rfl, hA, s0⟩
    · rintro i σ' H' _ ⟨y5, y6, y7, rfl, hA1, s1⟩
      exact SqT.of (s1 _ _ hb)
    · rintro i x σ' H1 ex ⟨y5, y6, y7, rfl, hA1, s1⟩
      obtain ⟨t, et, c, rfl, hc⟩ := Paired.at hp ex
      have okt := ok.ok t (List.mem_of_getElem? et)
      have hti := (List.getElem?_eq_some_iff.mp et).1
      have etk : ts.take (i + 1) = ts.take i ++ [t] := by
        rw [List.take_add_one, et]
        rfl
      have hts := ok.few
      refine ⟨c, _, rfl, SqT.of (s1 _ _ hc), rfl, _, _, rfl, _, _, rfl, _, _, rfl, rfl, ?_⟩
      obtain ⟨o1, o2, o3, o4, o5⟩ := okt
      -- the first
      obtain ⟨x1, e1, e1'⟩ := getI (xs := As) o1 (by omega)
      obtain ⟨vs1, g1, p1⟩ := hA1.each _ _ e1'
      have l1 := Paired.length p1
      have l1' := nbs_len (ts.take i) (t.one.toNat : Int)
      rw [List.length_take] at l1'
      refine ⟨.ref L, rfl, .int t.one, rfl, L, _, t.one, .ref x1, rfl, rfl, SqL.of hA1.at', ?_, .inl ⟨rfl, _, SqL.of g1⟩, .int t.other, rfl, .str (kindS t.foe), rfl, by show 2 ≤ sizeLine; decide, fun p np => ?_⟩
      · exact atI_of o1 (by rw [List.getElem?_map, e1']; rfl)
      have A2 := hA1.same (same_new (o := .tup [.int t.other, .str (kindS t.foe)]) np)
      refine ⟨x1, vs1, _, rfl, rfl, same_new np _ _ g1, small1000 (by omega), ?_⟩
      have A3 := A2.put e1' (same_new np _ _ g1) (q := p) (p := (t.other, t.foe)) ⟨p, rfl, upd_same⟩
      have s3 : Same H (upd (upd H1 p (.tup [.int t.other, .str (kindS t.foe)])) x1 (.lst (vs1 ++ [.ref p]))) := Same.mut (s1.trans (same_new np)) (hf _ (List.mem_of_getElem? e1'))
      generalize upd (upd H1 p (.tup [.int t.other, .str (kindS t.foe)])) x1 (.lst (vs1 ++ [.ref p])) = H3 at A3 s3
      -- the second
      obtain ⟨x2, e2, e2'⟩ := getI (xs := As) o3 (by omega)
      obtain ⟨vs2, g2, p2⟩ := A3.each _ _ e2'
      have l2 := Paired.length p2
      rw [List.length_append] at l2
      have l2' := nbs_len (ts.take i) (t.other.toNat : Int)
      rw [List.length_take] at l2'
      have l2'' : (if t.other.toNat = t.one.toNat then [(t.other, t.foe)] else []).length ≤ 1 := by split <;> simp
      refine ⟨.ref L, rfl, .int t.other, rfl, L, _, t.other, .ref x2, rfl, rfl, SqL.of A3.at', ?_, .inl ⟨rfl, _, SqL.of g2⟩, .int t.one, rfl, .str (kindS t.foe), rfl, by show 2 ≤ sizeLine; decide, fun p' np' => ?_⟩
      · exact atI_of o3 (by rw [List.getElem?_map, e2']; rfl)
      have A4 := A3.same (same_new (o := .tup [.int t.one, .str (kindS t.foe)]) np')
      refine ⟨x2, vs2, _, rfl, rfl, same_new np' _ _ g2, small1000 (by omega), ?_⟩
      have A5 := A4.put e2' (same_new np' _ _ g2) (q := p') (p := (t.one, t.foe)) ⟨p', rfl, upd_same⟩
      refine ⟨_, _, _, rfl, ?_, Same.mut (s3.trans (same_new np')) (hf _ (List.mem_of_getElem? e2'))⟩
      refine ⟨A5.at', A5.nd, fun j z ez => ?_, A5.out⟩
      obtain ⟨ws, w1, w2⟩ := A5.each j z ez
      refine ⟨ws, w1, ?_⟩
      rw [etk, nbs_snoc]
      have en : nb1 t j = (if j = t.one.toNat then [(t.other, t.foe)] else []) ++ (if j = t.other.toNat then [(t.one, t.foe)] else []) := by
        unfold nb1
        congr 1
        · by_cases h : j = t.one.toNat
          · rw [if_pos h, if_pos (by omega)]
          · rw [if_neg h, if_neg (by omega)]
        · by_cases h : j = t.other.toNat
          · rw [if_pos h, if_pos (by omega)]
          · rw [if_neg h, if_neg (by omega)]
      rw [en, ← List.append_assoc]
      exact w2
    · rintro σ' H1 ⟨y5, y6, y7, rfl, hA1, s1⟩
      rw [hlen, List.take_length] at hA1
      exact ⟨.ref L, rfl, q _ _ ⟨L, As, rfl, by rw [hl], hA1⟩ s1⟩
end
/-! ### the places that ties lead to -/
def sideI (b : Bool) : Int := if b then 1 else 0
def kvOf (ks : List Nb) : List (Key × V) := ks.map fun p => (Sum.inl p.1, V.int (sideI p.2))
theorem kvOf_none {z : Int} : ∀ {ks : List Nb}, z ∉ ks.map (·.1) → valV (kvOf ks) (Sum.inl z) = none
  | [], _ => rfl
  | p :: ks, h => by
    rw [List.map_cons, List.mem_cons, not_or] at h
    have e := kvOf_none (ks := ks) h.2
    have h1 := h.1
    unfold kvOf at e ⊢
    rw [List.map_cons, valV_neg (fun z => h1 (Sum.inl.inj z).symm)]
    exact e
theorem kvOf_some {z : Int} {b : Bool} : ∀ {ks : List Nb}, (ks.map (·.1)).Nodup → (z, b) ∈ ks → valV (kvOf ks) (Sum.inl z) = some (.int (sideI b))
  | p :: ks, nd, h => by
    rw [List.map_cons, List.nodup_cons] at nd
    rcases List.mem_cons.mp h with e | e
    · subst e
      unfold kvOf
      rw [List.map_cons, valV_pos rfl]
    · have q := kvOf_some (ks := ks) nd.2 e
      have ne : p.1 ≠ z := fun y => nd.1 (by rw [y]; exact List.mem_map.mpr ⟨_, e, rfl⟩)
      unfold kvOf at q ⊢
      rw [List.map_cons, valV_neg (fun y => ne (Sum.inl.inj y))]
      exact q
theorem kvOf_put {ks : List Nb} {z : Int} {b : Bool} (h : z ∉ ks.map (·.1)) : putK (kvOf ks) (Sum.inl z) (.int (sideI b)) = kvOf (ks ++ [(z, b)]) := by
  unfold putK
  rw [if_neg]
  · unfold kvOf
    rw [List.map_append]
    rfl
  · intro g
    rw [List.any_eq_true] at g
    obtain ⟨kv, h1, h2⟩ := g
    unfold kvOf at h1
    rw [List.mem_map] at h1
    obtain ⟨p, hp, rfl⟩ := h1
    exact h (List.mem_map.mpr ⟨p, hp, Sum.inl.inj (of_decide_eq_true h2)⟩)
theorem kvOf_len (ks : List Nb) : (kvOf ks).length = ks.length := by unfold kvOf; rw [List.length_map]
theorem pigeon : ∀ (n : Nat) (xs : List Int), xs.Nodup → (∀ x ∈ xs, 0 ≤ x ∧ x < n) → xs.length ≤ n
  | 0, xs, _, h => by
    cases xs with
    | nil => simp
    | cons x r =>
      have := h x (by simp)
      omega
  | n + 1, xs, nd, h => by
    have q := pigeon n (xs.erase (n : Int)) (nd.erase _) fun x hx => by
      have h1 := h x (List.mem_of_mem_erase hx)
      have h2 : x ≠ n := (List.Nodup.mem_erase_iff nd).mp hx |>.1
      omega
    have l := List.length_erase (a := (n : Int)) (l := xs)
    split at l
    · omega
    · omega
structure SF (ts : List Tie) (s : Int) (ks : List Nb) (wl ex : List Int) : Prop where
  nd : (ks.map (·.1)).Nodup
  rp : ∀ p ∈ ks, RP ts s p.1 p.2
  st : s ∈ ks.map (·.1)
  sub : ∀ x ∈ wl, x ∈ ks.map (·.1)
  le : wl.length ≤ ks.length
  cl : ∀ x ∈ ks.map (·.1), x ∉ wl → x ∉ ex → ∀ y k, Adj ts x y k → y ∈ ks.map (·.1)
theorem SF.keys {ts : List Tie} {s : Int} {ks : List Nb} {wl ex : List Int} (h : SF ts s ks wl ex) {x : Int} (hx : x ∈ ks.map (·.1)) : ∃ b, (x, b) ∈ ks ∧ RP ts s x b := by
  obtain ⟨p, hp, rfl⟩ := List.mem_map.mp hx
  exact ⟨p.2, hp, h.rp p hp⟩
theorem SF.few {ts : List Tie} {n : Nat} {s : Int} {ks : List Nb} {wl ex : List Int} (h : SF ts s ks wl ex) (ok : ∀ t ∈ ts, TieOk n t) (hs : 0 ≤ s ∧ s < n) : ks.length ≤ n := by
  have q := pigeon n (ks.map (·.1)) h.nd fun x hx => by
    obtain ⟨b, _, hb⟩ := h.keys hx
    exact Rch.rng ok hs ⟨b, hb⟩
  rw [List.length_map] at q
  exact q
theorem SF.all {ts : List Tie} {s : Int} {ks : List Nb} (h : SF ts s ks [] []) (z : Int) : z ∈ ks.map (·.1) ↔ Rch ts s z := by
  constructor
  · intro hz
    obtain ⟨b, _, hb⟩ := h.keys hz
    exact ⟨b, hb⟩
  · intro hz
    exact hz.ind (fun x => x ∈ ks.map (·.1)) h.st fun x y k hx ad => h.cl x hx (by simp) (by simp) y k ad
theorem SF.pop {ts : List Tie} {s p : Int} {ks : List Nb} {wl : List Int} (h : SF ts s ks (wl ++ [p]) []) : SF ts s ks wl [p] :=
  ⟨h.nd, h.rp, h.st, fun x hx => h.sub x (List.mem_append_left _ hx), by have := h.le; rw [List.length_append] at this; omega, fun x hx h1 h2 => h.cl x hx (fun z => by
    rcases List.mem_append.mp z with z | z
    · exact h1 z
    · exact h2 z) (by simp)⟩
theorem SF.push {ts : List Tie} {s p y : Int} {b f : Bool} {ks : List Nb} {wl : List Int} (h : SF ts s ks wl [p]) (hp : RP ts s p b) (ad : Adj ts p y f) (hy : y ∉ ks.map (·.1)) : SF ts s (ks ++ [(y, b ^^ f)]) (wl ++ [y]) [p] := by
  have em : (ks ++ [(y, b ^^ f)]).map (·.1) = ks.map (·.1) ++ [y] := by rw [List.map_append]; rfl
  refine ⟨?_, fun q hq => ?_, ?_, fun x hx => ?_, ?_, fun x hx h1 h2 z k hz => ?_⟩
  · rw [em, List.nodup_append]
    refine ⟨h.nd, by simp, fun x hx z hz e => ?_⟩
    rw [List.mem_singleton] at hz
    subst hz
    subst e
    exact hy hx
  · rcases List.mem_append.mp hq with q1 | q1
    · exact h.rp q q1
    · rw [List.mem_singleton] at q1
      subst q1
      exact hp.step ad
  · rw [em]
    exact List.mem_append_left _ h.st
  · rw [em]
    rcases List.mem_append.mp hx with q1 | q1
    · exact List.mem_append_left _ (h.sub x q1)
    · exact List.mem_append_right _ q1
  · rw [List.length_append, List.length_append]
    have := h.le
    simp
    omega
  · rw [em] at hx ⊢
    rcases List.mem_append.mp hx with q1 | q1
    · exact List.mem_append_left _ (h.cl x q1 (fun q2 => h1 (List.mem_append_left _ q2)) h2 z k hz)
    · exact absurd (List.mem_append_right _ q1) h1
theorem SF.done {ts : List Tie} {s p : Int} {ks : List Nb} {wl : List Int} (h : SF ts s ks wl [p]) (hp : ∀ q ∈ nbs ts p, q.1 ∈ ks.map (·.1)) : SF ts s ks wl [] :=
  ⟨h.nd, h.rp, h.st, h.sub, h.le, fun x hx h1 _ y k ad => by
    by_cases e : x = p
    · subst e
      exact hp (y, k) (mem_nbs.mpr ad)
    · exact h.cl x hx h1 (fun z => e (List.mem_singleton.mp z)) y k ad⟩
theorem side_xor (b f : Bool) : (if decide (V.str (kindS f) = V.str "friend") = true then sideI b else 1 - sideI b) = sideI (b ^^ f) := by
  cases f
  · cases b <;> rfl
  · cases b <;> rfl
theorem room1 {k : Nat} {A : PySem.Around} (r : Room k A) : A.units + 1 < cLine := by have := r.un; omega
structure SidesOf (ts : List Tie) (s : Int) (ks : List Nb) : Prop where
  nd : (ks.map (·.1)).Nodup
  rp : ∀ p ∈ ks, RP ts s p.1 p.2
  all : ∀ z, z ∈ ks.map (·.1) ↔ Rch ts s z
def spSidesFrom : Sp := fun vs H Q _ => ∃ (v : V) (n : Int) (s : Int) (ts : List Tie), vs = [.int s, v] ∧ AroundAt H v n ts ∧ WebOk n ts ∧ 0 ≤ s ∧ s < n ∧
  ∀ d ks H', H d = none → H' d = some (.dK (kvOf ks)) → Same H H' → SidesOf ts s ks → Q (.ref d) H'
section
variable {P : Program} {w : World} {K : PySem.W.Frag} {mg : Str → Option Value} {base : Heap}
theorem ok_sides_from {f : Addr} {fd : FuncData} (F : Fun K "sides_from" "sides_from" s_sides_from f fd) (M : Free mg) : FnOk P w K mg base CX0 1 f fd ["start", "around"] spSidesFrom := by
  refine F.ok sc_sides_from (fun vs H Q E h => ?_) (fun cdv A outer sh H vs Q E hr h => ?_)
  · obtain ⟨v, n, s, ts, rfl, _⟩ := h
    rfl
  · obtain ⟨v, n, s, ts, rfl, ⟨L, As, rfl, hl, hA⟩, ok, hs0, hs1, q⟩ := h
    have hu := room1 hr
    refine ⟨_, (pss_cons (ps_set (i := 2) sc_sides_from.nd rfl (.inl rfl) (pe_disp (pps_cons (pv 0) pe_int pps_nil) (by rfl) (by rfl) (fun z => by cases z) (by decide)))
      (pss_cons (ps_set (i := 3) sc_sides_from.nd rfl (.inl rfl) (pe_lst (pa_cons (pv 0) pa_nil)))
      (pss_cons (ps_while PassesOwn.never (pt_truth (pv 3) (by intro _; rfl))
        (pss_cons (ps_set (i := 4) sc_sides_from.nd rfl (.inl rfl) (pe_bm0 PySem.F.plainAttrs_list PySem.F.slot_list_pop PySem.F.type_list_pop mt_pop (pv 3)))
        (pss_one (ps_for PassesOwn.never rfl (pi_list (pe_ix ix_list (pv 1) (pv 4) (fun _ _ => rfl))) (pg_tup rfl (pgs_cons (pg_name (i := 5) sc_sides_from.nd rfl (.inl rfl)) (pgs_cons (pg_name (i := 6) sc_sides_from.nd rfl (.inl rfl)) pgs_nil)))
          (pss_one (ps_if (pt_cmp (pc_dnotin hu (pv 5) (pv 2)))
            (Evl.pss_cut (ps_dput hu (pv 2) (pv 5) (pe_ifExp (pt_cmpR op_eq (pv 6) pe_str (nomark _)) (pe_dget hu (pv 2) (pv 4) (fun _ _ => rfl)) (pe_op op_sub pe_int (pe_dget hu (pv 2) (pv 4) (fun _ _ => rfl)))) rfl)
            (pss_one (ps_expr (pe_bm PySem.F.plainAttrs_list PySem.F.slot_list_append PySem.F.type_list_append mt_append (pv 3) (pa_cons (pv 5) pa_nil)))))
            pss_nil))))))
      (pss_one (ps_ret (pv 2)))))), ?_⟩
    obtain ⟨k, rfl⟩ : ∃ k : Nat, n = k := ⟨n.toNat, by have := ok.lo; omega⟩
    have hk : k ≤ 40 := by have := ok.hi; omega
    have hts := ok.few
    -- sides
    refine fun d nd => ⟨.int s, rfl, upd_same, [(Sum.inl s, .int 0)], rfl, (by show 1 ≤ 15; decide), ?_⟩
    have eH : upd (upd H d (.dK [])) d (.dK (mergeK [] [(Sum.inl s, .int 0)])) = upd H d (.dK (kvOf [(s, false)])) := by
      funext b
      by_cases hb : b = d
      · subst hb
        rw [upd_same, upd_same]
        rfl
      · rw [upd_ne hb, upd_ne hb, upd_ne hb]
    rw [eH]
    -- waiting
    refine ⟨.int s, rfl, by show 1 ≤ sizeLine; decide, fun W nW => ?_⟩
    have hdW : W ≠ d := (ne_of_none upd_same nW).symm
    have nWH : H W = none := by rw [upd_ne hdW] at nW; exact nW
    refine ⟨fun m σ' H' => ∃ (y4 y5 y6 : Option V) (ks : List Nb) (wl : List Int), σ' = [some (.int s), some (.ref L), some (.ref d), some (.ref W), y4, y5, y6] ∧ H' d = some (.dK (kvOf ks)) ∧ H' W = some (.lst (wl.map V.int)) ∧ Same H H' ∧ SF ts s ks wl [] ∧ m = 2 * (k - ks.length) + wl.length, ⟨_, none, none, none, [(s, false)], [s], rfl, ?_, upd_same, Same.mut (same_new nd) nWH, ?_, rfl⟩, ?_⟩
    · rw [upd_ne (Ne.symm hdW)]
      exact upd_same
    · exact ⟨by simp, fun p hp => by rw [List.mem_singleton.mp hp]; exact .nil, by simp, fun x hx => hx, Nat.le_refl _, fun x hx h1 => absurd hx h1⟩
    · rintro m σ' H1 ⟨y4, y5, y6, ks, wl, rfl, hd, hW, s1, sf, hm⟩
      refine ⟨.ref W, rfl, _, .inl ⟨_, SqL.of hW, rfl⟩, ?_⟩
      refine ite2 (fun hb => ?_) (fun hb => ?_)
      · -- a place
        cases hwl : wl with
        | nil => rw [hwl] at hb; cases hb
        | cons z zs =>
        obtain ⟨ys, p, e⟩ : ∃ (ys : List Int) (p : Int), z :: zs = ys ++ [p] := ⟨(z :: zs).dropLast, (z :: zs).getLast (by simp), (List.dropLast_concat_getLast (by simp)).symm⟩
        rw [hwl, e] at hW sf hm
        have hpk := sf.sub p (by simp)
        obtain ⟨b, hb1, hb2⟩ := sf.keys hpk
        have hpr := Rch.rng ok.ok ⟨hs0, hs1⟩ ⟨b, hb2⟩
        have sp := sf.pop
        have e3 : ((ys ++ [p]).map V.int).dropLast = ys.map V.int := by simp
        refine ⟨fun σ' H' => ∃ m', m' < m ∧ ∃ (y4 y5 y6 : Option V) (ks : List Nb) (wl : List Int), σ' = [some (.int s), some (.ref L), some (.ref d), some (.ref W), y4, y5, y6] ∧ H' d = some (.dK (kvOf ks)) ∧ H' W = some (.lst (wl.map V.int)) ∧ Same H H' ∧ SF ts s ks wl [] ∧ m' = 2 * (k - ks.length) + wl.length, fun _ _ h => h, ?_⟩
        refine ⟨.ref W, rfl, .inl ⟨rfl, _, SqL.of hW⟩, W, _, .int p, rfl, rfl, hW, by simp, ?_⟩
        rw [e3]
        have hd2 : (upd H1 W (.lst (ys.map V.int))) d = some (.dK (kvOf ks)) := by rw [upd_ne (Ne.symm hdW)]; exact hd
        have hW2 : (upd H1 W (.lst (ys.map V.int))) W = some (.lst (ys.map V.int)) := upd_same
        have s2 : Same H (upd H1 W (.lst (ys.map V.int))) := Same.mut s1 nWH
        generalize upd H1 W (.lst (ys.map V.int)) = H2 at hd2 hW2 s2
        have A2 := hA.same s2
        obtain ⟨x, ex, ex'⟩ := getI (xs := As) hpr.1 (by omega)
        obtain ⟨us, g, pr⟩ := A2.each _ _ ex'
        have epk : ((p.toNat : Nat) : Int) = p := by omega
        rw [epk] at pr
        refine ⟨.ref L, rfl, .int p, rfl, L, _, p, .ref x, rfl, rfl, SqL.of A2.at', atI_of hpr.1 (by rw [List.getElem?_map, ex']; rfl), x, rfl, ⟨_, SqL.of g⟩, ?_⟩
        have gH : H x = some (.lst us) := by
          obtain ⟨us', g', _⟩ := hA.each _ _ ex'
          rw [s2 _ _ g'] at g
          cases g
          exact g'
        refine for_list (xs := us) (fun i σ' H' => ∃ (y5 y6 : Option V) (ks : List Nb) (wl : List Int), σ' = [some (.int s), some (.ref L), some (.ref d), some (.ref W), some (.int p), y5, y6] ∧ H' d = some (.dK (kvOf ks)) ∧ H' W = some (.lst (wl.map V.int)) ∧ Same H H' ∧ SF ts s ks wl [p] ∧ (p, b) ∈ ks ∧ (∀ q ∈ (nbs ts p).take i, q.1 ∈ ks.map (·.1)) ∧ 2 * (k - ks.length) + wl.length < m) ?_ ?_ ?_ ?_
        · exact ⟨y5, y6, ks, ys, rfl, hd2, hW2, s2, sp, hb1, fun q hq => by simp at hq, by rw [hm, List.length_append]; simp⟩
        · rintro i σ' H' _ ⟨y5, y6, ks, wl, rfl, _, _, s3, _⟩
          exact SqL.of (s3 _ _ gH)
        · rintro i u σ' H3 eu ⟨y5, y6, ks, wl, rfl, hd3, hW3, s3, sf3, hb3, hdn, hlt⟩
          have A3 := hA.same s3
          obtain ⟨us', g', pr'⟩ := A3.each _ _ ex'
          rw [s3 _ _ gH] at g'
          cases g'
          rw [epk] at pr'
          obtain ⟨⟨y, fo⟩, ey, c, rfl, hc⟩ := Paired.at pr' eu
          have ady := mem_nbs.mp (List.mem_of_getElem? ey)
          have few := sf3.few ok.ok ⟨hs0, hs1⟩
          have etk : (nbs ts p).take (i + 1) = (nbs ts p).take i ++ [(y, fo)] := by
            rw [List.take_add_one, ey]
            rfl
          refine ⟨c, _, rfl, SqT.of hc, rfl, _, _, rfl, _, _, rfl, rfl, ?_⟩
          refine ⟨.int y, rfl, .ref d, rfl, d, _, rfl, DGet.k (k := Sum.inl y) hd3, _, rfl, ?_⟩
          by_cases hy : y ∈ ks.map (·.1)
          · obtain ⟨yb, yb1, _⟩ := sf3.keys hy
            rw [kvOf_some sf3.nd yb1]
            refine ⟨_, _, ks, wl, rfl, hd3, hW3, s3, sf3, hb3, fun q hq => ?_, hlt⟩
            rw [etk] at hq
            rcases List.mem_append.mp hq with h | h
            · exact hdn q h
            · rw [List.mem_singleton.mp h]
              exact hy
          · rw [kvOf_none hy]
            have sfp := sf3.push (sf3.rp _ hb3) ady hy
            have few2 := sfp.few ok.ok ⟨hs0, hs1⟩
            have lks : (kvOf ks).length < sizeLine := by rw [kvOf_len]; exact small1000 (by omega)
            have vp := kvOf_some sf3.nd hb3
            have ep := kvOf_put (b := b ^^ fo) hy
            refine ⟨fun σ' H' => σ' = [some (.int s), some (.ref L), some (.ref d), some (.ref W), some (.int p), some (.int y), some (.str (kindS fo))] ∧ H' = upd H3 d (.dK (kvOf (ks ++ [(y, b ^^ fo)]))), ?_, ?_⟩
            · refine ⟨.str (kindS fo), rfl, rfl, _, rfl, ?_⟩
              rw [← ep]
              cases fo
              · refine ⟨.ref d, rfl, .int p, rfl, d, _, rfl, (by rw [← vp]; exact DGet.k (k := Sum.inl p) hd3), .ref d, rfl, .int y, rfl, d, _, rfl, DPut.k (k := Sum.inl y) hd3 lks, rfl, ?_⟩
                rw [Bool.xor_false]
              · refine ⟨.ref d, rfl, .int p, rfl, d, _, rfl, (by rw [← vp]; exact DGet.k (k := Sum.inl p) hd3), 1, sideI b, rfl, rfl, .ref d, rfl, .int y, rfl, d, _, rfl, DPut.k (k := Sum.inl y) hd3 lks, rfl, ?_⟩
                cases b <;> rfl
            · rintro σ' H4 ⟨rfl, rfl⟩
              have hW4 : (upd H3 d (.dK (kvOf (ks ++ [(y, b ^^ fo)])))) W = some (.lst (wl.map V.int)) := by rw [upd_ne hdW]; exact hW3
              have lw := sf3.le
              refine ⟨.ref W, rfl, .inl ⟨rfl, _, SqL.of hW4⟩, .int y, rfl, W, _, _, rfl, rfl, hW4, by rw [List.length_map]; exact small1000 (by omega), ?_⟩
              refine ⟨_, _, ks ++ [(y, b ^^ fo)], wl ++ [y], rfl, ?_, by rw [upd_same, List.map_append]; rfl, Same.mut (Same.mut s3 nd) nWH, sfp, List.mem_append_left _ hb3, fun q hq => ?_, ?_⟩
              · rw [upd_ne (Ne.symm hdW)]
                exact upd_same
              · rw [List.map_append]
                rw [etk] at hq
                rcases List.mem_append.mp hq with h | h
                · exact List.mem_append_left _ (hdn q h)
                · rw [List.mem_singleton.mp h]
                  exact List.mem_append_right _ (by simp)
              · rw [List.length_append] at few2 ⊢
                rw [List.length_append]
                simp only [List.length_cons, List.length_nil] at few2 ⊢
                omega
        · rintro σ' H3 ⟨y5, y6, ks, wl, rfl, hd3, hW3, s3, sf3, hb3, hdn, hlt⟩
          rw [Paired.length pr, List.take_length] at hdn
          exact ⟨_, hlt, _, _, _, ks, wl, rfl, hd3, hW3, s3, sf3.done hdn, rfl⟩
      · -- none is left
        have hwl : wl = [] := by
          cases wl with
          | nil => rfl
          | cons z zs => exact absurd rfl hb
        subst hwl
        exact ⟨.ref d, rfl, q d ks H1 nd hd s1 ⟨sf.nd, sf.rp, sf.all⟩⟩
end
theorem mem_putK {k z : Key} {v : V} {kvs : List (Key × V)} : z ∈ (putK kvs k v).map (·.1) ↔ z ∈ kvs.map (·.1) ∨ z = k := by
  unfold putK
  split
  · rename_i h
    rw [List.any_eq_true] at h
    obtain ⟨kv, h1, h2⟩ := h
    have h3 := of_decide_eq_true h2
    rw [List.map_map]
    have e : (Prod.fst ∘ fun kv : Key × V => if kv.1 = k then (kv.1, v) else kv) = Prod.fst := by
      funext p
      show (if p.1 = k then (p.1, v) else p).1 = p.1
      split <;> rfl
    rw [show ((fun x : Key × V => x.1) ∘ fun kv : Key × V => if kv.1 = k then (kv.1, v) else kv) = Prod.fst from e]
    constructor
    · exact .inl
    · rintro (h | h)
      · exact h
      · rw [h, ← h3]
        exact List.mem_map.mpr ⟨kv, h1, rfl⟩
  · rw [List.map_append, List.mem_append]
    simp
theorem mem_mergeK {z : Key} : ∀ {more kvs : List (Key × V)}, z ∈ (mergeK kvs more).map (·.1) ↔ z ∈ kvs.map (·.1) ∨ z ∈ more.map (·.1)
  | [], kvs => by
    show z ∈ kvs.map (·.1) ↔ _
    simp
  | p :: r, kvs => by
    have q := mem_mergeK (z := z) (more := r) (kvs := putK kvs p.1 p.2)
    rw [mem_putK] at q
    show z ∈ (mergeK (putK kvs p.1 p.2) r).map (·.1) ↔ _
    rw [q, List.map_cons, List.mem_cons, or_assoc]
theorem valV_isSome {k : Key} : ∀ {kvs : List (Key × V)}, (valV kvs k).isSome = true ↔ k ∈ kvs.map (·.1)
  | [] => by simp [valV_nil]
  | p :: r => by
    by_cases h : p.1 = k
    · rw [valV_pos h, List.map_cons, List.mem_cons]
      simp [h]
    · rw [valV_neg h, List.map_cons, List.mem_cons, valV_isSome]
      constructor
      · exact .inr
      · rintro (e | e)
        · exact absurd e.symm h
        · exact e
theorem kvOf_keys (ks : List Nb) : (kvOf ks).map (·.1) = (ks.map (·.1)).map Sum.inl := by
  unfold kvOf
  rw [List.map_map, List.map_map]
  rfl
theorem lead_iff {ts : List Tie} {n : Nat} (ok : ∀ t ∈ ts, TieOk n t) {i : Int} (h0 : 0 ≤ i ∧ i < n) : leader ts i ↔ ¬ ∃ x, 0 ≤ x ∧ x < i ∧ Rch ts x i := by
  constructor
  · rintro h ⟨x, h1, h2, h3⟩
    have := h x h3.symm
    omega
  · intro h q hq
    rcases Int.lt_or_le q i with l | l
    · exact absurd ⟨q, (hq.rng ok h0).1, l, hq.symm⟩ h
    · exact l
/-! ### the fixed choice, as it is told -/
def spFixed : Sp := fun vs H Q _ => ∃ (v : V) (n : Nat) (ts : List Tie), vs = [v] ∧ WebAt H v n ts ∧ WebOk n ts ∧
  (∀ ss r H', Told ts n ss → Cons ss ts → Same H H' → H' r = some (.tup (ss.map V.int)) → Q (.ref r) H') ∧ ∀ H', Odd ts n → Same H H' → Q .non H'
theorem valV_merge : ∀ {more kvs : List (Key × V)} {k : Key} {v : V}, valV (mergeK kvs more) k = some v → valV kvs k = some v ∨ (k, v) ∈ more
  | [], _, _, _, h => .inl h
  | p :: r, kvs, k, v, h => by
    have q := valV_merge (more := r) (kvs := putK kvs p.1 p.2) (k := k) (v := v) h
    rcases q with q | q
    · rw [valV_put] at q
      by_cases e : k = p.1
      · rw [if_pos e] at q
        obtain rfl := Option.some.inj q
        exact .inr (by rw [e]; simp)
      · rw [if_neg e] at q
        exact .inl q
    · exact .inr (List.mem_cons_of_mem _ q)
theorem told_of {ts : List Tie} {n : Nat} {ss : List Int} (hl : ss.length = n) (h : ∀ (i : Nat) (x : Int), ss[i]? = some x → ∃ m b, leader ts m ∧ RP ts m i b ∧ x = sideI b) : Told ts n ss := by
  refine ⟨hl, fun x hx => ?_, fun i h0 h1 => ?_⟩
  · obtain ⟨i, hi⟩ := List.getElem?_of_mem hx
    obtain ⟨m, b, _, _, rfl⟩ := h i x hi
    cases b
    · exact .inl rfl
    · exact .inr rfl
  · obtain ⟨h', e⟩ := sd_get (ss := ss) h0 (by rw [hl]; exact h1)
    obtain ⟨m, b, l, r, ex⟩ := h i.toNat _ (List.getElem?_eq_getElem h')
    refine ⟨m, l, ?_⟩
    have e2 : one? ss i = b := by
      unfold one?
      rw [e, ex]
      cases b <;> rfl
    rw [e2]
    rw [show ((i.toNat : Nat) : Int) = i from by omega] at r
    exact r
section
variable {P : Program} {w : World} {K : PySem.W.Frag} {mg : Str → Option Value} {base : Heap}
theorem ok_sides_of {f : Addr} {fd : FuncData} (F : Fun K "sides_of" "sides_of" s_sides_of f fd) (M : Free mg) (D1 : Df P w K mg base 1 "neighbours" ["web"] spNeighbours) (D2 : Df P w K mg base 1 "sides_from" ["start", "around"] spSidesFrom) (D3 : Df P w K mg base 2 "broken_by" ["web", "sides"] spBroken) : FnOk P w K mg base CX0 3 f fd ["web"] spFixed := by
  obtain ⟨f1, fd1, G1, g1, k1, b1⟩ := D1
  obtain ⟨f2, fd2, G2, g2, k2, b2⟩ := D2
  obtain ⟨f3, fd3, G3, g3, k3, b3⟩ := D3
  refine F.ok sc_sides_of (fun vs H Q E h => ?_) (fun cdv A outer sh H vs Q E hr h => ?_)
  · obtain ⟨v, n, ts, rfl, _⟩ := h
    rfl
  · obtain ⟨v, n, ts, rfl, hw, ok, q, qn⟩ := h
    have hu := room1 hr
    have hr1 : Room 1 _ := hr.mono (by decide : 1 ≤ 2)
    have hk : n ≤ 40 := by have := ok.hi; omega
    refine ⟨_, (pss_cons (ps_set (i := 1) sc_sides_of.nd rfl (.inl rfl) (pe_call G1 hr1 (by rfl) g1 k1 b1 .nil pass0 (pa_cons (pv 0) pa_nil)))
      (pss_cons (ps_set (i := 2) sc_sides_of.nd rfl (.inr rfl) pe_dnewK)
      (Evl.pss_cut (ps_for PassesOwn.never rfl (pi_range1 (by rfl) M.range (pa_cons (pe_ix ix_tup (pv 0) pe_int (fun _ _ => rfl)) pa_nil)) (pg_name (i := 3) sc_sides_of.nd rfl (.inl rfl))
        (pss_one (ps_if (pt_cmp (pc_dnotin hu (pv 3) (pv 2)))
          (pss_one (ps_expr (pe_bm PySem.F.plainAttrs_dict PySem.F.slot_dict_update PySem.F.type_dict_update mt_update (pv 2) (pa_cons (pe_call G2 hr1 (by rfl) g2 k2 b2 .nil pass0 (pa_cons (pv 3) (pa_cons (pv 1) pa_nil))) pa_nil))))
          pss_nil)))
      (pss_cons (ps_set (i := 4) sc_sides_of.nd rfl (.inl rfl) (pe_callTy call_tuple_of (by rfl) M.tuple (by decide +kernel) (pa_cons (pe_lc (own := [("place", 5)]) (g := gName 5) (tt := tYes) rfl sc_sides_of.nd (pi_range1 (by rfl) M.range (pa_cons (pe_ix ix_tup (pv 0) pe_int (fun _ _ => rfl)) pa_nil)) (blkOk_by (N := N_sides_of) (sc := defScope s_sides_of) (own := [("place", 5)]) (by decide +kernel)) (fun _ _ _ _ _ => (pg_name (i := 5) sc_sides_of.nd rfl (.inl rfl))) (fun _ _ _ _ _ => pts_nil) (fun _ _ _ _ _ => (pe_dget hu (pv 2) (pv 5) (fun _ _ => rfl)))) pa_nil)))
      (pss_cons (ps_if (pt_cmpR (op_neD hr.units) (pe_call G3 hr (by rfl) g3 k3 b3 .nil pass0 (pa_cons (pv 0) (pa_cons (pv 4) pa_nil))) (pe_tup pa_nil) (nomark _))
        (pss_one (ps_ret pe_non))
        pss_nil)
      (pss_one (ps_ret (pv 4)))))))), ?_⟩
    -- around, told
    refine ⟨v, rfl, v, n, ts, rfl, hw, ok, fun u H1 hA s1 pD nD => ?_⟩
    have nDH : H pD = none := s1.free nD
    have sA : Same H1 (upd H1 pD (.dK [])) := same_new nD
    have hw0 := hw
    obtain ⟨a, b, vs, rfl, ha, hb, hp⟩ := hw
    refine ⟨fun σ' H' => ∃ (y3 : Option V) (kvs : List (Key × V)), σ' = [some (.ref a), some u, some (.ref pD), y3, none, none] ∧ H' pD = some (.dK kvs) ∧ (∀ i : Nat, i < n → ∃ m b, leader ts m ∧ RP ts m i b ∧ valV kvs (Sum.inl (i : Int)) = some (.int (sideI b))) ∧ Same H1 H', ?_, ?_⟩
    · refine ⟨.ref a, rfl, a, _, 0, .int n, rfl, rfl, SqT.of (sA _ _ (s1 _ _ ha)), rfl, n, rfl, by omega, by omega, ?_⟩
      rw [Int.toNat_natCast]
      refine for_range (lo := 0) (n := n) (fun i σ' H' => ∃ (y3 : Option V) (kvs : List (Key × V)), σ' = [some (.ref a), some u, some (.ref pD), y3, none, none] ∧ H' pD = some (.dK kvs) ∧ kvs.length ≤ 40 * i ∧
        (∀ z, z ∈ kvs.map (·.1) ↔ ∃ y, z = Sum.inl y ∧ ∃ x, 0 ≤ x ∧ x < (i : Int) ∧ Rch ts x y) ∧ (∀ (y : Int) (v : V), valV kvs (Sum.inl y) = some v → ∃ m b, leader ts m ∧ RP ts m y b ∧ v = .int (sideI b)) ∧ Same H1 H') ?_ ?_ ?_
      · refine ⟨none, [], rfl, upd_same, by simp, fun z => ⟨fun h => by simp at h, ?_⟩, (fun y v h => by cases h), sA⟩
        rintro ⟨y, _, x, h1, h2, _⟩
        omega
      · rintro i σ' H2 hi ⟨y3, kvs, rfl, hD, hlen, hkeys, hvals, s2⟩
        rw [show (0 : Int) + (i : Nat) = i from by omega]
        have hir : 0 ≤ (i : Int) ∧ (i : Int) < n := by omega
        refine ⟨.int i, rfl, .ref pD, rfl, pD, _, rfl, DGet.k (k := Sum.inl (i : Int)) hD, _, rfl, ?_⟩
        have nx : ∀ y : Int, (∃ x, 0 ≤ x ∧ x < ((i + 1 : Nat) : Int) ∧ Rch ts x y) ↔ (∃ x, 0 ≤ x ∧ x < (i : Int) ∧ Rch ts x y) ∨ Rch ts i y := fun y => by
          constructor
          · rintro ⟨x, h1, h2, h3⟩
            by_cases e : x = i
            · subst e
              exact .inr h3
            · exact .inl ⟨x, h1, by omega, h3⟩
          · rintro (⟨x, h1, h2, h3⟩ | h)
            · exact ⟨x, h1, by omega, h3⟩
            · exact ⟨i, by omega, by omega, h⟩
        by_cases hin : (valV kvs (Sum.inl (i : Int))).isSome = true
        · rw [hin]
          obtain ⟨y, e, x, h1, h2, h3⟩ := (hkeys _).mp (valV_isSome.mp hin)
          cases e
          refine ⟨_, kvs, rfl, hD, by omega, fun z => ?_, hvals, s2⟩
          rw [hkeys]
          constructor
          · rintro ⟨y, e, h⟩
            exact ⟨y, e, (nx y).mpr (.inl h)⟩
          · rintro ⟨y, e, h⟩
            refine ⟨y, e, ?_⟩
            rcases (nx y).mp h with h | h
            · exact h
            · exact ⟨x, h1, h2, h3.trans h⟩
        · rw [Bool.not_eq_true] at hin
          rw [hin]
          have ld : leader ts (i : Int) := (lead_iff ok.ok hir).mpr fun ⟨x, h1, h2, h3⟩ => by
            have := valV_isSome.mpr ((hkeys (Sum.inl (i : Int))).mpr ⟨_, rfl, x, h1, h2, h3⟩)
            rw [hin] at this
            cases this
          refine ⟨.ref pD, rfl, .inr (.inr (.inl ⟨rfl, .inl ⟨_, hD⟩⟩)), .int i, rfl, u, rfl, u, n, i, ts, rfl, hA.same s2, ok, hir.1, hir.2, fun d ks H3 nd hd s3 so => ?_⟩
          have lks : ks.length ≤ n := by
            have q := pigeon n (ks.map (·.1)) so.nd fun x hx => Rch.rng ok.ok hir ((so.all x).mp hx)
            rw [List.length_map] at q
            exact q
          have hpd : pD ≠ d := ne_of_none hD nd
          refine ⟨pD, d, kvs, kvOf ks, rfl, rfl, s3 _ _ hD, hd, hpd, (by rw [kvOf_len, sizeLine_eq]; omega), ?_⟩
          refine ⟨_, mergeK kvs (kvOf ks), rfl, upd_same, ?_, fun z => ?_, fun y v hv => ?_, Same.mut (s2.trans s3) nD⟩
          · have := length_mergeK (kvOf ks) kvs
            rw [kvOf_len] at this
            omega
          · rw [mem_mergeK, hkeys, kvOf_keys]
            constructor
            · rintro (⟨y, e, h⟩ | h)
              · exact ⟨y, e, (nx y).mpr (.inl h)⟩
              · obtain ⟨y, hy, rfl⟩ := List.mem_map.mp h
                exact ⟨y, rfl, (nx y).mpr (.inr ((so.all y).mp hy))⟩
            · rintro ⟨y, rfl, h⟩
              rcases (nx y).mp h with h | h
              · exact .inl ⟨y, rfl, h⟩
              · exact .inr (List.mem_map.mpr ⟨y, (so.all y).mpr h, rfl⟩)
          · rcases valV_merge hv with h | h
            · exact hvals y v h
            · unfold kvOf at h
              obtain ⟨p, hp, e⟩ := List.mem_map.mp h
              cases e
              exact ⟨i, p.2, ld, so.rp p hp, rfl⟩
      · rintro σ' H2 ⟨y3, kvs, rfl, hD, hlen, hkeys, hvals, s2⟩
        refine ⟨_, kvs, rfl, hD, fun i hi => ?_, s2⟩
        obtain ⟨v, hv⟩ := Option.isSome_iff_exists.mp (valV_isSome.mpr ((hkeys (Sum.inl (i : Int))).mpr ⟨_, rfl, i, by omega, by omega, Rch.refl⟩))
        obtain ⟨m, b, l, r, rfl⟩ := hvals i v hv
        exact ⟨m, b, l, r, hv⟩
    rintro σ' H2 ⟨y3, kvs, rfl, hD, hvals, s2⟩
    have s12 := s1.trans s2
    -- sides
    refine ⟨.ref a, rfl, a, _, 0, .int n, rfl, rfl, SqT.of (s12 _ _ ha), rfl, n, rfl, by omega, by omega, fun Z nZ => ?_⟩
    rw [Int.toNat_natCast]
    refine lc_range (lo := 0) (n := n) (fun j H' => ∃ ss : List Int, H' Z = some (.lst (ss.map V.int)) ∧ ss.length = j ∧ (∀ (i : Nat) (x : Int), ss[i]? = some x → ∃ m b, leader ts m ∧ RP ts m i b ∧ x = sideI b) ∧ Same H2 H') ⟨[], upd_same, rfl, fun i x h => by simp at h, same_new nZ⟩ ?_ ?_
    · rintro j H3 hj ⟨ss, hZ, lj, hss, s3⟩
      rw [show (0 : Int) + (j : Nat) = j from by omega]
      obtain ⟨m, b, l, r, hv⟩ := hvals j hj
      refine ⟨rfl, .ref pD, rfl, .int j, rfl, pD, .int (sideI b), rfl, (by rw [← hv]; exact DGet.k (k := Sum.inl (j : Int)) (s3 _ _ hD)), _, hZ, by rw [List.length_map]; exact small1000 (by omega), ss ++ [sideI b], by rw [upd_same, List.map_append]; rfl, by rw [List.length_append, lj]; rfl, fun i x h => ?_, Same.mut s3 nZ⟩
      by_cases hi : i < ss.length
      · rw [List.getElem?_append_left hi] at h
        exact hss i x h
      · rw [List.getElem?_append_right (by omega)] at h
        have e : i = j := by
          have := (List.getElem?_eq_some_iff.mp h).1
          simp at this
          omega
        subst e
        rw [show i - ss.length = 0 from by omega] at h
        have hx : sideI b = x := Option.some.inj h
        exact ⟨m, b, l, r, hx.symm⟩
    · rintro H3 ⟨ss, hZ, lj, hss, s3⟩
      have told := told_of lj hss
      refine ⟨Z, _, rfl, .inl ⟨SqL.of hZ, fun t nt => ?_⟩⟩
      have s4 := (s12.trans s3).trans (same_new (o := .tup (ss.map V.int)) nt)
      have ht4 : (upd H3 t (.tup (ss.map V.int))) t = some (.tup (ss.map V.int)) := upd_same
      generalize upd H3 t (.tup (ss.map V.int)) = H4 at s4 ht4
      refine ⟨.ref a, rfl, .ref t, rfl, .ref a, t, n, ts, ss, rfl, hw0.tk (Same.tk s4), ok, ht4, by rw [lj], fun r H5 s5 h5 => ⟨Nat.zero_le _, fun z nz => ?_⟩⟩
      have s6 := same_new (o := .tup []) nz
      refine ⟨intsD (bad ss ts), intsD [], IntsV.dp ⟨r, rfl, s6 _ _ h5⟩, IntsV.dp ⟨z, rfl, upd_same⟩, shaped_intsD _, shaped_intsD _, _, rfl, ?_⟩
      rw [eqv_nil]
      have s46 := (s4.trans s5).trans s6
      have ht6 := s6 _ _ (s5 _ _ ht4)
      generalize upd H5 z (.tup []) = H6 at s46 ht6
      by_cases hbad : bad ss ts = []
      · rw [hbad]
        exact ⟨.ref t, rfl, q ss t H6 told (bad_nil.mp hbad) s46 ht6⟩
      · have hne : (bad ss ts).isEmpty = false := by
          cases e : bad ss ts with
          | nil => exact absurd e hbad
          | cons x y => rfl
        rw [hne]
        refine qn H6 ?_ s46
        obtain ⟨x, hx⟩ := List.exists_mem_of_ne_nil _ hbad
        unfold bad badTo at hx
        obtain ⟨h1, h2⟩ := List.mem_filter.mp hx
        exact told_odd ok.ok told (tieAt_mem h1) h2
end
/-! ### ties around places, by their numbers (mathematics) -/
def Jn (t : Tie) (a b : Int) : Prop := (t.one = a ∧ t.other = b) ∨ (t.one = b ∧ t.other = a)
theorem Jn.symm {t : Tie} {a b : Int} (h : Jn t a b) : Jn t b a := h.elim .inr .inl
abbrev Nu := Int × Int
def n1 (ts : List Tie) (m : Int) (p : Int) : List Nu := (if p = (tieN ts m.toNat).one then [((tieN ts m.toNat).other, m)] else []) ++ (if p = (tieN ts m.toNat).other then [((tieN ts m.toNat).one, m)] else [])
def nN (ts : List Tie) (ns : List Int) (p : Int) : List Nu := ns.flatMap fun m => n1 ts m p
theorem nN_snoc (ts : List Tie) (ns : List Int) (m p : Int) : nN ts (ns ++ [m]) p = nN ts ns p ++ n1 ts m p := by
  unfold nN
  rw [List.flatMap_append]
  simp
theorem n1_len (ts : List Tie) (m p : Int) : (n1 ts m p).length ≤ 2 := by
  unfold n1
  rw [List.length_append]
  split <;> split <;> simp
theorem nN_len (ts : List Tie) (ns : List Int) (p : Int) : (nN ts ns p).length ≤ 2 * ns.length := by
  induction ns with
  | nil => simp [nN]
  | cons m ns ih =>
    have h := n1_len ts m p
    unfold nN at ih ⊢
    rw [List.flatMap_cons, List.length_append, List.length_cons]
    omega
theorem mem_nN {ts : List Tie} {ns : List Int} {p : Int} {q : Nu} : q ∈ nN ts ns p ↔ q.2 ∈ ns ∧ Jn (tieN ts q.2.toNat) p q.1 := by
  unfold nN n1 Jn
  rw [List.mem_flatMap]
  constructor
  · rintro ⟨m, hm, h⟩
    rcases List.mem_append.mp h with h | h
    · split at h
      · rename_i e
        rw [List.mem_singleton] at h
        subst h
        exact ⟨hm, .inl ⟨e.symm, rfl⟩⟩
      · simp at h
    · split at h
      · rename_i e
        rw [List.mem_singleton] at h
        subst h
        exact ⟨hm, .inr ⟨rfl, e.symm⟩⟩
      · simp at h
  · rintro ⟨hm, h⟩
    refine ⟨q.2, hm, List.mem_append.mpr ?_⟩
    obtain ⟨q1, q2⟩ := q
    simp only at h
    rcases h with ⟨h1, h2⟩ | ⟨h1, h2⟩
    · left
      rw [if_pos h1.symm, List.mem_singleton, ← h2]
    · right
      rw [if_pos h2.symm, List.mem_singleton, ← h1]
def NuV (H : Hp) (v : V) (q : Nu) : Prop := ∃ a, v = .ref a ∧ H a = some (.tup [.int q.1, .int q.2])
theorem NuV.tk {H H' : Hp} (k : Tk H H') {v : V} {p : Nu} (h : NuV H v p) : NuV H' v p := by
  obtain ⟨a, rfl, e⟩ := h
  exact ⟨a, rfl, k _ _ e⟩
theorem nus_tk {H H' : Hp} (k : Tk H H') {vs : List V} {qs : List Nu} (h : Paired (NuV H) vs qs) : Paired (NuV H') vs qs := Paired.mono (fun _ _ x => x.tk k) h
def aKv (As : List (Int × Addr)) : List (Key × V) := As.map fun p => (Sum.inl p.1, V.ref p.2)
theorem aKv_none {z : Int} : ∀ {As : List (Int × Addr)}, z ∉ As.map (·.1) → valV (aKv As) (Sum.inl z) = none
  | [], _ => rfl
  | p :: As, h => by
    rw [List.map_cons, List.mem_cons, not_or] at h
    have e := aKv_none (As := As) h.2
    have h1 := h.1
    unfold aKv at e ⊢
    rw [List.map_cons, valV_neg (fun z => h1 (Sum.inl.inj z).symm)]
    exact e
theorem aKv_some {z : Int} {a : Addr} : ∀ {As : List (Int × Addr)}, (As.map (·.1)).Nodup → (z, a) ∈ As → valV (aKv As) (Sum.inl z) = some (.ref a)
  | p :: As, nd, h => by
    rw [List.map_cons, List.nodup_cons] at nd
    rcases List.mem_cons.mp h with e | e
    · subst e
      unfold aKv
      rw [List.map_cons, valV_pos rfl]
    · have q := aKv_some (As := As) nd.2 e
      have ne : p.1 ≠ z := fun y => nd.1 (by rw [y]; exact List.mem_map.mpr ⟨_, e, rfl⟩)
      unfold aKv at q ⊢
      rw [List.map_cons, valV_neg (fun y => ne (Sum.inl.inj y))]
      exact q
theorem aKv_put {As : List (Int × Addr)} {z : Int} {a : Addr} (h : z ∉ As.map (·.1)) : putK (aKv As) (Sum.inl z) (.ref a) = aKv (As ++ [(z, a)]) := by
  unfold putK
  rw [if_neg]
  · unfold aKv
    rw [List.map_append]
    rfl
  · intro g
    rw [List.any_eq_true] at g
    obtain ⟨kv, h1, h2⟩ := g
    unfold aKv at h1
    rw [List.mem_map] at h1
    obtain ⟨p, hp, rfl⟩ := h1
    exact h (List.mem_map.mpr ⟨p, hp, Sum.inl.inj (of_decide_eq_true h2)⟩)
theorem aKv_len (As : List (Int × Addr)) : (aKv As).length = As.length := by unfold aKv; rw [List.length_map]
theorem aKv_cases (As : List (Int × Addr)) (z : Int) (nd : (As.map (·.1)).Nodup) : (z ∉ As.map (·.1) ∧ valV (aKv As) (Sum.inl z) = none) ∨ ∃ a, (z, a) ∈ As ∧ valV (aKv As) (Sum.inl z) = some (.ref a) := by
  by_cases h : z ∈ As.map (·.1)
  · obtain ⟨p, hp, rfl⟩ := List.mem_map.mp h
    exact .inr ⟨p.2, hp, aKv_some nd hp⟩
  · exact .inl ⟨h, aKv_none h⟩
/-- a dict of lists of (place, number) -/
structure Aro (H : Hp) (D : Addr) (As : List (Int × Addr)) (N : Int → List Nu) : Prop where
  at' : H D = some (.dK (aKv As))
  nd : (As.map (·.1)).Nodup
  nd2 : (As.map (·.2)).Nodup
  each : ∀ p ∈ As, ∃ vs, H p.2 = some (.lst vs) ∧ Paired (NuV H) vs (N p.1)
  no : ∀ q, q ∉ As.map (·.1) → N q = []
theorem Aro.same {H H' : Hp} {D : Addr} {As : List (Int × Addr)} {N : Int → List Nu} (h : Aro H D As N) (s : Same H H') : Aro H' D As N :=
  ⟨s _ _ h.at', h.nd, h.nd2, fun p hp => by
    obtain ⟨vs, h1, h2⟩ := h.each p hp
    exact ⟨vs, s _ _ h1, nus_tk (Same.tk s) h2⟩, h.no⟩
theorem Aro.out {H : Hp} {D : Addr} {As : List (Int × Addr)} {N : Int → List Nu} (h : Aro H D As N) {p : Int × Addr} (hp : p ∈ As) : p.2 ≠ D := by
  obtain ⟨vs, h1, _⟩ := h.each p hp
  exact ne_of h1 h.at' (by intro z; cases z)
/-- a place more, with nothing yet -/
theorem Aro.more {H : Hp} {D a : Addr} {As : List (Int × Addr)} {N : Int → List Nu} {z : Int} (h : Aro H D As N) (hz : z ∉ As.map (·.1)) (ha : H a = some (.lst [])) (hn : a ∉ As.map (·.2)) : Aro (upd H D (.dK (aKv (As ++ [(z, a)])))) D (As ++ [(z, a)]) N := by
  have haD : a ≠ D := ne_of ha h.at' (by intro z; cases z)
  have k : Tk H (upd H D (.dK (aKv (As ++ [(z, a)])))) := fun b xs e => by
    rw [upd_ne (ne_of e h.at' (by intro z; cases z))]
    exact e
  refine ⟨upd_same, ?_, ?_, fun p hp => ?_, fun q hq => ?_⟩
  · rw [List.map_append, List.nodup_append]
    refine ⟨h.nd, by simp, fun x hx y hy e => ?_⟩
    simp only [List.map_cons, List.map_nil, List.mem_singleton] at hy
    subst hy
    subst e
    exact hz hx
  · rw [List.map_append, List.nodup_append]
    refine ⟨h.nd2, by simp, fun x hx y hy e => ?_⟩
    simp only [List.map_cons, List.map_nil, List.mem_singleton] at hy
    subst hy
    subst e
    exact hn hx
  · rcases List.mem_append.mp hp with hp | hp
    · obtain ⟨vs, h1, h2⟩ := h.each p hp
      exact ⟨vs, by rw [upd_ne (h.out hp)]; exact h1, nus_tk k h2⟩
    · rw [List.mem_singleton] at hp
      subst hp
      refine ⟨[], by rw [upd_ne haD]; exact ha, ?_⟩
      rw [show N (z, a).1 = [] from h.no z hz]
      exact .nil
  · rw [List.map_append, List.mem_append, not_or] at hq
    exact h.no q hq.1
theorem Aro.put {H : Hp} {D a c : Addr} {As : List (Int × Addr)} {N : Int → List Nu} {z : Int} {vs : List V} {q : Nu} (h : Aro H D As N) (hz : (z, a) ∈ As) (hv : H a = some (.lst vs)) (hc : NuV H (.ref c) q) : Aro (upd H a (.lst (vs ++ [.ref c]))) D As (fun p => N p ++ if p = z then [q] else []) := by
  have k : Tk H (upd H a (.lst (vs ++ [.ref c]))) := tk_lst hv
  refine ⟨by rw [upd_ne (Ne.symm (h.out hz))]; exact h.at', h.nd, h.nd2, fun p hp => ?_, fun y hy => ?_⟩
  · obtain ⟨us, h1, h2⟩ := h.each p hp
    by_cases e : p.1 = z
    · have e2 : p.2 = a := by
        obtain ⟨i, hi, rfl⟩ := List.getElem_of_mem hp
        obtain ⟨j, hj, ej⟩ := List.getElem_of_mem hz
        have w : i = j := by
          have e3 : (As.map (·.1))[i]? = (As.map (·.1))[j]? := by
            rw [List.getElem?_map, List.getElem?_map, List.getElem?_eq_getElem hi, List.getElem?_eq_getElem hj, ej]
            exact congrArg some e
          exact (List.getElem?_inj (by rw [List.length_map]; exact hi) h.nd).mp e3
        subst w
        rw [ej]
      rw [e2] at h1 ⊢
      rw [hv] at h1
      cases h1
      refine ⟨_, upd_same, ?_⟩
      rw [if_pos e]
      exact Paired.snoc (nus_tk k h2) (hc.tk k)
    · have e2 : p.2 ≠ a := fun y => e (by
        obtain ⟨i, hi, rfl⟩ := List.getElem_of_mem hp
        obtain ⟨j, hj, ej⟩ := List.getElem_of_mem hz
        have w : i = j := by
          have e3 : (As.map (·.2))[i]? = (As.map (·.2))[j]? := by
            rw [List.getElem?_map, List.getElem?_map, List.getElem?_eq_getElem hi, List.getElem?_eq_getElem hj, ej]
            exact congrArg some y
          exact (List.getElem?_inj (by rw [List.length_map]; exact hi) h.nd2).mp e3
        subst w
        rw [ej])
      refine ⟨us, by rw [upd_ne e2]; exact h1, ?_⟩
      rw [if_neg e, List.append_nil]
      exact nus_tk k h2
  · have ne : y ≠ z := fun e => hy (by rw [e]; exact List.mem_map.mpr ⟨_, hz, rfl⟩)
    rw [h.no y hy, if_neg ne]
    rfl
def AroAt (H : Hp) (v : V) (N : Int → List Nu) : Prop := ∃ D As, v = .ref D ∧ Aro H D As N
def spAround : Sp := fun vs H Q _ => ∃ (v : V) (b : Addr) (n : Int) (ts : List Tie) (ns : List Int), vs = [v, .ref b] ∧ WebAt H v n ts ∧ ts.length ≤ 300 ∧ H b = some (.lst (ns.map V.int)) ∧ ns.length ≤ 300 ∧ (∀ m ∈ ns, 0 ≤ m ∧ m < (ts.length : Int)) ∧
  ∀ u H', Same H H' → AroAt H' u (nN ts ns) → Q u H'
section
variable {P : Program} {w : World} {K : PySem.W.Frag} {mg : Str → Option Value} {base : Heap}
theorem ok_ties_around {f : Addr} {fd : FuncData} (F : Fun K "ties_around" "ties_around" s_ties_around f fd) : FnOk P w K mg base CX0 1 f fd ["web", "numbers"] spAround := by
  refine F.ok sc_ties_around (fun vs H Q E h => ?_) (fun cdv A outer s H vs Q E hr h => ?_)
  · obtain ⟨v, b, n, ts, ns, rfl, _⟩ := h
    rfl
  · obtain ⟨v, b, n, ts, ns, rfl, ⟨wa, wb, us, rfl, hwa, hwb, hp⟩, few, hb, fewn, okn, q⟩ := h
    refine ⟨_, (pss_cons (ps_set (i := 2) sc_ties_around.nd rfl (.inl rfl) pe_dnewK)
      (pss_cons (ps_for PassesOwn.never rfl (pi_list (pv 1)) (pg_name (i := 3) sc_ties_around.nd rfl (.inl rfl))
        (pss_cons (ps_asg (pe_ix ix_tup (pe_ix ix_tup (pv 0) pe_int (fun _ _ => rfl)) (pv 3) (fun _ _ => rfl)) (pg_tup rfl (pgs_cons (pg_name (i := 4) sc_ties_around.nd rfl (.inl rfl)) (pgs_cons (pg_name (i := 5) sc_ties_around.nd rfl (.inl rfl)) (pgs_cons (pg_name (i := 6) sc_ties_around.nd rfl (.inl rfl)) pgs_nil)))))
        (Evl.pss_cut (ps_expr (pe_bm PySem.F.plainAttrs_list PySem.F.slot_list_append PySem.F.type_list_append mt_append (pe_dsetd (pv 2) (pv 4) (pe_lst pa_nil) ⟨rfl, rfl, rfl, rfl⟩) (pa_cons (pe_tup (pa_cons (pv 5) (pa_cons (pv 3) pa_nil))) pa_nil)))
        (pss_one (ps_expr (pe_bm PySem.F.plainAttrs_list PySem.F.slot_list_append PySem.F.type_list_append mt_append (pe_dsetd (pv 2) (pv 5) (pe_lst pa_nil) ⟨rfl, rfl, rfl, rfl⟩) (pa_cons (pe_tup (pa_cons (pv 4) (pa_cons (pv 3) pa_nil))) pa_nil)))))))
      (pss_one (ps_ret (pv 2))))), ?_⟩
    have hlen : us.length = ts.length := Paired.length hp
    refine fun D nD => ⟨.ref b, rfl, b, rfl, ⟨_, SqL.of (same_new nD _ _ hb)⟩, ?_⟩
    -- a tie's one end
    have put : ∀ {H1 : Hp} {As : List (Int × Addr)} {N : Int → List Nu} {x y m : Int} (k : Hp → Prop), Same H H1 → Aro H1 D As N → (∀ p ∈ As, H p.2 = none) → As.length ≤ 900 → (∀ z, (N z).length ≤ 900) →
        (∀ H2 As2, Same H H2 → Aro H2 D As2 (fun p => N p ++ if p = x then [(y, m)] else []) → (∀ p ∈ As2, H p.2 = none) → As2.length ≤ As.length + 1 → k H2) →
        ∀ e, H1 e = none → ∃ (kvs : List (Key × V)) (kk : Key), (upd H1 e (.lst [])) D = some (.dK kvs) ∧ V.int x = kV kk ∧ kvs.length < sizeLine ∧ (∀ v, valV kvs kk = some v → (tyV K "list" v (upd H1 e (.lst [])) ∧ (2 ≤ sizeLine ∧ ∀ p, (upd H1 e (.lst [])) p = none → ∃ l xs z, v = .ref l ∧ [V.ref p] = [z] ∧ (upd (upd H1 e (.lst [])) p (.tup [.int y, .int m])) l = some (.lst xs) ∧ xs.length < sizeLine ∧ k (upd (upd (upd H1 e (.lst [])) p (.tup [.int y, .int m])) l (.lst (xs ++ [z])))))) ∧
          (valV kvs kk = none → (tyV K "list" (.ref e) (upd (upd H1 e (.lst [])) D (.dK (putK kvs kk (.ref e)))) ∧ (2 ≤ sizeLine ∧ ∀ p, (upd (upd H1 e (.lst [])) D (.dK (putK kvs kk (.ref e)))) p = none → ∃ l xs z, V.ref e = .ref l ∧ [V.ref p] = [z] ∧ (upd (upd (upd H1 e (.lst [])) D (.dK (putK kvs kk (.ref e)))) p (.tup [.int y, .int m])) l = some (.lst xs) ∧ xs.length < sizeLine ∧ k (upd (upd (upd (upd H1 e (.lst [])) D (.dK (putK kvs kk (.ref e)))) p (.tup [.int y, .int m])) l (.lst (xs ++ [z])))))) := by
      intro H1 As N x y m k s1 hA hf la ln fin e ne
      have sE := same_new (o := .lst []) ne
      have A1 := hA.same sE
      have ne0 : H e = none := s1.free ne
      have heA : e ∉ As.map (·.2) := fun z => by
        obtain ⟨p, hp, ep⟩ := List.mem_map.mp z
        obtain ⟨vs, h1, _⟩ := hA.each p hp
        rw [ep, ne] at h1
        cases h1
      have nD1 : H1 D = some (.dK (aKv As)) := hA.at'
      have heD : e ≠ D := (ne_of_none nD1 ne).symm
      refine ⟨aKv As, Sum.inl x, A1.at', rfl, by rw [aKv_len]; exact small1000 (by omega), fun v hv => ?_, fun hv => ?_⟩
      · rcases aKv_cases As x hA.nd with ⟨_, h⟩ | ⟨a, ha, h⟩
        · rw [h] at hv; cases hv
        · rw [h] at hv
          cases hv
          obtain ⟨vs, g1, g2⟩ := A1.each _ ha
          refine ⟨.inl ⟨rfl, _, SqL.of g1⟩, by decide, fun p np => ⟨a, vs, .ref p, rfl, rfl, same_new np _ _ g1, ?_, ?_⟩⟩
          · have : (N (x, a).1).length ≤ 900 := ln x
            rw [Paired.length g2]
            exact small1000 (by omega)
          · have sP := same_new (o := .tup [.int y, .int m]) np
            have A2 := A1.same sP
            refine fin _ As (Same.mut (s1.trans (sE.trans sP)) (hf _ ha)) (A2.put ha (sP _ _ g1) ⟨p, rfl, upd_same⟩) hf (Nat.le_succ _)
      · rcases aKv_cases As x hA.nd with ⟨hx, _⟩ | ⟨a, ha, h⟩
        · rw [aKv_put hx]
          have A2 := A1.more hx upd_same heA
          have hE : (upd (upd H1 e (.lst [])) D (.dK (aKv (As ++ [(x, e)])))) e = some (.lst []) := by rw [upd_ne heD]; exact upd_same
          refine ⟨.inl ⟨rfl, _, SqL.of hE⟩, by decide, fun p np => ⟨e, [], .ref p, rfl, rfl, same_new np _ _ hE, by decide, ?_⟩⟩
          have sP := same_new (o := .tup [.int y, .int m]) np
          have A3 := A2.same sP
          have nD0 : H D = none := nD
          refine fin _ (As ++ [(x, e)]) (Same.mut ((Same.mut (s1.trans sE) nD0).trans sP) ne0) (A3.put (List.mem_append_right _ (by simp)) (sP _ _ hE) ⟨p, rfl, upd_same⟩) (fun p hp => ?_) (by rw [List.length_append]; exact Nat.le_refl _)
          rcases List.mem_append.mp hp with h | h
          · exact hf p h
          · rw [List.mem_singleton.mp h]
            exact ne0
        · rw [h] at hv; cases hv
    refine for_list (xs := ns.map V.int) (fun i σ' H' => ∃ (y3 y4 y5 y6 : Option V) (As : List (Int × Addr)), σ' = [some (.ref wa), some (.ref b), some (.ref D), y3, y4, y5, y6] ∧ Aro H' D As (nN ts (ns.take i)) ∧ (∀ p ∈ As, H p.2 = none) ∧ As.length ≤ 2 * i ∧ Same H H') ⟨none, none, none, none, [], rfl, ⟨upd_same, List.nodup_nil, List.nodup_nil, fun p hp => by simp at hp, fun q _ => rfl⟩, fun p hp => by simp at hp, Nat.le_refl _, same_new nD⟩ (fun i σ' H' _ h => by
      obtain ⟨_, _, _, _, _, _, _, _, _, s⟩ := h
      exact SqL.of (s _ _ hb)) ?_ ?_
    · rintro i x σ' H1 ex ⟨y3, y4, y5, y6, As, rfl, hA, hf, la, s1⟩
      rw [List.getElem?_map] at ex
      obtain ⟨m, em, rfl⟩ := Option.map_eq_some_iff.mp ex
      have hi : i < ns.length := (List.getElem?_eq_some_iff.mp em).1
      have om := okn m (List.mem_of_getElem? em)
      obtain ⟨vv, e1, e2⟩ := getI (xs := us) om.1 (by omega)
      obtain ⟨t, et, c, rfl, hc⟩ := Paired.at hp e2
      have etn := tieN_of et
      refine ⟨.ref wa, rfl, wa, _, 1, .ref wb, rfl, rfl, SqT.of (s1 _ _ hwa), rfl, .int m, rfl, wb, us, m, .ref c, rfl, rfl, SqT.of (s1 _ _ hwb), e1, c, _, rfl, SqT.of (s1 _ _ hc), rfl, _, _, rfl, _, _, rfl, _, _, rfl, rfl, ?_⟩
      have lN : ∀ z, (nN ts (ns.take i) z).length ≤ 600 := fun z => by
        have := nN_len ts (ns.take i) z
        rw [List.length_take] at this
        omega
      refine ⟨fun σ' H' => ∃ As, σ' = [some (.ref wa), some (.ref b), some (.ref D), some (.int m), some (.int t.one), some (.int t.other), some (.str (kindS t.foe))] ∧ Aro H' D As (fun p => nN ts (ns.take i) p ++ if p = t.one then [(t.other, m)] else []) ∧ (∀ p ∈ As, H p.2 = none) ∧ As.length ≤ 2 * i + 1 ∧ Same H H', ?_, ?_⟩
      · refine ⟨.ref D, rfl, D, rfl, .inl ⟨_, .inl hA.at'⟩, .int t.one, rfl, Nat.zero_le _, fun e ne => ?_⟩
        obtain ⟨kvs, kk, w1, w2, w3, w4, w5⟩ := put (x := t.one) (y := t.other) (m := m) (fun H' => ∃ As, [some (V.ref wa), some (.ref b), some (.ref D), some (.int m), some (.int t.one), some (.int t.other), some (.str (kindS t.foe))] = [some (V.ref wa), some (.ref b), some (.ref D), some (.int m), some (.int t.one), some (.int t.other), some (.str (kindS t.foe))] ∧ Aro H' D As (fun p => nN ts (ns.take i) p ++ if p = t.one then [(t.other, m)] else []) ∧ (∀ p ∈ As, H p.2 = none) ∧ As.length ≤ 2 * i + 1 ∧ Same H H') s1 hA hf (by omega) (fun z => by have := lN z; omega) (fun H2 As2 s2 h2 f2 l2 => ⟨As2, rfl, h2, f2, by omega, s2⟩) e ne
        exact ⟨kvs, kk, w1, w2, w3, fun v hv => ⟨(w4 v hv).1, .int t.other, rfl, .int m, rfl, (w4 v hv).2⟩, fun hv => ⟨(w5 hv).1, .int t.other, rfl, .int m, rfl, (w5 hv).2⟩⟩
      · rintro σ' H2 ⟨As2, rfl, hA2, hf2, la2, s2⟩
        refine ⟨.ref D, rfl, D, rfl, .inl ⟨_, .inl hA2.at'⟩, .int t.other, rfl, Nat.zero_le _, fun e ne => ?_⟩
        have q1 : ∀ z, ((fun p => nN ts (ns.take i) p ++ if p = t.one then [(t.other, m)] else []) z).length ≤ 900 := fun z => by
          have := lN z
          rw [List.length_append]
          split <;> simp only [List.length_cons, List.length_nil] <;> omega
        have q2 : ∀ H3 As3, Same H H3 → Aro H3 D As3 (fun p => (nN ts (ns.take i) p ++ if p = t.one then [(t.other, m)] else []) ++ if p = t.other then [(t.one, m)] else []) → (∀ p ∈ As3, H p.2 = none) → As3.length ≤ As2.length + 1 → (fun H' => ∃ (y3 y4 y5 y6 : Option V) (As : List (Int × Addr)), [some (V.ref wa), some (.ref b), some (.ref D), some (.int m), some (.int t.one), some (.int t.other), some (.str (kindS t.foe))] = [some (.ref wa), some (.ref b), some (.ref D), y3, y4, y5, y6] ∧ Aro H' D As (nN ts (ns.take (i + 1))) ∧ (∀ p ∈ As, H p.2 = none) ∧ As.length ≤ 2 * (i + 1) ∧ Same H H') H3 := fun H3 As3 s3 h3 f3 l3 => by
          refine ⟨_, _, _, _, As3, rfl, ?_, f3, by omega, s3⟩
          have eN : nN ts (ns.take (i + 1)) = fun p => (nN ts (ns.take i) p ++ if p = t.one then [(t.other, m)] else []) ++ if p = t.other then [(t.one, m)] else [] := by
            funext p
            rw [take_snoc em, nN_snoc]
            unfold n1
            rw [etn, List.append_assoc]
          rw [eN]
          exact h3
        obtain ⟨kvs, kk, w1, w2, w3, w4, w5⟩ := put (x := t.other) (y := t.one) (m := m) (fun H' => ∃ (y3 y4 y5 y6 : Option V) (As : List (Int × Addr)), [some (V.ref wa), some (.ref b), some (.ref D), some (.int m), some (.int t.one), some (.int t.other), some (.str (kindS t.foe))] = [some (.ref wa), some (.ref b), some (.ref D), y3, y4, y5, y6] ∧ Aro H' D As (nN ts (ns.take (i + 1))) ∧ (∀ p ∈ As, H p.2 = none) ∧ As.length ≤ 2 * (i + 1) ∧ Same H H') s2 hA2 hf2 (by omega) q1 q2 e ne
        exact ⟨kvs, kk, w1, w2, w3, fun v hv => ⟨(w4 v hv).1, .int t.one, rfl, .int m, rfl, (w4 v hv).2⟩, fun hv => ⟨(w5 hv).1, .int t.one, rfl, .int m, rfl, (w5 hv).2⟩⟩
    · rintro σ' H1 ⟨y3, y4, y5, y6, As, rfl, hA, hf, la, s1⟩
      rw [List.length_map, List.take_length] at hA
      exact ⟨.ref D, rfl, q _ _ s1 ⟨D, As, rfl, hA⟩⟩
end
/-! ### ways: what is walked, level by level (mathematics) -/
abbrev We := Int × Nat × Option (Int × Int)
def weL (e : We) : List V := match e.2.2 with
  | none => [.int (e.2.1 : Nat), .non, .non]
  | some f => [.int (e.2.1 : Nat), .int f.1, .int f.2]
/-- the walk, exactly, level by level -/
def stp (p : Int) (L : Nat) (st : List We × List Int) (q : Nu) : List We × List Int := if q.1 ∈ st.1.map (·.1) then st else (st.1 ++ [(q.1, L + 1, some (p, q.2))], st.2 ++ [q.1])
def lvl (N : Int → List Nu) (L : Nat) (st : List We × List Int) : List We × List Int := st.2.foldl (fun st p => (N p).foldl (stp p L) st) (st.1, [])
def Bst (N : Int → List Nu) (s : Int) : Nat → List We × List Int
  | 0 => ([(s, 0, none)], [s])
  | L + 1 => lvl N L (Bst N s L)
def Wlk (N : Int → List Nu) (s : Int) (ws : List We) : Prop := ∃ L, Bst N s L = (ws, [])
theorem Bst.stay {N : Int → List Nu} {s : Int} {ws : List We} {L : Nat} (h : Bst N s L = (ws, [])) : ∀ k, Bst N s (L + k) = (ws, [])
  | 0 => h
  | k + 1 => by
    show lvl N (L + k) (Bst N s (L + k)) = _
    rw [Bst.stay h k]
    rfl
theorem Wlk.one {N : Int → List Nu} {s : Int} {ws ws' : List We} (a : Wlk N s ws) (b : Wlk N s ws') : ws = ws' := by
  obtain ⟨L, h⟩ := a
  obtain ⟨L', h'⟩ := b
  rcases Nat.le_total L L' with e | e
  · obtain ⟨k, rfl⟩ := Nat.exists_eq_add_of_le e
    rw [Bst.stay h k] at h'
    exact (Prod.mk.inj h').1
  · obtain ⟨k, rfl⟩ := Nat.exists_eq_add_of_le e
    rw [Bst.stay h' k] at h
    exact (Prod.mk.inj h).1.symm
structure WF (N : Int → List Nu) (s : Int) (ws : List We) : Prop where
  nd : (ws.map (·.1)).Nodup
  root : (s, 0, none) ∈ ws
  non : ∀ y k, (y, k, none) ∈ ws → y = s ∧ k = 0
  par : ∀ y k p m, (y, k, some (p, m)) ∈ ws → ∃ j f, (p, j, f) ∈ ws ∧ k = j + 1 ∧ (y, m) ∈ N p
  cl : ∀ e ∈ ws, ∀ q ∈ N e.1, ∃ k f, (q.1, k, f) ∈ ws ∧ k ≤ e.2.1 + 1
  ex : Wlk N s ws
structure BF (N : Int → List Nu) (s : Int) (ws : List We) (L : Nat) (todo fol : List Int) : Prop where
  nd : (ws.map (·.1)).Nodup
  root : (s, 0, none) ∈ ws
  non : ∀ y k, (y, k, none) ∈ ws → y = s ∧ k = 0
  par : ∀ y k p m, (y, k, some (p, m)) ∈ ws → ∃ j f, (p, j, f) ∈ ws ∧ k = j + 1 ∧ (y, m) ∈ N p
  lv : ∀ e ∈ ws, e.2.1 ≤ L + 1
  td : ∀ x ∈ todo, ∃ f, (x, L, f) ∈ ws
  dn : ∀ e ∈ ws, e.2.1 ≤ L → e.1 ∈ todo ∨ ∀ q ∈ N e.1, ∃ k f, (q.1, k, f) ∈ ws ∧ k ≤ e.2.1 + 1
  f1 : ∀ x ∈ fol, ∃ f, (x, L + 1, f) ∈ ws
  f2 : ∀ e ∈ ws, e.2.1 = L + 1 → e.1 ∈ fol
  fl : fol.length ≤ ws.length
theorem we_one {ws : List We} (nd : (ws.map (·.1)).Nodup) {x : Int} {k j : Nat} {f g : Option (Int × Int)} (h : (x, k, f) ∈ ws) (h' : (x, j, g) ∈ ws) : k = j ∧ f = g := by
  induction ws with
  | nil => cases h
  | cons e ws ih =>
    rw [List.map_cons, List.nodup_cons] at nd
    rcases List.mem_cons.mp h with a | a <;> rcases List.mem_cons.mp h' with b | b
    · rw [← a] at b
      cases b
      exact ⟨rfl, rfl⟩
    · exact absurd (List.mem_map.mpr ⟨_, b, rfl⟩) (by rw [← a] at nd; exact nd.1)
    · exact absurd (List.mem_map.mpr ⟨_, a, rfl⟩) (by rw [← b] at nd; exact nd.1)
    · exact ih nd.2 a b
theorem we_key {ws : List We} {x : Int} (h : x ∈ ws.map (·.1)) : ∃ k f, (x, k, f) ∈ ws := by
  obtain ⟨⟨y, k, f⟩, he, e⟩ := List.mem_map.mp h
  have e : y = x := e
  subst e
  exact ⟨k, f, he⟩
theorem WF.rg {N : Int → List Nu} {s : Int} {ws : List We} {n : Int} (h : WF N s ws) (hs : 0 ≤ s ∧ s < n) (hN : ∀ x q, q ∈ N x → 0 ≤ q.1 ∧ q.1 < n) {x : Int} (hx : x ∈ ws.map (·.1)) : 0 ≤ x ∧ x < n := by
  obtain ⟨k, f, he⟩ := we_key hx
  cases f with
  | none =>
    rw [(h.non _ _ he).1]
    exact hs
  | some pm =>
    obtain ⟨p, m⟩ := pm
    obtain ⟨j, g, _, _, hm⟩ := h.par _ _ _ _ he
    exact hN p _ hm
theorem BF.rg {N : Int → List Nu} {s : Int} {ws : List We} {L : Nat} {todo fol : List Int} {n : Int} (h : BF N s ws L todo fol) (hs : 0 ≤ s ∧ s < n) (hN : ∀ x q, q ∈ N x → 0 ≤ q.1 ∧ q.1 < n) (x : Int) (hx : x ∈ ws.map (·.1)) : 0 ≤ x ∧ x < n := by
  obtain ⟨k, f, he⟩ := we_key hx
  cases f with
  | none =>
    rw [(h.non _ _ he).1]
    exact hs
  | some pm =>
    obtain ⟨p, m⟩ := pm
    obtain ⟨j, g, _, _, hm⟩ := h.par _ _ _ _ he
    exact hN p _ hm
theorem BF.few {N : Int → List Nu} {s : Int} {ws : List We} {L : Nat} {todo fol : List Int} {n : Nat} (h : BF N s ws L todo fol) (hs : 0 ≤ s ∧ s < n) (hN : ∀ x q, q ∈ N x → 0 ≤ q.1 ∧ q.1 < n) : ws.length ≤ n := by
  have := pigeon n _ h.nd (h.rg hs hN)
  rw [List.length_map] at this
  exact this
theorem BF.start (N : Int → List Nu) (s : Int) : BF N s [(s, 0, none)] 0 [s] [] :=
  ⟨by simp, by simp, fun y k h => by simp at h; exact ⟨h.1, h.2⟩, fun y k p m h => by simp at h, fun e h => by rw [List.mem_singleton.mp h]; simp, fun x h => ⟨none, by rw [List.mem_singleton.mp h]; simp⟩, fun e h _ => .inl (by rw [List.mem_singleton.mp h]; simp), fun x h => by simp at h, fun e h z => by rw [List.mem_singleton.mp h] at z; simp at z, by simp⟩
theorem BF.stop {N : Int → List Nu} {s : Int} {ws : List We} {L : Nat} (h : BF N s ws L [] []) (hx : Wlk N s ws) : WF N s ws :=
  ⟨h.nd, h.root, h.non, h.par, fun e he => by
    have h1 := h.lv e he
    have h2 : e.2.1 ≤ L := by
      by_cases z : e.2.1 = L + 1
      · exact absurd (h.f2 e he z) (by simp)
      · omega
    exact (h.dn e he h2).resolve_left (by simp), hx⟩
theorem BF.next {N : Int → List Nu} {s : Int} {ws : List We} {L : Nat} {fol : List Int} (h : BF N s ws L [] fol) : BF N s ws (L + 1) fol [] :=
  ⟨h.nd, h.root, h.non, h.par, fun e he => by have := h.lv e he; omega, h.f1, fun e he hl => by
    by_cases z : e.2.1 = L + 1
    · exact .inl (h.f2 e he z)
    · exact .inr ((h.dn e he (by omega)).resolve_left (by simp)), fun x hx => by simp at hx, fun e he z => by have := h.lv e he; omega, by simp⟩
theorem BF.push {N : Int → List Nu} {s p y m : Int} {ws : List We} {L : Nat} {todo fol : List Int} {f : Option (Int × Int)} (h : BF N s ws L todo fol) (hp : (p, L, f) ∈ ws) (hm : (y, m) ∈ N p) (hy : y ∉ ws.map (·.1)) : BF N s (ws ++ [(y, L + 1, some (p, m))]) L todo (fol ++ [y]) := by
  have sub : ∀ {e : We}, e ∈ ws → e ∈ ws ++ [(y, L + 1, some (p, m))] := fun he => List.mem_append_left _ he
  have cs : ∀ {e : We}, e ∈ ws ++ [(y, L + 1, some (p, m))] → e ∈ ws ∨ e = (y, L + 1, some (p, m)) := fun he => by
    rcases List.mem_append.mp he with z | z
    · exact .inl z
    · exact .inr (List.mem_singleton.mp z)
  refine ⟨?_, sub h.root, fun z k hz => ?_, fun z k p' m' hz => ?_, fun e he => ?_, fun x hx => ?_, fun e he hl => ?_, fun x hx => ?_, fun e he z => ?_, ?_⟩
  · rw [List.map_append, List.nodup_append]
    refine ⟨h.nd, by simp, fun x hx z hz e => ?_⟩
    have : z = y := by simpa using hz
    subst this
    subst e
    exact hy hx
  · rcases cs hz with z1 | z1
    · exact h.non _ _ z1
    · cases z1
  · rcases cs hz with z1 | z1
    · obtain ⟨j, g, h1, h2, h3⟩ := h.par _ _ _ _ z1
      exact ⟨j, g, sub h1, h2, h3⟩
    · cases z1
      exact ⟨L, f, sub hp, rfl, hm⟩
  · rcases cs he with z1 | z1
    · exact h.lv e z1
    · rw [z1]
      exact Nat.le_refl _
  · obtain ⟨g, hg⟩ := h.td x hx
    exact ⟨g, sub hg⟩
  · rcases cs he with z1 | z1
    · rcases h.dn e z1 hl with a | a
      · exact .inl a
      · refine .inr fun q hq => ?_
        obtain ⟨k, g, h1, h2⟩ := a q hq
        exact ⟨k, g, sub h1, h2⟩
    · rw [z1] at hl
      simp at hl
      omega
  · rcases List.mem_append.mp hx with z | z
    · obtain ⟨g, hg⟩ := h.f1 x z
      exact ⟨g, sub hg⟩
    · rw [List.mem_singleton.mp z]
      exact ⟨some (p, m), List.mem_append_right _ (by simp)⟩
  · rcases cs he with z1 | z1
    · exact List.mem_append_left _ (h.f2 e z1 z)
    · rw [z1]
      exact List.mem_append_right _ (by simp)
  · rw [List.length_append, List.length_append]
    have := h.fl
    simp
    omega
theorem BF.done {N : Int → List Nu} {s p : Int} {ws : List We} {L : Nat} {todo fol : List Int} {f : Option (Int × Int)} (h : BF N s ws L (p :: todo) fol) (hp : (p, L, f) ∈ ws) (hd : ∀ q ∈ N p, ∃ k f, (q.1, k, f) ∈ ws ∧ k ≤ L + 1) : BF N s ws L todo fol :=
  ⟨h.nd, h.root, h.non, h.par, h.lv, fun x hx => h.td x (List.mem_cons_of_mem _ hx), fun e he hl => by
    rcases h.dn e he hl with a | a
    · rcases List.mem_cons.mp a with b | b
      · obtain ⟨x, k, g⟩ := e
        have b : x = p := b
        subst b
        have := (we_one h.nd he hp).1
        subst this
        exact .inr hd
      · exact .inl b
    · exact .inr a, h.f1, h.f2, h.fl⟩
/-! ### as it lies in the heap -/
def WeV (H : Hp) (kv : Key × V) (e : We) : Prop := kv.1 = Sum.inl e.1 ∧ ∃ a, kv.2 = .ref a ∧ H a = some (.tup (weL e))
theorem WeV.tk {H H' : Hp} (k : Tk H H') {kv : Key × V} {e : We} (h : WeV H kv e) : WeV H' kv e := by
  obtain ⟨h1, a, h2, h3⟩ := h
  exact ⟨h1, a, h2, k _ _ h3⟩
theorem wes_tk {H H' : Hp} (k : Tk H H') {kvs : List (Key × V)} {ws : List We} (h : Paired (WeV H) kvs ws) : Paired (WeV H') kvs ws := Paired.mono (fun _ _ x => x.tk k) h
theorem wes_none {H : Hp} {x : Int} : ∀ {kvs : List (Key × V)} {ws : List We}, Paired (WeV H) kvs ws → x ∉ ws.map (·.1) → valV kvs (Sum.inl x) = none
  | _, _, .nil, _ => rfl
  | kv :: kvs, e :: ws, .cons h t, hx => by
    rw [List.map_cons, List.mem_cons, not_or] at hx
    obtain ⟨k, v⟩ := kv
    have h1 : k = Sum.inl e.1 := h.1
    rw [valV_neg (fun z => hx.1 (by rw [h1] at z; exact (Sum.inl.inj z).symm))]
    exact wes_none t hx.2
theorem wes_some {H : Hp} {x : Int} {k : Nat} {f : Option (Int × Int)} : ∀ {kvs : List (Key × V)} {ws : List We}, Paired (WeV H) kvs ws → (ws.map (·.1)).Nodup → (x, k, f) ∈ ws → ∃ a, valV kvs (Sum.inl x) = some (.ref a) ∧ H a = some (.tup (weL (x, k, f)))
  | _, _, .nil, _, hx => by cases hx
  | kv :: kvs, e :: ws, .cons h t, nd, hx => by
    rw [List.map_cons, List.nodup_cons] at nd
    obtain ⟨k', v⟩ := kv
    have h1 : k' = Sum.inl e.1 := h.1
    obtain ⟨a, h2, h3⟩ := h.2
    have h2 : v = .ref a := h2
    rcases List.mem_cons.mp hx with z | z
    · subst z
      exact ⟨a, by rw [valV_pos h1, h2], h3⟩
    · have ne : e.1 ≠ x := fun y => nd.1 (by rw [y]; exact List.mem_map.mpr ⟨_, z, rfl⟩)
      rw [valV_neg (fun y => ne (by rw [h1] at y; exact Sum.inl.inj y))]
      exact wes_some t nd.2 z
theorem putK_new {k : Key} {v : V} : ∀ {kvs : List (Key × V)}, valV kvs k = none → putK kvs k v = kvs ++ [(k, v)] := fun {kvs} h => by
  unfold putK
  rw [if_neg]
  intro g
  rw [List.any_eq_true] at g
  obtain ⟨kv, h1, h2⟩ := g
  have h2 := of_decide_eq_true h2
  induction kvs with
  | nil => cases h1
  | cons x kvs ih =>
    obtain ⟨k', v'⟩ := x
    by_cases e : k' = k
    · rw [valV_pos e] at h
      cases h
    · rw [valV_neg e] at h
      rcases List.mem_cons.mp h1 with z | z
      · rw [z] at h2
        exact e h2
      · exact ih h z
def WalkAt (H : Hp) (D : Addr) (ws : List We) : Prop := ∃ kvs, H D = some (.dK kvs) ∧ Paired (WeV H) kvs ws
theorem WalkAt.same {H H' : Hp} {D : Addr} {ws : List We} (h : WalkAt H D ws) (s : Same H H') : WalkAt H' D ws := by
  obtain ⟨kvs, h1, h2⟩ := h
  exact ⟨kvs, s _ _ h1, wes_tk (Same.tk s) h2⟩
/-- a list or a tuple, walked -/
def iSeq (K : PySem.W.Frag) (tl : TE) : TI := fun σ H R => tl σ H fun x H1 => ∃ a, x = .ref a ∧ (((∃ xs, SqL K H1 a xs) ∧ R (Itl K a) H1) ∨ ((∃ xs, SqT K H1 a xs) ∧ R (Itt K a) H1))
theorem pi_seq {X : Cx} {tg l : Expr} {tl : TE} (hl : PE X l tl) : PI X tg l (iSeq X.K tl) := by
  refine ⟨fun pins s σ H R I h => ?_⟩
  refine thn (hl.run pins s σ H _ I h) fun v s1 ⟨x, H1, I1, r1, q1⟩ => ?_
  obtain ⟨a, e, q1⟩ := q1
  subst e
  cases r1
  rcases q1 with ⟨⟨xs, hq⟩, q⟩ | ⟨⟨xs, hq⟩, q⟩
  · obtain ⟨its, rv, p, hz⟩ := I1.list hq
    refine wpAny_pyIter_list p.isList ?_
    refine ⟨s1.heap.objs.size, [s1.heap.objs.size], _, _, H1, rfl, I1.kept (t' := s1.toks) fun b o e => Heap.get?_push_of_some _ e, turn_list a _, ⟨_, Heap.get?_push_size _ rfl, rfl, rfl⟩, fun b hb => ?_, q⟩
    have e : b = s1.heap.objs.size := by simpa using hb
    subst e
    exact I1.fpOk (Nat.le_refl _) (I1.hok.fresh (Nat.le_refl _))
  · obtain ⟨its, rv, p, hz⟩ := I1.tuple hq
    refine wpAny_pyIter_tuple (show s1.heap.IsTuple a its.toArray from p) ?_
    refine ⟨s1.heap.objs.size, [s1.heap.objs.size], _, _, H1, rfl, I1.kept (t' := s1.toks) fun b o e => Heap.get?_push_of_some _ e, turn_tuple a _, ⟨_, Heap.get?_push_size _ rfl, rfl, rfl⟩, fun b hb => ?_, q⟩
    have e : b = s1.heap.objs.size := by simpa using hb
    subst e
    exact I1.fpOk (Nat.le_refl _) (I1.hok.fresh (Nat.le_refl _))
def spWalkFrom : Sp := fun vs H Q _ => ∃ (u : V) (n : Nat) (s : Int) (N : Int → List Nu), vs = [.int s, u] ∧ AroAt H u N ∧ 0 ≤ s ∧ s < n ∧ n ≤ 100 ∧ (∀ x q, q ∈ N x → 0 ≤ q.1 ∧ q.1 < n) ∧ ∀ D ws H', Same H H' → WalkAt H' D ws → WF N s ws → ws.length ≤ n → Q (.ref D) H'
section
variable {P : Program} {w : World} {K : PySem.W.Frag} {mg : Str → Option Value} {base : Heap}
theorem ok_walk_from {f : Addr} {fd : FuncData} (F : Fun K "walk_from" "walk_from" s_walk_from f fd) : FnOk P w K mg base CX0 1 f fd ["start", "around"] spWalkFrom := by
  refine F.ok sc_walk_from (fun vs H Q E h => ?_) (fun cdv A outer sh H vs Q E hr h => ?_)
  · obtain ⟨u, n, s, N, rfl, _⟩ := h
    rfl
  · obtain ⟨u, n, s, N, rfl, ⟨U, As, rfl, hU⟩, s0, s1, n100, hN, q⟩ := h
    have hu := room1 hr
    refine ⟨_, (pss_cons (ps_set (i := 2) sc_walk_from.nd rfl (.inl rfl) (pe_disp (pps_cons (pv 0) (pe_tup (pa_cons pe_int (pa_cons pe_non (pa_cons pe_non pa_nil)))) pps_nil) (by rfl) (by rfl) (fun z => by cases z) (by decide)))
      (pss_cons (ps_set (i := 3) sc_walk_from.nd rfl (.inl rfl) (pe_lst (pa_cons (pv 0) pa_nil)))
      (pss_cons (ps_set (i := 4) sc_walk_from.nd rfl (.inl rfl) pe_int)
      (pss_cons (ps_while PassesOwn.never (pt_truth (pv 3) (by intro _; rfl))
        (pss_cons (ps_aug (i := 4) sc_walk_from.nd rfl (.inl rfl) pe_int ip_add)
        (pss_cons (ps_set (i := 5) sc_walk_from.nd rfl (.inl rfl) (pe_lst pa_nil))
        (pss_cons (ps_for PassesOwn.never rfl (pi_list (pv 3)) (pg_name (i := 6) sc_walk_from.nd rfl (.inl rfl))
          (pss_one (ps_for PassesOwn.never rfl (pi_seq (pe_dget2 hu (pv 1) (pv 6) (pe_tup pa_nil) ⟨rfl, rfl, rfl, rfl⟩)) (pg_tup rfl (pgs_cons (pg_name (i := 7) sc_walk_from.nd rfl (.inl rfl)) (pgs_cons (pg_name (i := 8) sc_walk_from.nd rfl (.inl rfl)) pgs_nil)))
            (pss_one (ps_if (pt_cmp (pc_dnotin hu (pv 7) (pv 2)))
              (pss_cons (ps_dput hu (pv 2) (pv 7) (pe_tup (pa_cons (pv 4) (pa_cons (pv 6) (pa_cons (pv 8) pa_nil)))) rfl)
              (pss_one (ps_expr (pe_bm PySem.F.plainAttrs_list PySem.F.slot_list_append PySem.F.type_list_append mt_append (pv 5) (pa_cons (pv 7) pa_nil)))))
              pss_nil)))))
        (pss_one (ps_set (i := 3) sc_walk_from.nd rfl (.inl rfl) (pv 5)))))))
      (pss_one (ps_ret (pv 2))))))), ?_⟩
    -- walk
    refine fun D nD => ⟨.int s, rfl, by show 3 ≤ sizeLine; decide, fun T nT => ?_⟩
    have hTD : T ≠ D := (ne_of_none upd_same nT).symm
    have nTH : H T = none := by rw [upd_ne hTD] at nT; exact nT
    refine ⟨by rw [upd_ne (Ne.symm hTD)]; exact upd_same, [(Sum.inl s, .ref T)], rfl, (by show 1 ≤ 15; decide), ?_⟩
    have hw0 : WalkAt (upd (upd (upd H D (.dK [])) T (.tup [.int 0, .non, .non])) D (.dK (mergeK [] [(Sum.inl s, .ref T)]))) D [(s, 0, none)] := ⟨_, upd_same, .cons ⟨rfl, T, rfl, by rw [upd_ne hTD]; exact upd_same⟩ .nil⟩
    have s2 : Same H (upd (upd (upd H D (.dK [])) T (.tup [.int 0, .non, .non])) D (.dK (mergeK [] [(Sum.inl s, .ref T)]))) := Same.mut (Same.mut (same_new nD) nTH) nD
    generalize upd (upd (upd H D (.dK [])) T (.tup [.int 0, .non, .non])) D (.dK (mergeK [] [(Sum.inl s, .ref T)])) = H2 at hw0 s2
    -- reached
    refine ⟨.int s, rfl, by show 1 ≤ sizeLine; decide, fun R0 nR0 => ?_⟩
    refine ⟨fun k σ' H' => ∃ (y5 y6 y7 y8 : Option V) (R : Addr) (ws : List We) (L : Nat) (todo : List Int), σ' = [some (.int s), some (.ref U), some (.ref D), some (.ref R), some (.int (L : Nat)), y5, y6, y7, y8] ∧ WalkAt H' D ws ∧ H' R = some (.lst (todo.map V.int)) ∧ Same H H' ∧ BF N s ws L todo [] ∧ Bst N s L = (ws, todo) ∧ k = 2 * (n - ws.length) + (if todo.isEmpty = true then 0 else 1), ⟨_, none, none, none, none, R0, [(s, 0, none)], 0, [s], rfl, hw0.same (same_new nR0), upd_same, s2.trans (same_new nR0), BF.start N s, rfl, rfl⟩, ?_⟩
    clear hw0 s2 nR0 nT hTD nTH
    rintro k σ' H1 ⟨y5, y6, y7, y8, R, ws, L, todo, rfl, hw, hR, s3, bf, hx, hk⟩
    refine ⟨.ref R, rfl, _, .inl ⟨_, SqL.of hR, rfl⟩, ?_⟩
    refine ite2 (fun hb => ?_) (fun hb => ?_)
    · have hne : todo.isEmpty = false := by
        cases todo with
        | nil => cases hb
        | cons a b => rfl
      rw [hne] at hk
      refine ⟨fun σ' H' => ∃ k', k' < k ∧ ∃ (y5 y6 y7 y8 : Option V) (R : Addr) (ws : List We) (L : Nat) (todo : List Int), σ' = [some (.int s), some (.ref U), some (.ref D), some (.ref R), some (.int (L : Nat)), y5, y6, y7, y8] ∧ WalkAt H' D ws ∧ H' R = some (.lst (todo.map V.int)) ∧ Same H H' ∧ BF N s ws L todo [] ∧ Bst N s L = (ws, todo) ∧ k' = 2 * (n - ws.length) + (if todo.isEmpty = true then 0 else 1), fun _ _ h => h, ?_⟩
      refine ⟨.int (L : Nat), rfl, L, 1, rfl, rfl, ?_⟩
      refine ⟨Nat.zero_le _, fun Fo nF => ?_⟩
      have hFD : Fo ≠ D := by
        obtain ⟨kvs, h1, _⟩ := hw
        exact (ne_of_none h1 nF).symm
      have hFR : Fo ≠ R := (ne_of_none hR nF).symm
      have nFH : H Fo = none := s3.free nF
      have few0 := bf.few ⟨s0, s1⟩ hN
      have hRs : (upd H1 Fo (.lst [])) R = some (.lst (todo.map V.int)) := same_new nF _ _ hR
      refine ⟨.ref R, rfl, R, rfl, ⟨_, SqL.of hRs⟩, ?_⟩
      refine for_list (xs := todo.map V.int) (fun i σ' H' => ∃ (y6 y7 y8 : Option V) (ws' : List We) (fol : List Int), σ' = [some (.int s), some (.ref U), some (.ref D), some (.ref R), some (.int ((L + 1 : Nat) : Int)), some (.ref Fo), y6, y7, y8] ∧ WalkAt H' D ws' ∧ H' R = some (.lst (todo.map V.int)) ∧ H' Fo = some (.lst (fol.map V.int)) ∧ Same H H' ∧ BF N s ws' L (todo.drop i) fol ∧ (todo.take i).foldl (fun st p => (N p).foldl (stp p L) st) (ws, []) = (ws', fol) ∧ ws'.length = ws.length + fol.length) ⟨y6, y7, y8, ws, [], rfl, hw.same (same_new nF), hRs, upd_same, s3.trans (same_new nF), bf, rfl, rfl⟩ (fun i σ' H' _ h => by
        obtain ⟨_, _, _, _, _, _, _, h, _⟩ := h
        exact SqL.of h) ?_ ?_
      · clear hw hR s3 hRs nF
        rintro i x σ' H2 ex ⟨y6, y7, y8, ws1, fol1, rfl, hw, hR, hF, s3, bf', hx1, hl⟩
        rw [List.getElem?_map] at ex
        obtain ⟨p, hp, rfl⟩ := Option.map_eq_some_iff.mp ex
        have hi := (List.getElem?_eq_some_iff.mp hp).1
        have ed : todo.drop i = p :: todo.drop (i + 1) := by
          rw [List.drop_eq_getElem_cons hi]
          congr 1
          exact (List.getElem?_eq_some_iff.mp hp).2
        rw [ed] at bf'
        obtain ⟨f0, hf0⟩ := bf'.td p (by simp)
        have hU3 := hU.same s3
        refine ⟨.ref U, rfl, U, rfl, .inl ⟨_, .inl hU3.at'⟩, .int p, rfl, Nat.zero_le _, fun t nt => ⟨_, DGet.k (k := Sum.inl p) (same_new nt _ _ hU3.at'), ?_⟩⟩
        have sT := same_new (o := .tup []) nt
        -- what holds along the neighbours
        let Jv : Nat → L2.St → Hp → Prop := fun j σ' H' => ∃ (y7 y8 : Option V) (ws' : List We) (fol : List Int), σ' = [some (.int s), some (.ref U), some (.ref D), some (.ref R), some (.int ((L + 1 : Nat) : Int)), some (.ref Fo), some (.int p), y7, y8] ∧ WalkAt H' D ws' ∧ H' R = some (.lst (todo.map V.int)) ∧ H' Fo = some (.lst (fol.map V.int)) ∧ Same H H' ∧ Tk H2 H' ∧ BF N s ws' L (p :: todo.drop (i + 1)) fol ∧ (p, L, f0) ∈ ws' ∧ (∀ q ∈ (N p).take j, q.1 ∈ ws'.map (·.1)) ∧ ((N p).take j).foldl (stp p L) (ws1, fol1) = (ws', fol) ∧ ws'.length = ws.length + fol.length
        have J0 : Jv 0 [some (.int s), some (.ref U), some (.ref D), some (.ref R), some (.int ((L + 1 : Nat) : Int)), some (.ref Fo), some (.int p), y7, y8] (upd H2 t (.tup [])) := ⟨y7, y8, ws1, fol1, rfl, hw.same sT, sT _ _ hR, sT _ _ hF, s3.trans sT, Same.tk sT, bf', hf0, fun q hq => by simp at hq, rfl, hl⟩
        have Jend : ∀ σ' H', Jv (N p).length σ' H' → ∃ (y6 y7 y8 : Option V) (ws' : List We) (fol : List Int), σ' = [some (.int s), some (.ref U), some (.ref D), some (.ref R), some (.int ((L + 1 : Nat) : Int)), some (.ref Fo), y6, y7, y8] ∧ WalkAt H' D ws' ∧ H' R = some (.lst (todo.map V.int)) ∧ H' Fo = some (.lst (fol.map V.int)) ∧ Same H H' ∧ BF N s ws' L (todo.drop (i + 1)) fol ∧ (todo.take (i + 1)).foldl (fun st p => (N p).foldl (stp p L) st) (ws, []) = (ws', fol) ∧ ws'.length = ws.length + fol.length := by
          rintro σ' H' ⟨y7, y8, ws', fol, rfl, h1, h2, h3, h4, _, h5, h6, h7, hx2, h8⟩
          rw [List.take_length] at h7 hx2
          refine ⟨_, _, _, ws', fol, rfl, h1, h2, h3, h4, h5.done h6 fun q hq => ?_, by rw [List.take_add_one, hp, List.foldl_append, hx1]; exact hx2, h8⟩
          obtain ⟨kk, ff, he⟩ := we_key (h7 q hq)
          exact ⟨kk, ff, he, h5.lv _ he⟩
        rcases aKv_cases As p hU.nd with ⟨hno, e⟩ | ⟨a, ha, e⟩
        · rw [e]
          have eN : N p = [] := hU.no p hno
          refine ⟨t, rfl, .inr ⟨⟨_, SqT.of upd_same⟩, ?_⟩⟩
          refine for_tup (xs := []) (fun j σ' H' => Jv j σ' H' ∧ H' t = some (.tup [])) ⟨J0, upd_same⟩ (fun j σ' H' _ h => SqT.of h.2) (fun j x σ' H' ex => by simp at ex) (fun σ' H' h => Jend σ' H' (by rw [eN]; exact h.1))
        · rw [e]
          obtain ⟨us, hus, hpu⟩ := hU.each _ ha
          refine ⟨a, rfl, .inl ⟨⟨_, SqL.of (sT _ _ (s3 _ _ hus))⟩, ?_⟩⟩
          have lu : us.length = (N p).length := Paired.length hpu
          refine for_list (xs := us) Jv J0 (fun j σ' H' _ h => by
            obtain ⟨_, _, _, _, _, _, _, _, h, _⟩ := h
            exact SqL.of (h _ _ hus)) ?_ (by rw [lu]; exact Jend)
          clear J0 Jend hw hR hF s3 bf' hl hf0 sT nt hU3 hx1
          rintro j x σ' H3 ex ⟨y7, y8, ws', fol, rfl, hw, hR, hF, s3, tk, bf', hf, hdn, hx2, hl⟩
          obtain ⟨⟨y, m⟩, eq, c, rfl, hc⟩ := Paired.at hpu ex
          have hm : (y, m) ∈ N p := List.mem_of_getElem? eq
          have few := bf'.few ⟨s0, s1⟩ hN
          have etk : (N p).take (j + 1) = (N p).take j ++ [(y, m)] := by
            rw [List.take_add_one, eq]
            rfl
          obtain ⟨kvs, hD, hkv⟩ := id hw
          have lkv : kvs.length = ws'.length := Paired.length hkv
          refine ⟨c, _, rfl, SqT.of (s3 _ _ hc), rfl, _, _, rfl, _, _, rfl, rfl, ?_⟩
          refine ⟨.int y, rfl, .ref D, rfl, D, _, rfl, DGet.k (k := Sum.inl y) hD, _, rfl, ?_⟩
          by_cases hy : y ∈ ws'.map (·.1)
          · obtain ⟨ky, fy, hey⟩ := we_key hy
            obtain ⟨ay, ev, _⟩ := wes_some hkv bf'.nd hey
            rw [ev]
            refine ⟨_, _, ws', fol, rfl, hw, hR, hF, s3, tk, bf', hf, fun q hq => ?_, by rw [etk, List.foldl_append, hx2]; show stp p L (ws', fol) (y, m) = _; unfold stp; rw [if_pos hy], hl⟩
            rw [etk] at hq
            rcases List.mem_append.mp hq with z | z
            · exact hdn q z
            · rw [List.mem_singleton.mp z]
              exact hy
          · have ev := wes_none hkv hy
            rw [ev]
            refine ⟨.int ((L + 1 : Nat) : Int), rfl, .int p, rfl, .int m, rfl, by show 3 ≤ sizeLine; decide, fun Z nZ => ?_⟩
            have sZ := same_new (o := .tup [.int ((L + 1 : Nat) : Int), .int p, .int m]) nZ
            have hZD : Z ≠ D := (ne_of_none hD nZ).symm
            refine ⟨.ref D, rfl, .int y, rfl, D, _, rfl, DPut.k (k := Sum.inl y) (sZ _ _ hD) (small1000 (by omega)), ?_⟩
            rw [putK_new ev]
            have tkD : Tk H3 (upd (upd H3 Z (.tup [.int ((L + 1 : Nat) : Int), .int p, .int m])) D (.dK (kvs ++ [(Sum.inl y, .ref Z)]))) := fun b xs e => by
              rw [upd_ne (ne_of e hD (by intro z; cases z))]
              exact sZ _ _ e
            have hF4 : (upd (upd H3 Z (.tup [.int ((L + 1 : Nat) : Int), .int p, .int m])) D (.dK (kvs ++ [(Sum.inl y, .ref Z)]))) Fo = some (.lst (fol.map V.int)) := by rw [upd_ne hFD]; exact sZ _ _ hF
            have lf := bf'.fl
            have bfp := bf'.push hf hm hy
            have few2 := bfp.few ⟨s0, s1⟩ hN
            refine ⟨.ref Fo, rfl, .inl ⟨rfl, _, SqL.of hF4⟩, .int y, rfl, Fo, _, _, rfl, rfl, hF4, by rw [List.length_map]; exact small1000 (by omega), ?_⟩
            have tkF := tk_lst (ys := fol.map V.int ++ [.int y]) hF4
            refine ⟨_, _, ws' ++ [(y, L + 1, some (p, m))], fol ++ [y], rfl, ⟨kvs ++ [(Sum.inl y, .ref Z)], ?_, Paired.snoc (wes_tk (tkD.trans tkF) hkv) ⟨rfl, Z, rfl, tkF _ _ (by rw [upd_ne hZD]; exact upd_same)⟩⟩, ?_, by rw [upd_same, List.map_append]; rfl, Same.mut (Same.mut (s3.trans sZ) nD) nFH, tk.trans (tkD.trans tkF), bfp, List.mem_append_left _ hf, fun q hq => ?_, by rw [etk, List.foldl_append, hx2]; show stp p L (ws', fol) (y, m) = _; unfold stp; rw [if_neg hy], ?_⟩
            · rw [upd_ne (Ne.symm hFD)]
              exact upd_same
            · have hRD : R ≠ D := ne_of hR hD (by intro z; cases z)
              rw [upd_ne (Ne.symm hFR), upd_ne hRD]
              exact sZ _ _ hR
            · rw [List.map_append]
              rw [etk] at hq
              rcases List.mem_append.mp hq with z | z
              · exact List.mem_append_left _ (hdn q z)
              · rw [List.mem_singleton.mp z]
                exact List.mem_append_right _ (by simp)
            · rw [List.length_append, List.length_append, hl]
              rfl
      · clear hw hR s3 hRs nF
        rintro σ' H2 ⟨y6, y7, y8, ws', fol, rfl, hw, hR, hF, s3, bf', hx1, hl⟩
        rw [List.length_map, List.drop_length] at bf'
        rw [List.length_map, List.take_length] at hx1
        have few := bf'.few ⟨s0, s1⟩ hN
        refine ⟨.ref Fo, rfl, _, ?_, _, _, _, _, Fo, ws', L + 1, fol, rfl, hw, hF, s3, bf'.next, by show lvl N L (Bst N s L) = _; rw [hx]; exact hx1, rfl⟩
        cases fol with
        | nil =>
          rw [hk, hl]
          simp
        | cons a b =>
          rw [List.length_cons] at hl
          rw [hk]
          simp
          omega
    · have he : todo = [] := by
        cases todo with
        | nil => rfl
        | cons a b => exact absurd rfl hb
      subst he
      exact ⟨.ref D, rfl, q D ws H1 s3 hw (bf.stop ⟨L, hx⟩) (bf.few ⟨s0, s1⟩ hN)⟩
end
/-! ### the way back -/
inductive Way (N : Int → List Nu) (e : Int) : Int → List Int → List Int → Prop
  | one : Way N e e [e] []
  | cons {c p m : Int} {qs ns : List Int} : Way N e c qs ns → (c, m) ∈ N p → p ∉ qs → Way N e p (p :: qs) (m :: ns)
theorem Way.len {N : Int → List Nu} {e c : Int} {qs ns : List Int} (h : Way N e c qs ns) : qs.length = ns.length + 1 := by
  induction h with
  | one => rfl
  | cons _ _ _ ih => rw [List.length_cons, List.length_cons, ih]
theorem Way.nodup {N : Int → List Nu} {e c : Int} {qs ns : List Int} (h : Way N e c qs ns) : qs.Nodup := by
  induction h with
  | one => simp
  | cons _ _ hp ih => exact List.nodup_cons.mpr ⟨hp, ih⟩
/-- the way back, by the walk alone -/
inductive Bk (ws : List We) : Int → List Int → List Int → Prop
  | stop {c : Int} {k : Nat} : (c, k, none) ∈ ws → Bk ws c [c] []
  | step {c p m : Int} {k : Nat} {qs ns : List Int} : (c, k, some (p, m)) ∈ ws → Bk ws p qs ns → Bk ws c (c :: qs) (m :: ns)
theorem Bk.one {ws : List We} (nd : (ws.map (·.1)).Nodup) {c : Int} {qs ns : List Int} (a : Bk ws c qs ns) : ∀ {qs' ns' : List Int}, Bk ws c qs' ns' → qs = qs' ∧ ns = ns' := by
  induction a with
  | stop h =>
    intro qs' ns' b
    cases b with
    | stop _ => exact ⟨rfl, rfl⟩
    | step h' _ => cases (we_one nd h h').2
  | step h t ih =>
    intro qs' ns' b
    cases b with
    | stop h' => cases (we_one nd h h').2
    | step h' t' =>
      cases (we_one nd h h').2
      obtain ⟨e1, e2⟩ := ih t'
      rw [e1, e2]
      exact ⟨rfl, rfl⟩
/-- the way that is told, and no other -/
def Exa (N : Int → List Nu) (s e : Int) (qs ns : List Int) : Prop := ∃ ws, WF N s ws ∧ Bk ws e qs.reverse ns.reverse
theorem Exa.one {N : Int → List Nu} {s e : Int} {qs ns qs' ns' : List Int} (a : Exa N s e qs ns) (b : Exa N s e qs' ns') : qs = qs' ∧ ns = ns' := by
  obtain ⟨ws, h1, h2⟩ := a
  obtain ⟨ws', h1', h2'⟩ := b
  obtain rfl := h1.ex.one h1'.ex
  obtain ⟨e1, e2⟩ := h2.one h1.nd h2'
  exact ⟨List.reverse_inj.mp e1, List.reverse_inj.mp e2⟩
def spWayTo : Sp := fun vs H Q _ => ∃ (e s : Int) (D : Addr) (ws : List We) (N : Int → List Nu) (k : Nat) (f : Option (Int × Int)), vs = [.int e, .ref D] ∧ WalkAt H D ws ∧ WF N s ws ∧ (e, k, f) ∈ ws ∧ k ≤ 200 ∧ ∀ r a b qs ns H', Same H H' → H' r = some (.tup [.ref a, .ref b]) → H' a = some (.tup (qs.map V.int)) → H' b = some (.tup (ns.map V.int)) → Way N e s qs ns → Exa N s e qs ns → ns.length = k → Q (.ref r) H'
section
variable {P : Program} {w : World} {K : PySem.W.Frag} {mg : Str → Option Value} {base : Heap}
theorem ok_way_to {f : Addr} {fd : FuncData} (F : Fun K "way_to" "way_to" s_way_to f fd) (M : Free mg) : FnOk P w K mg base CX0 1 f fd ["end", "walk"] spWayTo := by
  refine F.ok sc_way_to (fun vs H Q E h => ?_) (fun cdv A outer sh H vs Q E hr h => ?_)
  · obtain ⟨e, s, D, ws, N, k, f, rfl, _⟩ := h
    rfl
  · obtain ⟨e, s, D, ws, N, k, f, rfl, hw, wf, he, k2, q⟩ := h
    have hu := room1 hr
    refine ⟨_, (pss_cons (ps_set (i := 2) sc_way_to.nd rfl (.inl rfl) (pe_lst (pa_cons (pv 0) pa_nil)))
      (pss_cons (ps_set (i := 3) sc_way_to.nd rfl (.inl rfl) (pe_lst pa_nil))
      (pss_cons (ps_asg (pe_dget hu (pv 1) (pv 0) (fun _ _ => rfl)) (pg_tup rfl (pgs_cons (pg_name (i := 4) sc_way_to.nd rfl (.inl rfl)) (pgs_cons (pg_name (i := 5) sc_way_to.nd rfl (.inl rfl)) (pgs_cons (pg_name (i := 6) sc_way_to.nd rfl (.inl rfl)) pgs_nil)))))
      (pss_cons (ps_while PassesOwn.never (pt_cmpR op_notN (pv 5) pe_non (nomark _))
        (pss_cons (ps_expr (pe_bm PySem.F.plainAttrs_list PySem.F.slot_list_append PySem.F.type_list_append mt_append (pv 2) (pa_cons (pv 5) pa_nil)))
        (pss_cons (ps_expr (pe_bm PySem.F.plainAttrs_list PySem.F.slot_list_append PySem.F.type_list_append mt_append (pv 3) (pa_cons (pv 6) pa_nil)))
        (pss_one (ps_asg (pe_dget hu (pv 1) (pv 5) (fun _ _ => rfl)) (pg_tup rfl (pgs_cons (pg_name (i := 4) sc_way_to.nd rfl (.inl rfl)) (pgs_cons (pg_name (i := 5) sc_way_to.nd rfl (.inl rfl)) (pgs_cons (pg_name (i := 6) sc_way_to.nd rfl (.inl rfl)) pgs_nil)))))))))
      (pss_one (ps_ret (pe_tup (pa_cons (pe_callTy call_tuple_of (by rfl) M.tuple (by decide +kernel) (pa_cons (pe_revL (pv 2)) pa_nil)) (pa_cons (pe_callTy call_tuple_of (by rfl) M.tuple (by decide +kernel) (pa_cons (pe_revL (pv 3)) pa_nil)) pa_nil))))))))), ?_⟩
    refine ⟨.int e, rfl, by show 1 ≤ sizeLine; decide, fun A1 n1 => ⟨Nat.zero_le _, fun B n2 => ?_⟩⟩
    have s2 := (same_new (o := .lst [.int e]) n1).trans (same_new (o := .lst []) n2)
    have hAB : A1 ≠ B := ne_of_none upd_same n2
    have hA2 : (upd (upd H A1 (.lst [.int e])) B (.lst [])) A1 = some (.lst [.int e]) := by rw [upd_ne hAB]; exact upd_same
    have hB2 : (upd (upd H A1 (.lst [.int e])) B (.lst [])) B = some (.lst []) := upd_same
    have nBH : H B = none := (same_new n1).free n2
    generalize upd (upd H A1 (.lst [.int e])) B (.lst []) = H2 at s2 hA2 hB2
    -- an entry, read
    have get : ∀ (H' : Hp) (x : Int) (j : Nat) (g : Option (Int × Int)), Same H H' → (x, j, g) ∈ ws → ∃ a, DGet H' D (.int x) (some (.ref a)) ∧ H' a = some (.tup (weL (x, j, g))) := fun H' x j g s3 hx => by
      obtain ⟨kvs, h1, h2⟩ := hw.same s3
      obtain ⟨a, e1, e2⟩ := wes_some h2 wf.nd hx
      exact ⟨a, by rw [← e1]; exact DGet.k (k := Sum.inl x) h1, e2⟩
    let aV : Option (Int × Int) → V := fun g => match g with | none => .non | some z => .int z.1
    let nV : Option (Int × Int) → V := fun g => match g with | none => .non | some z => .int z.2
    have wl : ∀ (x : Int) (j : Nat) (g : Option (Int × Int)), weL (x, j, g) = [.int (j : Nat), aV g, nV g] := fun x j g => by cases g <;> rfl
    obtain ⟨a0, g0, h0⟩ := get H2 e k f s2 he
    rw [wl] at h0
    refine ⟨.ref D, rfl, .int e, rfl, D, _, rfl, g0, a0, _, rfl, SqT.of h0, rfl, _, _, rfl, _, _, rfl, _, _, rfl, rfl, ?_⟩
    refine ⟨fun j σ' H' => ∃ (c : Int) (g : Option (Int × Int)) (qs ns : List Int), σ' = [some (.int e), some (.ref D), some (.ref A1), some (.ref B), some (.int (j : Nat)), some (aV g), some (nV g)] ∧ (c, j, g) ∈ ws ∧ H' A1 = some (.lst (qs.reverse.map V.int)) ∧ H' B = some (.lst (ns.reverse.map V.int)) ∧ Same H H' ∧ Way N e c qs ns ∧ ns.length + j = k ∧ (∀ qs' ns', Bk ws c (c :: qs') ns' → Bk ws e (qs.reverse ++ qs') (ns.reverse ++ ns')) ∧ ∀ x ∈ qs, ∃ i g, (x, i, g) ∈ ws ∧ j ≤ i, ⟨k, e, f, [e], [], rfl, he, hA2, hB2, s2, .one, by simp, fun _ _ h => h, fun x hx => ⟨k, f, by rw [List.mem_singleton.mp hx]; exact he, Nat.le_refl _⟩⟩, ?_⟩
    clear hA2 hB2 s2 n2 h0 g0
    rintro j σ' H1 ⟨c, g, qs, ns, rfl, hc, hA, hB, s3, way, hl, bk, lev⟩
    have lq := way.len
    refine ⟨aV g, rfl, rfl, _, rfl, ?_⟩
    cases g with
    | some z =>
      obtain ⟨p, m⟩ := z
      obtain ⟨i, g', hp, hj, hm⟩ := wf.par _ _ _ _ hc
      refine ⟨fun σ' H' => ∃ j', j' < j ∧ ∃ (c : Int) (g : Option (Int × Int)) (qs ns : List Int), σ' = [some (.int e), some (.ref D), some (.ref A1), some (.ref B), some (.int (j' : Nat)), some (aV g), some (nV g)] ∧ (c, j', g) ∈ ws ∧ H' A1 = some (.lst (qs.reverse.map V.int)) ∧ H' B = some (.lst (ns.reverse.map V.int)) ∧ Same H H' ∧ Way N e c qs ns ∧ ns.length + j' = k ∧ (∀ qs' ns', Bk ws c (c :: qs') ns' → Bk ws e (qs.reverse ++ qs') (ns.reverse ++ ns')) ∧ ∀ x ∈ qs, ∃ i g, (x, i, g) ∈ ws ∧ j' ≤ i, fun _ _ h => h, ?_⟩
      refine ⟨.ref A1, rfl, .inl ⟨rfl, _, SqL.of hA⟩, .int p, rfl, A1, _, _, rfl, rfl, hA, by rw [List.length_map, List.length_reverse]; exact small1000 (by omega), ?_⟩
      have hB2 : (upd H1 A1 (.lst (qs.reverse.map V.int ++ [.int p]))) B = some (.lst (ns.reverse.map V.int)) := by rw [upd_ne (Ne.symm hAB)]; exact hB
      refine ⟨.ref B, rfl, .inl ⟨rfl, _, SqL.of hB2⟩, .int m, rfl, B, _, _, rfl, rfl, hB2, by rw [List.length_map, List.length_reverse]; exact small1000 (by omega), ?_⟩
      have s4 : Same H (upd (upd H1 A1 (.lst (qs.reverse.map V.int ++ [.int p]))) B (.lst (ns.reverse.map V.int ++ [.int m]))) := Same.mut (Same.mut s3 n1) nBH
      obtain ⟨a1, g1, h1⟩ := get _ p i g' s4 hp
      rw [wl] at h1
      refine ⟨.ref D, rfl, .int p, rfl, D, _, rfl, g1, a1, _, rfl, SqT.of h1, rfl, _, _, rfl, _, _, rfl, _, _, rfl, rfl, ?_⟩
      refine ⟨i, by omega, p, g', p :: qs, m :: ns, rfl, hp, ?_, ?_, s4, .cons way hm (fun hin => ?_), by rw [List.length_cons]; omega, fun qs' ns' hb => ?_, fun x hx => ?_⟩
      · rw [upd_ne hAB, upd_same, List.reverse_cons, List.map_append]
        rfl
      · rw [upd_same, List.reverse_cons, List.map_append]
        rfl
      · obtain ⟨i', g'', hx, hle⟩ := lev p hin
        have := (we_one wf.nd hp hx).1
        omega
      · have := bk _ _ (.step hc hb)
        rw [List.reverse_cons, List.reverse_cons, List.append_assoc, List.append_assoc]
        exact this
      · rcases List.mem_cons.mp hx with z | z
        · exact ⟨i, g', by rw [z]; exact hp, Nat.le_refl _⟩
        · obtain ⟨i', g'', h2, h3⟩ := lev x z
          exact ⟨i', g'', h2, by omega⟩
    | none =>
      obtain ⟨rfl, rfl⟩ := wf.non _ _ hc
      refine ⟨.ref A1, rfl, A1, _, rfl, SqL.of hA, fun p1 m1 => ⟨p1, _, rfl, .inl ⟨SqL.of upd_same, fun r1 m2 => ?_⟩⟩⟩
      have e1 := (same_new (o := .lst (qs.reverse.map V.int).reverse) m1)
      have e2 := (same_new (o := .tup (qs.reverse.map V.int).reverse) m2)
      have hB2 := e2 _ _ (e1 _ _ hB)
      refine ⟨.ref B, rfl, B, _, rfl, SqL.of hB2, fun p3 m3 => ⟨p3, _, rfl, .inl ⟨SqL.of upd_same, fun r2 m4 => ⟨by show 2 ≤ sizeLine; decide, fun r m5 => ?_⟩⟩⟩⟩
      have e3 := (same_new (o := .lst (ns.reverse.map V.int).reverse) m3)
      have e4 := (same_new (o := .tup (ns.reverse.map V.int).reverse) m4)
      have e5 := (same_new (o := .tup [.ref r1, .ref r2]) m5)
      have rr : ∀ xs : List Int, (xs.reverse.map V.int).reverse = xs.map V.int := fun xs => by rw [List.map_reverse, List.reverse_reverse]
      refine q r r1 r2 qs ns _ ((((s3.trans e1).trans e2).trans e3).trans e4 |>.trans e5) upd_same ?_ ?_ way ⟨ws, wf, by have := bk [] [] (.stop hc); rw [List.append_nil, List.append_nil] at this; exact this⟩ hl
      · rw [e5 _ _ (e4 _ _ (e3 _ _ upd_same)), rr]
      · rw [e5 _ _ upd_same, rr]
end
/-! ### min of a list of pairs -/
def PV2 (H : Hp) (v : V) (q : Int × Int) : Prop := ∃ a, v = .ref a ∧ H a = some (.tup [.int q.1, .int q.2])
def lexle (p q : Int × Int) : Prop := p.1 < q.1 ∨ (p.1 = q.1 ∧ p.2 ≤ q.2)
theorem lexle_of_not {p q : Int × Int} (h : PySem.W.DatumOrd.lt q p = false) : lexle p q := by
  have h : (if q.1 = p.1 then decide (q.2 < p.2) else decide (q.1 < p.1)) = false := h
  unfold lexle
  split at h
  · have := of_decide_eq_false h
    omega
  · have := of_decide_eq_false h
    omega
theorem lexle_of {p q : Int × Int} (h : PySem.W.DatumOrd.lt p q = true) : lexle p q := by
  have h : (if p.1 = q.1 then decide (p.2 < q.2) else decide (p.1 < q.1)) = true := h
  unfold lexle
  split at h
  · have := of_decide_eq_true h
    omega
  · have := of_decide_eq_true h
    omega
theorem lexle_trans {p q r : Int × Int} (h : lexle p q) (g : lexle q r) : lexle p r := by
  unfold lexle at *
  omega
theorem minOf_spec : ∀ (ps : List (Int × Int)) (p : Int × Int), PySem.W.minOf p ps ∈ p :: ps ∧ ∀ q ∈ p :: ps, lexle (PySem.W.minOf p ps) q
  | [], p => ⟨by simp [PySem.W.minOf], fun q hq => by rw [List.mem_singleton.mp hq]; exact .inr ⟨rfl, Int.le_refl _⟩⟩
  | x :: ps, p => by
    have e : PySem.W.minOf p (x :: ps) = PySem.W.minOf (if PySem.W.DatumOrd.lt x p = true then x else p) ps := rfl
    rw [e]
    cases h : PySem.W.DatumOrd.lt x p with
    | true =>
      obtain ⟨h1, h2⟩ := minOf_spec ps x
      rw [if_pos rfl]
      refine ⟨List.mem_cons_of_mem _ h1, fun q hq => ?_⟩
      rcases List.mem_cons.mp hq with z | z
      · rw [z]
        exact lexle_trans (h2 x (by simp)) (lexle_of h)
      · exact h2 q z
    | false =>
      obtain ⟨h1, h2⟩ := minOf_spec ps p
      rw [if_neg (by simp)]
      refine ⟨?_, fun q hq => ?_⟩
      · rcases List.mem_cons.mp h1 with z | z
        · rw [z]
          simp
        · exact List.mem_cons_of_mem _ (List.mem_cons_of_mem _ z)
      · rcases List.mem_cons.mp hq with z | z
        · rw [z]
          exact h2 p (by simp)
        · rcases List.mem_cons.mp z with y | y
          · rw [y]
            exact lexle_trans (h2 p (by simp)) (lexle_of_not h)
          · exact h2 q (List.mem_cons_of_mem _ y)
def pD (p : Int × Int) : PyData := .tuple [.int p.1, .int p.2]
theorem dp_pairs {K : PySem.W.Frag} {H : Hp} : ∀ {xs : List V} {ps : List (Int × Int)}, Paired (PV2 H) xs ps → DpAll K H xs (ps.map pD)
  | _, _, .nil => .nil
  | _, _, .cons r t => by
    obtain ⟨a, rfl, e⟩ := r
    exact .cons (.tup (SqT.of e) (.cons (.int _) (.cons (.int _) .nil))) (dp_pairs t)
theorem deep_pairs : ∀ ps : List (Int × Int), PyData.depthAll (ps.map pD) ≤ 1
  | [] => by simp [PyData.depthAll]
  | p :: ps => by
    have h := deep_pairs ps
    have g : (pD p).depth = 1 := by simp [pD, PyData.depth, PyData.depthAll]
    rw [List.map_cons, PyData.depthAll, g]
    omega
def rMinP (K : PySem.W.Frag) : List V → Hp → VK → Prop := fun vs H Q => ∃ (a : Addr) (xs : List V) (ps : List (Int × Int)), vs = [V.ref a] ∧ SqL K H a xs ∧ Paired (PV2 H) xs ps ∧ ps ≠ [] ∧ ∀ x p, PV2 H x p → p ∈ ps → (∀ q ∈ ps, lexle p q) → Q x H
theorem cr_minP {X : Cx} (hc : X.calm = true) (hu : X.A.units + 65 < cLine) : CallR X (.builtin "min") (rMinP X.K) := by
  intro pins s σ H vs us Q I r h
  obtain ⟨a, xs, ps, rfl, hs, hp, hne, q⟩ := h
  obtain ⟨its, rv, hl, _⟩ := I.list hs
  rw [Vals.ref1 r]
  obtain ⟨p0, ps', rfl⟩ := List.exists_cons_of_ne_nil hne
  obtain ⟨as, hr⟩ := Dp.readsAll I _ _ _ (dp_pairs (K := X.K) hp) rv
  have hr' : ReadsAll s.heap its.toArray.toList (pD p0 :: ps'.map pD) as := hr
  refine PySem.W.min_list_data (I.ok.hd hc) hl.isList hr' (PySem.W.alikeAll_datum (p0 :: ps')) (by have := deep_pairs (p0 :: ps'); rw [List.map_cons] at this; omega) fun i v h' tk bs hv rd hk => ?_
  have em : PySem.W.minD (pD p0) (ps'.map pD) = pD (PySem.W.minOf p0 ps') := PySem.W.minD_map p0 ps'
  rw [em] at rd
  have hv' : its[i]? = some v := by simpa using hv
  obtain ⟨x, ex, rx⟩ := Paired.at' rv hv'
  obtain ⟨p, ep, t, rfl, ht⟩ := Paired.at hp ex
  obtain ⟨cs, rd2, _⟩ := PySem.W.readsAll_atA hr' i v hv
  have eg : (pD p0 :: ps'.map pD).getD i .none = pD p := by
    have : ((p0 :: ps').map pD)[i]? = some (pD p) := by rw [List.getElem?_map, ep]; rfl
    rw [List.getD_eq_getElem?_getD]
    rw [List.map_cons] at this
    rw [this]
    rfl
  rw [eg] at rd2
  have lay : (pD p).canLay0 = true := by simp [pD, PyData.canLay0, PyData.canLayAll0]
  have eq := PySem.SeqAt.Reads.unique _ _ _ _ _ lay (PySem.W.reads_keeps hk rd2) rd
  have ep2 : p = PySem.W.minOf p0 ps' := by
    unfold pD at eq
    injection eq with eq
    injection eq with e1 e2
    injection e2 with e2 _
    injection e1 with e1
    injection e2 with e2
    exact Prod.ext e1 e2
  obtain ⟨m1, m2⟩ := minOf_spec ps' p0
  exact ⟨.ref t, H, I.kept hk, rx, q _ p ⟨t, rfl, ht⟩ (List.mem_of_getElem? ep) (by rw [ep2]; exact m2)⟩
def bI (b : Bool) : Int := if b = true then 1 else 0
/-! ### doubled webs -/
def dblA (t : Tie) : Tie := ⟨2 * t.one, 2 * t.other + bI t.foe, false⟩
def dblB (t : Tie) : Tie := ⟨2 * t.one + 1, 2 * t.other + 1 - bI t.foe, false⟩
def dbl : List Tie → List Tie
  | [] => []
  | t :: ts => dblA t :: dblB t :: dbl ts
theorem dbl_len : ∀ ts, (dbl ts).length = 2 * ts.length
  | [] => rfl
  | t :: ts => by
    show (dbl ts).length + 1 + 1 = _
    rw [dbl_len ts, List.length_cons]
    omega
theorem dbl_snoc (t : Tie) : ∀ ts, dbl (ts ++ [t]) = dbl ts ++ [dblA t, dblB t]
  | [] => rfl
  | x :: ts => by
    show dblA x :: dblB x :: dbl (ts ++ [t]) = _
    rw [dbl_snoc t ts]
    rfl
theorem dbl_get : ∀ (ts : List Tie) (i : Nat), (dbl ts)[2 * i]? = (ts[i]?).map dblA ∧ (dbl ts)[2 * i + 1]? = (ts[i]?).map dblB
  | [], i => by simp [dbl]
  | t :: ts, 0 => ⟨rfl, rfl⟩
  | t :: ts, i + 1 => by
    have h := dbl_get ts i
    have e1 : 2 * (i + 1) = 2 * i + 1 + 1 := by omega
    rw [e1]
    exact ⟨by simpa [dbl] using h.1, by simpa [dbl] using h.2⟩
theorem bI01 (b : Bool) : bI b = 0 ∨ bI b = 1 := by unfold bI; cases b <;> simp
theorem dbl_ok {n : Nat} : ∀ {ts : List Tie}, (∀ t ∈ ts, TieOk n t) → ∀ t ∈ dbl ts, TieOk (2 * (n : Int)) t
  | [], _ => fun t ht => by cases ht
  | x :: ts, h => fun t ht => by
    have o := h x (by simp)
    have b := bI01 x.foe
    obtain ⟨o1, o2, o3, o4, o5⟩ := o
    rcases List.mem_cons.mp ht with z | z
    · rw [z]
      exact ⟨by show 0 ≤ 2 * x.one; omega, by show 2 * x.one < _; omega, by show 0 ≤ 2 * x.other + bI x.foe; omega, by show 2 * x.other + bI x.foe < _; omega, by show 2 * x.one ≠ 2 * x.other + bI x.foe; omega⟩
    · rcases List.mem_cons.mp z with y | y
      · rw [y]
        exact ⟨by show 0 ≤ 2 * x.one + 1; omega, by show 2 * x.one + 1 < _; omega, by show 0 ≤ 2 * x.other + 1 - bI x.foe; omega, by show 2 * x.other + 1 - bI x.foe < _; omega, by show 2 * x.one + 1 ≠ 2 * x.other + 1 - bI x.foe; omega⟩
      · exact dbl_ok (fun t ht => h t (List.mem_cons_of_mem _ ht)) t y
theorem cut_last {xs : List V} : cutV xs none (some (-1)) = xs.dropLast := by
  unfold cutV
  rw [HT.sIx_none]
  have : HT.sIx xs.length xs.length (some (-1)) = xs.length - 1 := by
    unfold HT.sIx
    simp
    omega
  rw [this, List.drop_zero, List.dropLast_eq_take]
  rfl
def lvW (ws : List We) (x : Int) : Option Nat := (ws.find? fun e => decide (e.1 = x)).map (·.2.1)
theorem lvW_some {ws : List We} (nd : (ws.map (·.1)).Nodup) {x : Int} {k : Nat} {f : Option (Int × Int)} (h : (x, k, f) ∈ ws) : lvW ws x = some k := by
  induction ws with
  | nil => cases h
  | cons e ws ih =>
    rw [List.map_cons, List.nodup_cons] at nd
    unfold lvW at ih ⊢
    rw [List.find?_cons]
    rcases List.mem_cons.mp h with z | z
    · subst z
      simp
    · have ne : ¬ e.1 = x := fun y => nd.1 (by rw [y]; exact List.mem_map.mpr ⟨_, z, rfl⟩)
      rw [decide_eq_false ne]
      exact ih nd.2 z
theorem lvW_none {ws : List We} {x : Int} (h : x ∉ ws.map (·.1)) : lvW ws x = none := by
  induction ws with
  | nil => rfl
  | cons e ws ih =>
    rw [List.map_cons, List.mem_cons, not_or] at h
    unfold lvW at ih ⊢
    rw [List.find?_cons, decide_eq_false (fun z => h.1 z.symm)]
    exact ih h.2
def rowW (ws : List We) (far : Int) (m : Nat) : List Int := (List.range m).map fun x : Nat => ((lvW ws (x : Int)).map fun k : Nat => (k : Int)).getD far
def spDoubled : Sp := fun vs H Q _ => ∃ (wv : V) (n : Nat) (ts : List Tie), vs = [wv] ∧ WebAt H wv n ts ∧ WebOk n ts ∧ ∀ v H', Same H H' → WebAt H' v (2 * (n : Int)) (dbl ts) → Q v H'
def spHalved : Sp := fun vs H Q _ => ∃ (r a b : Addr) (qs ns : List Int), vs = [.ref r] ∧ H r = some (.tup [.ref a, .ref b]) ∧ H a = some (.tup (qs.map V.int)) ∧ H b = some (.tup (ns.map V.int)) ∧ qs.length ≤ 200 ∧ ns.length ≤ 200 ∧ ∀ r' a' b' H', Same H H' → H' r' = some (.tup [.ref a', .ref b']) → NoD H' a' ((qs.dropLast.map (· / 2)).map V.int) → NoD H' b' ((ns.map (· / 2)).map V.int) → Q (.ref r') H'
def spRowOf : Sp := fun vs H Q _ => ∃ (m : Nat) (D : Addr) (far : Int) (ws : List We), vs = [.int m, .ref D, .int far] ∧ m ≤ 100 ∧ WalkAt H D ws ∧ (ws.map (·.1)).Nodup ∧ ∀ r H', Same H H' → H' r = some (.tup ((rowW ws far m).map V.int)) → Q (.ref r) H'
section
variable {P : Program} {w : World} {K : PySem.W.Frag} {mg : Str → Option Value} {base : Heap}
theorem ok_doubled {f : Addr} {fd : FuncData} (F : Fun K "doubled" "doubled" s_doubled f fd) (M : Free mg) : FnOk P w K mg base CX0 1 f fd ["web"] spDoubled := by
  refine F.ok sc_doubled (fun vs H Q E h => ?_) (fun cdv A outer s H vs Q E hr h => ?_)
  · obtain ⟨wv, n, ts, rfl, _⟩ := h
    rfl
  · obtain ⟨wv, n, ts, rfl, hW, ok, q⟩ := h
    refine ⟨_, (pss_cons (ps_set (i := 1) sc_doubled.nd rfl (.inl rfl) (pe_lst pa_nil))
      (pss_cons (ps_for PassesOwn.never rfl (pi_tup (pe_ix ix_tup (pv 0) pe_int (fun _ _ => rfl))) (pg_tup rfl (pgs_cons (pg_name (i := 2) sc_doubled.nd rfl (.inl rfl)) (pgs_cons (pg_name (i := 3) sc_doubled.nd rfl (.inl rfl)) (pgs_cons (pg_name (i := 4) sc_doubled.nd rfl (.inl rfl)) pgs_nil))))
        (Evl.pss_cut (ps_set (i := 5) sc_doubled.nd rfl (.inl rfl) (pe_ifExp (pt_cmpR op_eq (pv 4) pe_str (nomark _)) pe_int pe_int))
        (pss_cons (ps_expr (pe_bm PySem.F.plainAttrs_list PySem.F.slot_list_append PySem.F.type_list_append mt_append (pv 1) (pa_cons (pe_tup (pa_cons (pe_op op_mul pe_int (pv 2)) (pa_cons (pe_op op_add (pe_op op_mul pe_int (pv 3)) (pv 5)) (pa_cons pe_str pa_nil)))) pa_nil)))
        (pss_one (ps_expr (pe_bm PySem.F.plainAttrs_list PySem.F.slot_list_append PySem.F.type_list_append mt_append (pv 1) (pa_cons (pe_tup (pa_cons (pe_op op_add (pe_op op_mul pe_int (pv 2)) pe_int) (pa_cons (pe_op op_sub (pe_op op_add (pe_op op_mul pe_int (pv 3)) pe_int) (pv 5)) (pa_cons pe_str pa_nil)))) pa_nil)))))))
      (pss_one (ps_ret (pe_tup (pa_cons (pe_op op_mul pe_int (pe_ix ix_tup (pv 0) pe_int (fun _ _ => rfl))) (pa_cons (pe_callTy call_tuple_of (by rfl) M.tuple (by decide +kernel) (pa_cons (pv 1) pa_nil)) pa_nil))))))), ?_⟩
    obtain ⟨wa, wb, us, rfl, hwa, hwb, hp⟩ := id hW
    have few := ok.few
    have lu : us.length = ts.length := Paired.length hp
    refine ⟨Nat.zero_le _, fun L nL => ?_⟩
    have eL := same_new (o := .lst []) nL
    refine ⟨.ref wa, rfl, wa, _, 1, .ref wb, rfl, rfl, SqT.of (eL _ _ hwa), rfl, wb, rfl, ⟨_, SqT.of (eL _ _ hwb)⟩, ?_⟩
    refine for_tup (xs := us) (fun i σ' H' => ∃ (y2 y3 y4 y5 : Option V) (vs : List V), σ' = [some (.ref wa), some (.ref L), y2, y3, y4, y5] ∧ H' L = some (.lst vs) ∧ Paired (TieV H') vs (dbl (ts.take i)) ∧ Same H H') ⟨none, none, none, none, [], rfl, upd_same, .nil, eL⟩ (fun i σ' H' _ h => by
      obtain ⟨_, _, _, _, _, _, _, _, s⟩ := h
      exact SqT.of (s _ _ hwb)) ?_ ?_
    · rintro i x σ' H1 ex ⟨y2, y3, y4, y5, vs, rfl, hL, hpv, s1⟩
      obtain ⟨t, et, c, rfl, hc⟩ := Paired.at hp ex
      have ek : decide (V.str (kindS t.foe) = V.str "foe") = t.foe := by cases t.foe <;> decide +kernel
      have lv := Paired.length hpv
      rw [dbl_len, List.length_take] at lv
      refine ⟨c, _, rfl, SqT.of (s1 _ _ hc), rfl, _, _, rfl, _, _, rfl, _, _, rfl, rfl, ?_⟩
      refine ⟨fun σ' H' => σ' = [some (.ref wa), some (.ref L), some (.int t.one), some (.int t.other), some (.str (kindS t.foe)), some (.int (bI t.foe))] ∧ H' = H1, ?_, ?_⟩
      · refine ⟨.str (kindS t.foe), rfl, rfl, _, rfl, ?_⟩
        rw [ek]
        cases t.foe
        · exact ⟨rfl, rfl⟩
        · exact ⟨rfl, rfl⟩
      rintro σ' H' ⟨rfl, eH⟩
      subst eH
      refine ⟨.ref L, rfl, .inl ⟨rfl, _, SqL.of hL⟩, .int t.one, rfl, 2, t.one, rfl, rfl, .inl ⟨by decide, by decide⟩, .int t.other, rfl, 2, t.other, rfl, rfl, .inl ⟨by decide, by decide⟩, .int (bI t.foe), rfl, _, _, rfl, rfl, by show 3 ≤ sizeLine; decide, fun c1 n1 => ?_⟩
      have e1 := same_new (o := .tup [.int (2 * t.one), .int (2 * t.other + bI t.foe), .str "friend"]) n1
      refine ⟨L, vs, _, rfl, rfl, e1 _ _ hL, small1000 (by omega), ?_⟩
      have tk1 := tk_lst (ys := vs ++ [.ref c1]) (e1 _ _ hL)
      have hL2 : (upd (upd H' c1 (.tup [.int (2 * t.one), .int (2 * t.other + bI t.foe), .str "friend"])) L (.lst (vs ++ [.ref c1]))) L = some (.lst (vs ++ [.ref c1])) := upd_same
      have hp2 : Paired (TieV (upd (upd H' c1 (.tup [.int (2 * t.one), .int (2 * t.other + bI t.foe), .str "friend"])) L (.lst (vs ++ [.ref c1])))) (vs ++ [.ref c1]) (dbl (ts.take i) ++ [dblA t]) := Paired.snoc (ties_tk ((Same.tk e1).trans tk1) hpv) ⟨c1, rfl, tk1 _ _ upd_same⟩
      have s2 := Same.mut (o := .lst (vs ++ [.ref c1])) (s1.trans e1) nL
      generalize upd (upd H' c1 (.tup [.int (2 * t.one), .int (2 * t.other + bI t.foe), .str "friend"])) L (.lst (vs ++ [.ref c1])) = H2 at hL2 hp2 s2
      refine ⟨.ref L, rfl, .inl ⟨rfl, _, SqL.of hL2⟩, .int t.one, rfl, 2, t.one, rfl, rfl, .inl ⟨by decide, by decide⟩, _, 1, rfl, rfl, .int t.other, rfl, 2, t.other, rfl, rfl, .inl ⟨by decide, by decide⟩, _, 1, rfl, rfl, .int (bI t.foe), rfl, _, _, rfl, rfl, by show 3 ≤ sizeLine; decide, fun c2 n2 => ?_⟩
      have e2 := same_new (o := .tup [.int (2 * t.one + 1), .int (2 * t.other + 1 - bI t.foe), .str "friend"]) n2
      refine ⟨L, _, _, rfl, rfl, e2 _ _ hL2, small1000 (by rw [List.length_append]; show vs.length + 1 ≤ _; omega), ?_⟩
      have tk2 := tk_lst (ys := (vs ++ [.ref c1]) ++ [.ref c2]) (e2 _ _ hL2)
      refine ⟨_, _, _, _, _, rfl, upd_same, ?_, Same.mut (s2.trans e2) nL⟩
      have e3 : dbl (ts.take (i + 1)) = (dbl (ts.take i) ++ [dblA t]) ++ [dblB t] := by rw [take_snoc et, dbl_snoc, List.append_assoc]; rfl
      rw [e3]
      exact Paired.snoc (ties_tk ((Same.tk e2).trans tk2) hp2) ⟨c2, rfl, tk2 _ _ upd_same⟩
    · rintro σ' H1 ⟨y2, y3, y4, y5, vs, rfl, hL, hpv, s1⟩
      rw [lu, List.take_length] at hpv
      refine ⟨.ref wa, rfl, wa, _, 0, .int n, rfl, rfl, SqT.of (s1 _ _ hwa), rfl, 2, n, rfl, rfl, .inl ⟨by decide, by decide⟩, .ref L, rfl, L, _, rfl, .inl ⟨SqL.of hL, fun B nB => ⟨by show 2 ≤ sizeLine; decide, fun r nr => ?_⟩⟩⟩
      have e2 := (same_new (o := .tup vs) nB).trans (same_new (o := .tup [.int (2 * (n : Int)), .ref B]) nr)
      exact q _ _ (s1.trans e2) ⟨r, B, vs, rfl, upd_same, same_new nr _ _ upd_same, ties_tk (Same.tk e2) hpv⟩
theorem ok_halved {f : Addr} {fd : FuncData} (F : Fun K "halved" "halved" s_halved f fd) (M : Free mg) : FnOk P w K mg base CX0 1 f fd ["way"] spHalved := by
  refine F.ok sc_halved (fun vs H Q E h => ?_) (fun cdv A outer s H vs Q E hr h => ?_)
  · obtain ⟨r, a, b, qs, ns, rfl, _⟩ := h
    rfl
  · obtain ⟨r, a, b, qs, ns, rfl, hr0, ha, hb, lq, ln, q⟩ := h
    refine ⟨_, (pss_cons (ps_asg (pv 0) (pg_tup rfl (pgs_cons (pg_name (i := 1) sc_halved.nd rfl (.inl rfl)) (pgs_cons (pg_name (i := 2) sc_halved.nd rfl (.inl rfl)) pgs_nil))))
      (pss_one (ps_ret (pe_tup (pa_cons (pe_callTy call_tuple_ofZ (by rfl) M.tuple (by decide +kernel) (pa_cons (pe_lc (own := [("place", 3)]) (g := (gName 3)) (tt := tYes) rfl sc_halved.nd (pi_tup (pe_slice sl_tupU (pv 1) po_none (po_some (pe_un un_neg pe_int)))) (blkOk_by (N := N_halved) (sc := defScope s_halved) (own := [("place", 3)]) (by decide +kernel)) (fun _ _ _ _ _ => (pg_name (i := 3) sc_halved.nd rfl (.inl rfl))) (fun _ _ _ _ _ => pts_nil) (fun _ _ _ _ _ => (pe_op op_fdiv (pv 3) pe_int))) pa_nil)) (pa_cons (pe_callTy call_tuple_ofZ (by rfl) M.tuple (by decide +kernel) (pa_cons (pe_lc (own := [("tie", 4)]) (g := (gName 4)) (tt := tYes) rfl sc_halved.nd (pi_tup (pv 2)) (blkOk_by (N := N_halved) (sc := defScope s_halved) (own := [("tie", 4)]) (by decide +kernel)) (fun _ _ _ _ _ => (pg_name (i := 4) sc_halved.nd rfl (.inl rfl))) (fun _ _ _ _ _ => pts_nil) (fun _ _ _ _ _ => (pe_op op_fdiv (pv 4) pe_int))) pa_nil)) pa_nil)))))), ?_⟩
    refine ⟨.ref r, rfl, r, _, rfl, SqT.of hr0, rfl, _, _, rfl, _, _, rfl, rfl, ?_⟩
    refine ⟨.ref a, rfl, 1, rfl, -1, rfl, a, _, rfl, ha, fun r1 H1 s1 h1 => ⟨r1, rfl, ⟨_, SqT.of h1⟩, fun Z nZ => ?_⟩⟩
    rw [cut_last, ← List.map_dropLast] at h1
    have ld : qs.dropLast.length ≤ 200 := by rw [List.length_dropLast]; omega
    refine lc_tup (xs := qs.dropLast.map V.int) (fun j H' => H' Z = some (.lst (((qs.dropLast.take j).map (· / 2)).map V.int)) ∧ Same H1 H') ⟨upd_same, same_new nZ⟩ (fun j H' _ h => SqT.of (h.2 _ _ h1)) ?_ ?_
    · rintro j x H2 ex ⟨hZ, s2⟩
      rw [List.getElem?_map] at ex
      obtain ⟨y, ey, rfl⟩ := Option.map_eq_some_iff.mp ex
      refine ⟨rfl, .int y, rfl, y, 2, rfl, rfl, ⟨by decide, by decide⟩, _, hZ, by rw [List.length_map, List.length_map, List.length_take]; exact small1000 (by omega), ?_, Same.mut s2 nZ⟩
      rw [upd_same, take_snoc ey, List.map_append, List.map_append]
      rfl
    · rintro H2 ⟨hZ, s2⟩
      rw [List.length_map, List.take_length] at hZ
      refine ⟨Z, _, rfl, SqL.of hZ, fun A1 o1 od1 n1 => ?_⟩
      have e1 := same_new (o := .frz o1 (.tup ((qs.dropLast.map (· / 2)).map V.int))) n1
      have s3 := (s1.trans s2).trans e1
      have hA1 := upd_same (H := H2) (a := A1) (o := .frz o1 (.tup ((qs.dropLast.map (· / 2)).map V.int)))
      generalize upd H2 A1 (.frz o1 (.tup ((qs.dropLast.map (· / 2)).map V.int))) = H3 at s3 hA1
      refine ⟨.ref b, rfl, b, rfl, ⟨_, SqT.of (s3 _ _ hb)⟩, fun Y nY => ?_⟩
      refine lc_tup (xs := ns.map V.int) (fun j H' => H' Y = some (.lst (((ns.take j).map (· / 2)).map V.int)) ∧ Same H3 H') ⟨upd_same, same_new nY⟩ (fun j H' _ h => SqT.of (h.2 _ _ (s3 _ _ hb))) ?_ ?_
      · rintro j x H4 ex ⟨hY, s4⟩
        rw [List.getElem?_map] at ex
        obtain ⟨y, ey, rfl⟩ := Option.map_eq_some_iff.mp ex
        refine ⟨rfl, .int y, rfl, y, 2, rfl, rfl, ⟨by decide, by decide⟩, _, hY, by rw [List.length_map, List.length_map, List.length_take]; exact small1000 (by omega), ?_, Same.mut s4 nY⟩
        rw [upd_same, take_snoc ey, List.map_append, List.map_append]
        rfl
      · rintro H4 ⟨hY, s4⟩
        rw [List.length_map, List.take_length] at hY
        refine ⟨Y, _, rfl, SqL.of hY, fun B1 o2 od2 n2 => ⟨by show 2 ≤ sizeLine; decide, fun r' nr => ?_⟩⟩
        have e2 := same_new (o := .frz o2 (.tup ((ns.map (· / 2)).map V.int))) n2
        have e3 := same_new (o := .tup [.ref A1, .ref B1]) nr
        exact q r' A1 B1 _ (((s3.trans s4).trans e2).trans e3) upd_same ⟨o1, od1, e3 _ _ (e2 _ _ (s4 _ _ hA1))⟩ ⟨o2, od2, e3 _ _ upd_same⟩
theorem ok_row_of {f : Addr} {fd : FuncData} (F : Fun K "row_of" "row_of" s_row_of f fd) (M : Free mg) : FnOk P w K mg base CX0 1 f fd ["many", "walk", "far"] spRowOf := by
  refine F.ok sc_row_of (fun vs H Q E h => ?_) (fun cdv A outer s H vs Q E hr h => ?_)
  · obtain ⟨m, D, far, ws, rfl, _⟩ := h
    rfl
  · obtain ⟨m, D, far, ws, rfl, hm, hw, nd, q⟩ := h
    have hu := room1 hr
    refine ⟨_, (pss_one (ps_ret (pe_callTy call_tuple_of (by rfl) M.tuple (by decide +kernel) (pa_cons (pe_lc (own := [("place", 3)]) (g := (gName 3)) (tt := tYes) rfl sc_row_of.nd (pi_range1 (by rfl) M.range (pa_cons (pv 0) pa_nil)) (blkOk_by (N := N_row_of) (sc := defScope s_row_of) (own := [("place", 3)]) (by decide +kernel)) (fun _ _ _ _ _ => (pg_name (i := 3) sc_row_of.nd rfl (.inl rfl))) (fun _ _ _ _ _ => pts_nil) (fun _ _ _ _ _ => (pe_ifExp (pt_cmp (pc_din hu (pv 3) (pv 1))) (pe_ix (r := rIxT K) ix_tup (pe_dget hu (pv 1) (pv 3) (fun _ _ => rfl)) pe_int (fun _ _ => rfl)) (pv 2)))) pa_nil)))), ?_⟩
    refine ⟨.int m, rfl, m, rfl, by omega, by omega, fun Z nZ => ?_⟩
    rw [Int.toNat_natCast]
    refine lc_range (lo := 0) (n := m) (fun j H' => H' Z = some (.lst ((rowW ws far j).map V.int)) ∧ Same H H') ⟨upd_same, same_new nZ⟩ ?_ ?_
    · rintro j H1 hj ⟨hZ, s1⟩
      rw [show (0 : Int) + (j : Nat) = j from by omega]
      obtain ⟨kvs, h1, h2⟩ := hw.same s1
      have fin : ∀ v : Int, ((lvW ws (j : Int)).map fun k : Nat => (k : Int)).getD far = v → ∃ acc, H1 Z = some (.lst acc) ∧ acc.length < sizeLine ∧ ((upd H1 Z (.lst (acc ++ [.int v]))) Z = some (.lst ((rowW ws far (j + 1)).map V.int)) ∧ Same H (upd H1 Z (.lst (acc ++ [.int v])))) := fun v ev => by
        refine ⟨_, hZ, by unfold rowW; rw [List.length_map, List.length_map, List.length_range]; exact small1000 (by omega), ?_, Same.mut s1 nZ⟩
        rw [upd_same, ← ev]
        unfold rowW
        rw [List.range_succ, List.map_append, List.map_append]
        rfl
      refine ⟨rfl, .int j, rfl, .ref D, rfl, D, _, rfl, DGet.k (k := Sum.inl (j : Int)) h1, _, rfl, ?_⟩
      by_cases hin : (j : Int) ∈ ws.map (·.1)
      · obtain ⟨kk, f, he⟩ := we_key hin
        obtain ⟨a, ev, ha⟩ := wes_some h2 nd he
        rw [ev]
        have wl : weL ((j : Int), kk, f) = .int (kk : Nat) :: (weL ((j : Int), kk, f)).tail := by cases f <;> rfl
        rw [wl] at ha
        refine ⟨.ref D, rfl, .int j, rfl, D, _, rfl, (by rw [← ev]; exact DGet.k (k := Sum.inl (j : Int)) h1), a, _, 0, .int (kk : Nat), rfl, rfl, SqT.of ha, at0 _ _, ?_⟩
        exact fin kk (by rw [lvW_some nd he]; rfl)
      · rw [wes_none h2 hin]
        exact ⟨.int far, rfl, fin far (by rw [lvW_none hin]; rfl)⟩
    · rintro H1 ⟨hZ, s1⟩
      exact ⟨Z, _, rfl, .inl ⟨SqL.of hZ, fun r nr => q r _ (s1.trans (same_new nr)) upd_same⟩⟩
end
/-! ### shortest_odd -/
theorem rgV_rng' (n : Nat) : rgV 0 n = lf (fun i => i) n := by
  unfold rgV lf rng
  rw [List.map_map]
  show (List.range ((n : Int) - 0).toNat).map _ = _
  rw [show ((n : Int) - 0).toNat = n from by omega]
  refine List.map_congr_left fun i _ => ?_
  show V.int (0 + (i : Nat)) = V.int ((i : Nat) : Int)
  rw [Int.zero_add]
theorem room65 {k : Nat} {A : PySem.Around} (r : Room k A) : A.units + 65 < cLine := by have := r.un; omega
def dN (ts : List Tie) : Int → List Nu := nN (dbl ts) (rng (dbl ts).length)
def Wks (ts : List Tie) (p : Nat) (ws : List We) : Prop := WF (dN ts) (2 * (p : Int)) ws
def odL (ws : List We) (p : Nat) : Option Nat := lvW ws (2 * (p : Int) + 1)
theorem dN_in {n : Nat} {ts : List Tie} (ok : ∀ t ∈ ts, TieOk n t) {x : Int} {q : Nu} (h : q ∈ dN ts x) : 0 ≤ q.1 ∧ q.1 < 2 * (n : Int) := by
  obtain ⟨h1, h2⟩ := mem_nN.mp h
  have hm := mem_rng.mp h1
  have o := dbl_ok ok (tieN (dbl ts) q.2.toNat) (by
    unfold tieN
    rw [List.getD_eq_getElem?_getD, List.getElem?_eq_getElem (by omega)]
    exact List.getElem_mem _)
  rcases h2 with ⟨_, e⟩ | ⟨e, _⟩
  · rw [← e]
    exact ⟨o.2.2.1, o.2.2.2.1⟩
  · rw [← e]
    exact ⟨o.1, o.2.1⟩
def lens (W : Nat → List We) (j : Nat) : List (Int × Int) := (List.range j).filterMap fun p : Nat => (odL (W p) p).map fun k : Nat => ((k : Int), (p : Int))
theorem lens_succ (W : Nat → List We) (j : Nat) : lens W (j + 1) = lens W j ++ (match odL (W j) j with | some k => [((k : Int), (j : Int))] | none => []) := by
  unfold lens
  rw [List.range_succ, List.filterMap_append]
  cases h : odL (W j) j <;> simp [h]
theorem mem_lens {W : Nat → List We} {n : Nat} {q : Int × Int} : q ∈ lens W n ↔ ∃ p k : Nat, p < n ∧ odL (W p) p = some k ∧ q = ((k : Int), (p : Int)) := by
  unfold lens
  rw [List.mem_filterMap]
  constructor
  · rintro ⟨p, hp, e⟩
    obtain ⟨k, hk, rfl⟩ := Option.map_eq_some_iff.mp e
    exact ⟨p, k, List.mem_range.mp hp, hk, rfl⟩
  · rintro ⟨p, k, hp, hk, rfl⟩
    exact ⟨p, List.mem_range.mpr hp, by rw [hk]; rfl⟩
theorem lens_len (W : Nat → List We) (j : Nat) : (lens W j).length ≤ j := by
  unfold lens
  have := List.length_filterMap_le (fun p : Nat => (odL (W p) p).map fun k : Nat => ((k : Int), (p : Int))) (List.range j)
  rw [List.length_range] at this
  exact this
theorem WF.lev {N : Int → List Nu} {s : Int} {ws : List We} (h : WF N s ws) : ∀ (k : Nat) (y : Int) (f : Option (Int × Int)), (y, k, f) ∈ ws → ∃ l : List Int, l.length = k + 1 ∧ l.Nodup ∧ ∀ x ∈ l, ∃ j g, (x, j, g) ∈ ws ∧ j ≤ k
  | 0, y, f, hy => ⟨[y], rfl, by simp, fun x hx => ⟨0, f, by rw [List.mem_singleton.mp hx]; exact hy, Nat.le_refl _⟩⟩
  | k + 1, y, none, hy => by
    have := (h.non _ _ hy).2
    omega
  | k + 1, y, some (p, m), hy => by
    obtain ⟨j, g, hp, e, _⟩ := h.par _ _ _ _ hy
    have : j = k := by omega
    subst this
    obtain ⟨l, l1, l2, l3⟩ := WF.lev h j p g hp
    refine ⟨y :: l, by rw [List.length_cons, l1], List.nodup_cons.mpr ⟨fun hin => ?_, l2⟩, fun x hx => ?_⟩
    · obtain ⟨i, g', h1, h2⟩ := l3 y hin
      have := (we_one h.nd hy h1).1
      omega
    · rcases List.mem_cons.mp hx with z | z
      · exact ⟨j + 1, _, by rw [z]; exact hy, Nat.le_refl _⟩
      · obtain ⟨i, g', h1, h2⟩ := l3 x z
        exact ⟨i, g', h1, by omega⟩
def spShort : Sp := fun vs H Q _ => ∃ (wv : V) (n : Nat) (ts : List Tie), vs = [wv] ∧ WebAt H wv n ts ∧ WebOk n ts ∧
  (∀ (W : Nat → List We) H', (∀ p, p < n → Wks ts p (W p)) → (∀ p, p < n → odL (W p) p = none) → Same H H' → Q .non H') ∧
  ∀ (W : Nat → List We) (L s : Nat) (qs ns : List Int) (r rg ly a b : Addr) (rows : List V) H', (∀ p, p < n → Wks ts p (W p)) → s < n → odL (W s) s = some L → (∀ p k : Nat, p < n → odL (W p) p = some k → L < k ∨ (L = k ∧ s ≤ p)) → Way (dN ts) (2 * (s : Int) + 1) (2 * (s : Int)) qs ns → Exa (dN ts) (2 * (s : Int)) (2 * (s : Int) + 1) qs ns → ns.length = L → Same H H' → H' r = some (.tup [.ref rg, .ref ly]) → H' rg = some (.tup [.ref a, .ref b]) → NoD H' a ((qs.dropLast.map (· / 2)).map V.int) → NoD H' b ((ns.map (· / 2)).map V.int) → H' ly = some (.tup rows) → Paired (IntsV H') rows ((List.range n).map fun p => rowW (W p) L (2 * n)) → Q (.ref r) H'
section
variable {P : Program} {w : World} {K : PySem.W.Frag} {mg : Str → Option Value} {base : Heap}
theorem ok_shortest_odd {f : Addr} {fd : FuncData} (F : Fun K "shortest_odd" "shortest_odd" s_shortest_odd f fd) (M : Free mg) (m_enumerate : mg "enumerate" = none) (m_min : mg "min" = none) (D_doubled : Df P w K mg base 1 "doubled" ["web"] spDoubled) (D_ties_around : Df P w K mg base 1 "ties_around" ["web", "numbers"] spAround) (D_walk_from : Df P w K mg base 1 "walk_from" ["start", "around"] spWalkFrom) (D_way_to : Df P w K mg base 1 "way_to" ["end", "walk"] spWayTo) (D_halved : Df P w K mg base 1 "halved" ["way"] spHalved) (D_row_of : Df P w K mg base 1 "row_of" ["many", "walk", "far"] spRowOf) : FnOk P w K mg base CX0 2 f fd ["web"] spShort := by
  obtain ⟨f_doubled, fd_doubled, G_doubled, g_doubled, k_doubled, b_doubled⟩ := D_doubled
  obtain ⟨f_ties_around, fd_ties_around, G_ties_around, g_ties_around, k_ties_around, b_ties_around⟩ := D_ties_around
  obtain ⟨f_walk_from, fd_walk_from, G_walk_from, g_walk_from, k_walk_from, b_walk_from⟩ := D_walk_from
  obtain ⟨f_way_to, fd_way_to, G_way_to, g_way_to, k_way_to, b_way_to⟩ := D_way_to
  obtain ⟨f_halved, fd_halved, G_halved, g_halved, k_halved, b_halved⟩ := D_halved
  obtain ⟨f_row_of, fd_row_of, G_row_of, g_row_of, k_row_of, b_row_of⟩ := D_row_of
  refine F.ok sc_shortest_odd (fun vs H Q E h => ?_) (fun cdv A outer s H vs Q E hr h => ?_)
  · obtain ⟨wv, n, ts, rfl, _⟩ := h
    rfl
  · obtain ⟨wv, n, ts, rfl, hW, ok, qn, qs'⟩ := h
    have hu := room1 hr
    refine ⟨_, (pss_cons (ps_set (i := 1) sc_shortest_odd.nd rfl (.inr rfl) (pe_call G_doubled (hr.mono (by decide)) (by rfl) g_doubled k_doubled b_doubled .nil pass0 (pa_cons (pv 0) pa_nil)))
      (pss_cons (ps_set (i := 2) sc_shortest_odd.nd rfl (.inr rfl) (pe_call G_ties_around (hr.mono (by decide)) (by rfl) g_ties_around k_ties_around b_ties_around .nil pass0 (pa_cons (pv 1) (pa_cons (pe_listRg rfl (by rfl) M.list (prg_1 (by rfl) M.range (pe_callB call_len_seq (by rfl) M.len PySem.boot_len (pa_cons (pe_ix ix_tup (pv 1) pe_int (fun _ _ => rfl)) pa_nil)))) pa_nil))))
      (Evl.pss_cut (ps_setLc (i := 3) (own := [("place", 4)]) (g := (gName 4)) (tt := tYes) rfl sc_shortest_odd.nd rfl rfl (sw_true rfl rfl rfl (by decide +kernel)) (pi_range1 (by rfl) M.range (pa_cons (pe_ix ix_tup (pv 0) pe_int (fun _ _ => rfl)) pa_nil)) (blkOk_by (N := N_shortest_odd) (sc := defScope s_shortest_odd) (own := [("place", 4)]) (by decide +kernel)) (fun _ _ _ _ _ => (pg_name (i := 4) sc_shortest_odd.nd rfl (.inl rfl))) (fun _ _ _ _ _ => pts_nil) (fun _ _ _ _ _ => (pe_call G_walk_from (hr.mono (by decide)) (by rfl) g_walk_from k_walk_from b_walk_from .nil pass0 (pa_cons (pe_op op_mul pe_int (pv 4)) (pa_cons (pv 2) pa_nil)))))
      (Evl.pss_cut (ps_setLc (i := 5) (own := [("place", 4), ("walk", 6)]) (g := (gTup K 2 (gCons (gName 4) (gCons (gName 6) gNil)))) rfl sc_shortest_odd.nd rfl rfl (sw_true rfl rfl rfl (by decide +kernel)) (pi_enum (by rfl) m_enumerate (pa_cons (pv 3) pa_nil)) (blkOk_by (N := N_shortest_odd) (sc := defScope s_shortest_odd) (own := [("place", 4), ("walk", 6)]) (by decide +kernel)) (fun _ _ _ _ _ => (pg_tup rfl (pgs_cons (pg_name (i := 4) sc_shortest_odd.nd rfl (.inl rfl)) (pgs_cons (pg_name (i := 6) sc_shortest_odd.nd rfl (.inl rfl)) pgs_nil)))) (fun _ _ _ _ _ => (pts_one (pt_cmp (pc_din hu (pe_op op_add (pe_op op_mul pe_int (pv 4)) pe_int) (pv 6))))) (fun _ _ _ _ _ => (pe_tup (pa_cons (pe_ix (r := rIxT K) ix_tup (pe_dget hu (pv 6) (pe_op op_add (pe_op op_mul pe_int (pv 4)) pe_int) (fun _ _ => rfl)) pe_int (fun _ _ => rfl)) (pa_cons (pv 4) pa_nil)))))
      (pss_cons (ps_if (pt_not (pt_truth (pv 5) (by intro _; rfl)))
        (pss_one (ps_ret pe_non))
        pss_nil)
      (pss_cons (ps_asg (pe_callB (cr_minP rfl (room65 hr)) (by rfl) m_min (by decide +kernel) (pa_cons (pv 5) pa_nil)) (pg_tup rfl (pgs_cons (pg_name (i := 7) sc_shortest_odd.nd rfl (.inr rfl)) (pgs_cons (pg_name (i := 8) sc_shortest_odd.nd rfl (.inl rfl)) pgs_nil))))
      (pss_cons (ps_set (i := 9) sc_shortest_odd.nd rfl (.inl rfl) (pe_call G_halved (hr.mono (by decide)) (by rfl) g_halved k_halved b_halved .nil pass0 (pa_cons (pe_call G_way_to (hr.mono (by decide)) (by rfl) g_way_to k_way_to b_way_to .nil pass0 (pa_cons (pe_op op_add (pe_op op_mul pe_int (pv 8)) pe_int) (pa_cons (pe_ix ix_list (pv 3) (pv 8) (fun _ _ => rfl)) pa_nil))) pa_nil)))
      (pss_one (ps_ret (pe_tup (pa_cons (pv 9) (pa_cons (pe_callTy call_tuple_of (by rfl) M.tuple (by decide +kernel) (pa_cons (pe_lc (own := [("walk", 6)]) (g := (gName 6)) (tt := tYes) rfl sc_shortest_odd.nd (pi_list (pv 3)) (blkOk_by (N := N_shortest_odd) (sc := defScope s_shortest_odd) (own := [("walk", 6)]) (by decide +kernel)) (fun _ _ _ _ _ => (pg_name (i := 6) sc_shortest_odd.nd rfl (.inl rfl))) (fun _ _ _ _ _ => pts_nil) (fun _ _ _ _ _ => (pe_call G_row_of (hr.mono (by decide)) (by rfl) g_row_of k_row_of b_row_of .nil pass0 (pa_cons (pe_ix (r := rIxT K) ix_tup (pv 1) pe_int (fun _ _ => rfl)) (pa_cons (pv 6) (pa_cons (pv 7) pa_nil)))))) pa_nil)) pa_nil)))))))))))), ?_⟩
    obtain ⟨wa, wb, us, ewv, hwa, hwb, hp⟩ := id hW
    have n1 : 1 ≤ n := by have := ok.lo; omega
    have n40 : n ≤ 40 := by have := ok.hi; omega
    have few := ok.few
    refine ⟨wv, rfl, wv, n, ts, rfl, hW, ok, fun dv H1 s1 hD => ?_⟩
    obtain ⟨da, db, dus, edv, hda, hdb, hdp⟩ := id hD
    have ld : dus.length = (dbl ts).length := Paired.length hdp
    have ldd := dbl_len ts
    refine ⟨dv, rfl, dv, rfl, da, _, 1, .ref db, by rw [edv], rfl, SqT.of hda, rfl, db, dus, rfl, .inr (SqT.of hdb), dus.length, rfl, RgOk.of_le (by decide) (by omega) (by decide) (by omega), fun Lr nLr => ?_⟩
    rw [rgV_rng']
    have eLr := same_new (o := .lst (lf (fun i => i) dus.length)) nLr
    refine ⟨dv, Lr, 2 * (n : Int), dbl ts, rng (dbl ts).length, rfl, hD.tk (Same.tk eLr), by omega, by rw [← ld]; exact upd_same, by rw [rng_length]; omega, fun m hm => mem_rng.mp hm, fun u H2 s2 hU => ?_⟩
    have s12 := (s1.trans eLr).trans s2
    have hD2 := hD.tk ((Same.tk eLr).trans (Same.tk s2))
    have hU : AroAt H2 u (dN ts) := hU
    have sD : Same H1 H2 := eLr.trans s2
    have hda2 := sD _ _ hda
    clear eLr
    -- the walks
    refine ⟨fun σ' H' => ∃ (y4 : Option V) (Lw : Addr) (As : List Addr) (W : Nat → List We), σ' = [some wv, some dv, some u, some (.ref Lw), y4, none, none, none, none, none] ∧ H' Lw = some (.lst (As.map V.ref)) ∧ As.length = n ∧ (∀ (p : Nat) a, As[p]? = some a → WalkAt H' a (W p) ∧ Wks ts p (W p) ∧ (W p).length ≤ 80) ∧ Same H2 H', ?_, ?_⟩
    · refine ⟨wv, rfl, wa, _, 0, .int n, by rw [ewv], rfl, SqT.of (s12 _ _ hwa), rfl, n, rfl, by omega, by omega, fun Z nZ => ?_⟩
      rw [Int.toNat_natCast]
      refine lc_range (lo := 0) (n := n) (fun j H' => ∃ (As : List Addr) (W : Nat → List We), H' Z = some (.lst (As.map V.ref)) ∧ As.length = j ∧ (∀ (p : Nat) a, As[p]? = some a → WalkAt H' a (W p) ∧ Wks ts p (W p) ∧ (W p).length ≤ 80) ∧ Same H2 H') ⟨[], fun _ => [], upd_same, rfl, fun p a e => (by simp at e), same_new nZ⟩ ?_ ?_
      · rintro j H3 hj ⟨As, W, hZ, la, each, s3⟩
        rw [show (0 : Int) + (j : Nat) = j from by omega]
        obtain ⟨U, Us, eu, hUs⟩ := id hU
        refine ⟨rfl, .int j, rfl, 2, j, rfl, rfl, .inl ⟨by decide, by decide⟩, u, rfl, u, 2 * n, 2 * (j : Int), dN ts, rfl, ⟨U, Us, eu, hUs.same s3⟩, by omega, by omega, by omega, fun x q hq => ?_, fun D ws H4 s4 hw wf lw => ?_⟩
        · have := dN_in ok.ok hq
          omega
        · have hZ4 := s4 _ _ hZ
          refine ⟨_, hZ4, by rw [List.length_map]; exact small1000 (by omega), As ++ [D], fun p => if p = j then ws else W p, by rw [upd_same, List.map_append]; rfl, by simp [la], fun p a ea => ?_, Same.mut (s3.trans s4) nZ⟩
          have up : ∀ {d : Addr} {vs : List We}, WalkAt H4 d vs → WalkAt (upd H4 Z (.lst (As.map V.ref ++ [.ref D]))) d vs := fun ⟨kvs, h1, h2⟩ => ⟨kvs, by rw [upd_ne (ne_of h1 hZ4 (by intro z; cases z))]; exact h1, wes_tk (tk_lst hZ4) h2⟩
          show WalkAt _ _ (if p = j then ws else W p) ∧ Wks ts p (if p = j then ws else W p) ∧ (if p = j then ws else W p).length ≤ 80
          by_cases hpj : p < As.length
          · rw [List.getElem?_append_left hpj] at ea
            obtain ⟨e1, e2, e3⟩ := each p a ea
            rw [if_neg (by omega)]
            exact ⟨up (e1.same s4), e2, e3⟩
          · have : p = j := by
              have := (List.getElem?_eq_some_iff.mp ea).1
              rw [List.length_append] at this
              simp at this
              omega
            subst this
            rw [← la, List.getElem?_append_right (Nat.le_refl _)] at ea
            have : D = a := by simpa using ea
            subst this
            rw [if_pos rfl]
            exact ⟨up hw, wf, by omega⟩
      · rintro H3 ⟨As, W, hZ, la, each, s3⟩
        exact ⟨_, Z, As, W, rfl, hZ, la, each, s3⟩
    rintro σ' H3 ⟨y4, Lw, As, W, rfl, hLw, la, each, s3⟩
    have wks : ∀ p, p < n → Wks ts p (W p) := fun p hp => (each p _ (List.getElem?_eq_getElem (by omega))).2.1
    -- the lengths
    refine ⟨fun σ' H' => ∃ (y4 y6 : Option V) (Ll : Addr) (xs : List V), σ' = [some wv, some dv, some u, some (.ref Lw), y4, some (.ref Ll), y6, none, none, none] ∧ H' Ll = some (.lst xs) ∧ Paired (PV2 H') xs (lens W n) ∧ Same H3 H', ?_, ?_⟩
    · refine ⟨.ref Lw, rfl, Lw, _, rfl, SqL.of hLw, fun Z nZ => ?_⟩
      refine lc_it (walk_enum (xs := As.map V.ref)) (fun i H' => ∃ xs : List V, H' Z = some (.lst xs) ∧ Paired (PV2 H') xs (lens W i) ∧ Same H3 H') ⟨[], upd_same, .nil, same_new nZ⟩ (fun i H' _ h => by
        obtain ⟨_, _, _, s⟩ := h
        exact SqL.of (s _ _ hLw)) ?_ ?_
      · rintro i x H4 H5 hi ⟨xs, hZ, hpx, s4⟩ ⟨Tp, x1, y1, rfl, nTp, rfl, gx, gy⟩
        obtain rfl : V.int (i : Nat) = x1 := Option.some.inj gx
        have gy : (As.map V.ref)[i]? = some y1 := gy
        rw [List.getElem?_map] at gy
        obtain ⟨D, eD, rfl⟩ := Option.map_eq_some_iff.mp gy
        have eT := same_new (o := .tup [.int (i : Nat), .ref D]) nTp
        obtain ⟨hw, wf, lw⟩ := each i D eD
        have hin : i < n := by have := (List.getElem?_eq_some_iff.mp eD).1; omega
        obtain ⟨kvs, h1, h2⟩ := hw.same (s4.trans eT)
        have lx : xs.length ≤ 40 := by
          have := Paired.length hpx
          have := lens_len W i
          omega
        have hZ5 := eT _ _ hZ
        refine ⟨Tp, _, rfl, SqT.of upd_same, rfl, _, _, rfl, _, _, rfl, rfl, rfl, ?_⟩
        refine ⟨.int (i : Nat), rfl, 2, i, rfl, rfl, .inl ⟨by decide, by decide⟩, _, 1, rfl, rfl, .ref D, rfl, D, _, rfl, DGet.k (k := Sum.inl (2 * (i : Int) + 1)) h1, _, rfl, ?_⟩
        by_cases hin2 : (2 * (i : Int) + 1) ∈ (W i).map (·.1)
        · obtain ⟨kk, f, he⟩ := we_key hin2
          obtain ⟨a, ev, ha⟩ := wes_some h2 wf.nd he
          rw [ev]
          have wl : weL (2 * (i : Int) + 1, kk, f) = .int (kk : Nat) :: (weL (2 * (i : Int) + 1, kk, f)).tail := by cases f <;> rfl
          rw [wl] at ha
          have eo : odL (W i) i = some kk := lvW_some wf.nd he
          refine ⟨.ref D, rfl, .int (i : Nat), rfl, 2, i, rfl, rfl, .inl ⟨by decide, by decide⟩, _, 1, rfl, rfl, D, _, rfl, (by rw [← ev]; exact DGet.k (k := Sum.inl (2 * (i : Int) + 1)) h1), a, _, 0, .int (kk : Nat), rfl, rfl, SqT.of ha, at0 _ _, .int (i : Nat), rfl, by show 2 ≤ sizeLine; decide, fun c nc => ?_⟩
          have ec := same_new (o := .tup [.int (kk : Nat), .int (i : Nat)]) nc
          refine ⟨xs, ec _ _ hZ5, small1000 (by omega), xs ++ [.ref c], upd_same, ?_, Same.mut ((s4.trans eT).trans ec) nZ⟩
          have tk := tk_lst (ys := xs ++ [.ref c]) (ec _ _ hZ5)
          rw [lens_succ, eo]
          refine Paired.snoc (Paired.mono (fun _ _ x => ?_) hpx) ⟨c, rfl, tk _ _ upd_same⟩
          obtain ⟨b, e, hb⟩ := x
          exact ⟨b, e, tk _ _ (ec _ _ (eT _ _ hb))⟩
        · rw [wes_none h2 hin2]
          have eo : odL (W i) i = none := lvW_none hin2
          refine ⟨xs, hZ5, ?_, s4.trans eT⟩
          rw [lens_succ, eo]
          simp only [List.append_nil]
          refine Paired.mono (fun _ _ x => ?_) hpx
          obtain ⟨b, e, hb⟩ := x
          exact ⟨b, e, eT _ _ hb⟩
      · rintro H4 ⟨xs, hZ, hpx, s4⟩
        rw [List.length_map, la] at hpx
        exact ⟨_, _, Z, xs, rfl, hZ, hpx, s4⟩
    rintro σ' H4 ⟨y4', y6, Ll, xs, rfl, hLl, hpx, s4⟩
    have sH4 := ((s12.trans s3).trans s4)
    refine ⟨.ref Ll, rfl, _, .inl ⟨_, SqL.of hLl, rfl⟩, ?_⟩
    by_cases hx : xs = []
    · subst hx
      refine qn W H4 wks (fun p hp => ?_) sH4
      cases hpe : lens W n with
      | nil =>
        cases ho : odL (W p) p with
        | none => rfl
        | some k =>
          have : ((k : Int), (p : Int)) ∈ lens W n := mem_lens.mpr ⟨p, k, hp, ho, rfl⟩
          rw [hpe] at this
          cases this
      | cons a l =>
        rw [hpe] at hpx
        cases hpx
    rw [show (!xs.isEmpty) = true from by cases xs; exact absurd rfl hx; rfl]
    have hne : lens W n ≠ [] := fun z => hx (List.length_eq_zero_iff.mp (by rw [Paired.length hpx, z]; rfl))
    refine ⟨.ref Ll, rfl, Ll, xs, lens W n, rfl, SqL.of hLl, hpx, hne, fun x p hxp hpm hmin => ?_⟩
    obtain ⟨s, L, hs, ho, rfl⟩ := mem_lens.mp hpm
    obtain ⟨c, rfl, hc⟩ := hxp
    refine ⟨c, _, rfl, SqT.of hc, rfl, _, _, rfl, _, _, rfl, rfl, ?_⟩
    have hLw4 := s4 _ _ hLw
    obtain ⟨hw, wf, lw⟩ := each s _ (List.getElem?_eq_getElem (show s < As.length by omega))
    have hw4 := hw.same s4
    obtain ⟨f, he⟩ : ∃ f, (2 * (s : Int) + 1, L, f) ∈ W s := by
      by_cases hin : (2 * (s : Int) + 1) ∈ (W s).map (·.1)
      · obtain ⟨kk, f, he⟩ := we_key hin
        have := lvW_some wf.nd he
        unfold odL at ho
        rw [ho] at this
        cases this
        exact ⟨f, he⟩
      · have := lvW_none hin
        unfold odL at ho
        rw [ho] at this
        cases this
    have lowL : L ≤ 100 := by
      obtain ⟨l, l1, l2, l3⟩ := WF.lev wf L _ f he
      have := pigeon (2 * n) l l2 fun x hx => by
        obtain ⟨j, g, h1, _⟩ := l3 x hx
        have r := WF.rg (n := 2 * (n : Int)) wf ⟨by omega, by omega⟩ (fun x q hq => dN_in ok.ok hq) (List.mem_map.mpr ⟨_, h1, rfl⟩)
        exact ⟨r.1, by have := r.2; push_cast; exact this⟩
      omega
    refine ⟨.int s, rfl, 2, s, rfl, rfl, .inl ⟨by decide, by decide⟩, _, 1, rfl, rfl, .ref Lw, rfl, .int s, rfl, Lw, _, s, _, rfl, rfl, SqL.of hLw4, atI_nat (by rw [List.getElem?_map, List.getElem?_eq_getElem (show s < As.length by omega)]; rfl), 2 * (s : Int) + 1, 2 * (s : Int), _, W s, dN ts, L, f, rfl, hw4, wf, he, (by omega), fun r a b qs ns H5 s5 hr5 ha5 hb5 way exa ln => ?_⟩
    have lq := way.len
    refine ⟨r, a, b, qs, ns, rfl, hr5, ha5, hb5, by omega, by omega, fun r' a' b' H6 s6 hr6 ha6 hb6 => ?_⟩
    -- the rows
    have s36 := (s4.trans s5).trans s6
    have hLw6 := s36 _ _ hLw
    refine ⟨.ref r', rfl, .ref Lw, rfl, Lw, rfl, ⟨_, SqL.of hLw6⟩, fun Z nZ => ?_⟩
    refine lc_list (xs := As.map V.ref) (fun j H' => ∃ rows, H' Z = some (.lst rows) ∧ Paired (IntsV H') rows ((List.range j).map fun p => rowW (W p) L (2 * n)) ∧ Same H6 H') ⟨[], upd_same, .nil, same_new nZ⟩ (fun j H' _ h => by
      obtain ⟨_, _, _, s⟩ := h
      exact SqL.of (s _ _ hLw6)) ?_ ?_
    · rintro j x H7 ex ⟨rows, hZ, hpr, s7⟩
      rw [List.getElem?_map] at ex
      obtain ⟨D, eD, rfl⟩ := Option.map_eq_some_iff.mp ex
      obtain ⟨hwj, wfj, lwj⟩ := each j D eD
      have lr : rows.length = j := by rw [Paired.length hpr, List.length_map, List.length_range]
      have hjn : j < n := by have := (List.getElem?_eq_some_iff.mp eD).1; omega
      refine ⟨rfl, dv, rfl, da, _, 0, .int (2 * (n : Int)), by rw [edv], rfl, SqT.of (((s3.trans s36).trans s7) _ _ hda2), rfl, .ref D, rfl, .int (L : Nat), rfl, 2 * n, D, (L : Nat), W j, by show [V.int (2 * (n : Int)), V.ref D, V.int (L : Nat)] = [V.int ((2 * n : Nat) : Int), V.ref D, V.int (L : Nat)]; rw [show ((2 * n : Nat) : Int) = 2 * (n : Int) from by omega], by omega, hwj.same (s36.trans s7), wfj.nd, fun r2 H8 s8 h8 => ?_⟩
      have hZ8 := s8 _ _ hZ
      refine ⟨rows, hZ8, small1000 (by omega), rows ++ [.ref r2], upd_same, ?_, Same.mut (s7.trans s8) nZ⟩
      have tk := tk_lst (ys := rows ++ [.ref r2]) hZ8
      rw [List.range_succ, List.map_append]
      exact Paired.snoc (Paired.mono (fun _ _ x => (x.tk (Same.tk s8)).tk tk) hpr) ⟨r2, rfl, tk _ _ h8⟩
    · rintro H7 ⟨rows, hZ, hpr, s7⟩
      rw [List.length_map, la] at hpr
      refine ⟨Z, _, rfl, .inl ⟨SqL.of hZ, fun ly nly => ⟨by show 2 ≤ sizeLine; decide, fun rr nrr => ?_⟩⟩⟩
      have e1 := same_new (o := .tup rows) nly
      have e2 := same_new (o := .tup [.ref r', .ref ly]) nrr
      have s78 := (s7.trans e1).trans e2
      refine qs' W L s qs ns rr r' ly a' b' rows _ wks hs ho (fun p k hp hk => ?_) way exa ln (((sH4.trans s5).trans s6).trans s78) upd_same (s78 _ _ hr6) (ha6.same s78) (hb6.same s78) (e2 _ _ upd_same) (Paired.mono (fun _ _ x => x.tk (Same.tk (e1.trans e2))) hpr)
      have := hmin _ (mem_lens.mpr ⟨p, k, hp, hk, rfl⟩)
      unfold lexle at this
      simp only at this
      omega
end
/-! ### walks by their length (mathematics) -/
theorem Way.head {N : Int → List Nu} {e s : Int} {qs ns : List Int} (h : Way N e s qs ns) : qs[0]? = some s := by cases h <;> rfl
theorem Way.last {N : Int → List Nu} {e s : Int} {qs ns : List Int} (h : Way N e s qs ns) : qs[ns.length]? = some e := by
  induction h with
  | one => rfl
  | cons _ _ _ ih => simpa using ih
theorem Way.each {N : Int → List Nu} {e s : Int} {qs ns : List Int} (h : Way N e s qs ns) : ∀ k : Nat, k < ns.length → ∃ x y m, qs[k]? = some x ∧ qs[k + 1]? = some y ∧ ns[k]? = some m ∧ (y, m) ∈ N x := by
  induction h with
  | one => exact fun k hk => absurd hk (by simp)
  | cons w hm _ ih =>
    intro k hk
    cases k with
    | zero => exact ⟨_, _, _, rfl, by simpa using w.head, rfl, hm⟩
    | succ k =>
      obtain ⟨x, y, m, h1, h2, h3, h4⟩ := ih k (by simpa using hk)
      exact ⟨x, y, m, by simpa using h1, by simpa using h2, by simpa using h3, h4⟩
inductive RPk (ts : List Tie) (x : Int) : Nat → Int → Bool → Prop
  | nil : RPk ts x 0 x false
  | step {k : Nat} {y z : Int} {b f : Bool} : RPk ts x k y b → Adj ts y z f → RPk ts x (k + 1) z (b ^^ f)
def oB (x : Int) : Bool := decide (x % 2 = 1)
theorem bI_xor (b f : Bool) : bI (b ^^ f) = (bI b + bI f) % 2 := by cases b <;> cases f <;> rfl
theorem oB_bI (y : Int) (b : Bool) : oB (2 * y + bI b) = b := by
  have := bI01 b
  unfold oB
  cases b
  · show decide ((2 * y + 0) % 2 = 1) = false
    exact decide_eq_false (by omega)
  · show decide ((2 * y + 1) % 2 = 1) = true
    exact decide_eq_true (by omega)
theorem oB_add {x z : Int} {f : Bool} (h : z % 2 = (x % 2 + bI f) % 2) : oB z = (oB x ^^ f) := by
  unfold oB
  have hx : x % 2 = 0 ∨ x % 2 = 1 := by omega
  rw [h]
  rcases hx with e | e <;> rw [e] <;> cases f <;> rfl
/-- a step in the doubled web -/
theorem dN_to {ts : List Tie} {x z m : Int} (h : (z, m) ∈ dN ts x) : ∃ (i : Nat) (t : Tie), ts[i]? = some t ∧ m / 2 = (i : Int) ∧ 0 ≤ m ∧ ((t.one = x / 2 ∧ t.other = z / 2) ∨ (t.one = z / 2 ∧ t.other = x / 2)) ∧ z % 2 = (x % 2 + bI t.foe) % 2 := by
  obtain ⟨h1, h2⟩ := mem_nN.mp h
  obtain ⟨m0, m1⟩ := mem_rng.mp h1
  simp only at h2 m0 m1
  rw [dbl_len] at m1
  have hi : (m / 2).toNat < ts.length := by omega
  obtain ⟨g1, g2⟩ := dbl_get ts (m / 2).toNat
  rw [List.getElem?_eq_getElem hi] at g1 g2
  have b01 := bI01 (ts[(m / 2).toNat]).foe
  have hm : m % 2 = 0 ∨ m % 2 = 1 := by omega
  rcases hm with hm | hm
  · have e : m.toNat = 2 * (m / 2).toNat := by omega
    rw [e, tieN_of g1] at h2
    refine ⟨(m / 2).toNat, _, List.getElem?_eq_getElem hi, by omega, m0, ?_, ?_⟩
    · rcases h2 with ⟨a, b⟩ | ⟨a, b⟩
      · left
        have a : 2 * (ts[(m / 2).toNat]).one = x := a
        have b : 2 * (ts[(m / 2).toNat]).other + bI (ts[(m / 2).toNat]).foe = z := b
        omega
      · right
        have a : 2 * (ts[(m / 2).toNat]).one = z := a
        have b : 2 * (ts[(m / 2).toNat]).other + bI (ts[(m / 2).toNat]).foe = x := b
        omega
    · rcases h2 with ⟨a, b⟩ | ⟨a, b⟩
      · have a : 2 * (ts[(m / 2).toNat]).one = x := a
        have b : 2 * (ts[(m / 2).toNat]).other + bI (ts[(m / 2).toNat]).foe = z := b
        omega
      · have a : 2 * (ts[(m / 2).toNat]).one = z := a
        have b : 2 * (ts[(m / 2).toNat]).other + bI (ts[(m / 2).toNat]).foe = x := b
        omega
  · have e : m.toNat = 2 * (m / 2).toNat + 1 := by omega
    rw [e, tieN_of g2] at h2
    refine ⟨(m / 2).toNat, _, List.getElem?_eq_getElem hi, by omega, m0, ?_, ?_⟩
    · rcases h2 with ⟨a, b⟩ | ⟨a, b⟩
      · left
        have a : 2 * (ts[(m / 2).toNat]).one + 1 = x := a
        have b : 2 * (ts[(m / 2).toNat]).other + 1 - bI (ts[(m / 2).toNat]).foe = z := b
        omega
      · right
        have a : 2 * (ts[(m / 2).toNat]).one + 1 = z := a
        have b : 2 * (ts[(m / 2).toNat]).other + 1 - bI (ts[(m / 2).toNat]).foe = x := b
        omega
    · rcases h2 with ⟨a, b⟩ | ⟨a, b⟩
      · have a : 2 * (ts[(m / 2).toNat]).one + 1 = x := a
        have b : 2 * (ts[(m / 2).toNat]).other + 1 - bI (ts[(m / 2).toNat]).foe = z := b
        omega
      · have a : 2 * (ts[(m / 2).toNat]).one + 1 = z := a
        have b : 2 * (ts[(m / 2).toNat]).other + 1 - bI (ts[(m / 2).toNat]).foe = x := b
        omega
theorem dN_adj {ts : List Tie} {x z m : Int} (h : (z, m) ∈ dN ts x) : ∃ f, Adj ts (x / 2) (z / 2) f ∧ z % 2 = (x % 2 + bI f) % 2 := by
  obtain ⟨i, t, et, _, _, h1, h2⟩ := dN_to h
  exact ⟨t.foe, ⟨t, List.mem_of_getElem? et, rfl, h1⟩, h2⟩
theorem dN_of {ts : List Tie} {y z : Int} {f b : Bool} (h : Adj ts y z f) : ∃ m, (2 * z + bI (b ^^ f), m) ∈ dN ts (2 * y + bI b) := by
  obtain ⟨t, ht, rfl, q⟩ := h
  obtain ⟨i, hi⟩ := List.getElem?_of_mem ht
  have hl := (List.getElem?_eq_some_iff.mp hi).1
  obtain ⟨g1, g2⟩ := dbl_get ts i
  rw [hi] at g1 g2
  have dl := dbl_len ts
  have mk : ∀ (m : Nat) (T : Tie), (dbl ts)[m]? = some T → Jn T (2 * y + bI b) (2 * z + bI (b ^^ t.foe)) → ∃ m, (2 * z + bI (b ^^ t.foe), m) ∈ dN ts (2 * y + bI b) := fun m T hm hj => by
    have := (List.getElem?_eq_some_iff.mp hm).1
    refine ⟨(m : Int), mem_nN.mpr ⟨mem_rng.mpr ⟨by omega, by show (m : Int) < _; omega⟩, ?_⟩⟩
    show Jn (tieN (dbl ts) ((m : Nat) : Int).toNat) _ _
    rw [Int.toNat_natCast, tieN_of hm]
    exact hj
  rw [bI_xor] at mk ⊢
  have b01 := bI01 b
  have f01 := bI01 t.foe
  rcases q with ⟨q1, q2⟩ | ⟨q1, q2⟩
  · rcases b01 with e | e
    · refine mk (2 * i) _ g1 (.inl ⟨?_, ?_⟩)
      · show 2 * t.one = _; omega
      · show 2 * t.other + bI t.foe = _; omega
    · refine mk (2 * i + 1) _ g2 (.inl ⟨?_, ?_⟩)
      · show 2 * t.one + 1 = _; omega
      · show 2 * t.other + 1 - bI t.foe = _; omega
  · have hs : (bI b + bI t.foe) % 2 = 0 ∨ (bI b + bI t.foe) % 2 = 1 := by omega
    rcases hs with e | e
    · refine mk (2 * i) _ g1 (.inr ⟨?_, ?_⟩)
      · show 2 * t.one = _; omega
      · show 2 * t.other + bI t.foe = _; omega
    · refine mk (2 * i + 1) _ g2 (.inr ⟨?_, ?_⟩)
      · show 2 * t.one + 1 = _; omega
      · show 2 * t.other + 1 - bI t.foe = _; omega
theorem wks_walk {ts : List Tie} {p : Nat} {ws : List We} (h : Wks ts p ws) : ∀ (k : Nat) (x : Int) (f : Option (Int × Int)), (x, k, f) ∈ ws → RPk ts p k (x / 2) (oB x)
  | 0, x, none, hx => by
    obtain ⟨e, _⟩ := h.non _ _ hx
    have e1 : x / 2 = p := by omega
    have e2 : oB x = false := decide_eq_false (by omega)
    rw [e1, e2]
    exact .nil
  | 0, x, some (q, m), hx => by
    obtain ⟨j, g, _, e, _⟩ := h.par _ _ _ _ hx
    omega
  | k + 1, x, none, hx => by
    have := (h.non _ _ hx).2
    omega
  | k + 1, x, some (q, m), hx => by
    obtain ⟨j, g, hp, e, hm⟩ := h.par _ _ _ _ hx
    have : j = k := by omega
    subst this
    have r := wks_walk h j q g hp
    obtain ⟨f, ad, pr⟩ := dN_adj hm
    rw [oB_add pr]
    exact .step r ad
theorem walk_wks {ts : List Tie} {p : Nat} {ws : List We} (h : Wks ts p ws) {k : Nat} {y : Int} {b : Bool} (r : RPk ts p k y b) : ∃ j f, (2 * y + bI b, j, f) ∈ ws ∧ j ≤ k := by
  induction r with
  | nil => exact ⟨0, none, by show (2 * (p : Int) + 0, 0, none) ∈ ws; rw [Int.add_zero]; exact h.root, Nat.le_refl _⟩
  | step r ad ih =>
    obtain ⟨j, f, he, hj⟩ := ih
    obtain ⟨m, hm⟩ := dN_of ad
    obtain ⟨k', f', h1, h2⟩ := h.cl _ he _ hm
    exact ⟨k', f', h1, by simp only at h2; omega⟩
theorem odL_some {ts : List Tie} {p L : Nat} {ws : List We} (h : Wks ts p ws) : odL ws p = some L ↔ RPk ts p L p true ∧ ∀ k, RPk ts p k p true → L ≤ k := by
  have key : ∀ k f, (2 * (p : Int) + 1, k, f) ∈ ws → RPk ts p k p true := fun k f he => by
    have r := wks_walk h k _ f he
    rw [show (2 * (p : Int) + 1) / 2 = p from by omega, show oB (2 * (p : Int) + 1) = true from oB_bI p true] at r
    exact r
  constructor
  · intro e
    by_cases hin : (2 * (p : Int) + 1) ∈ ws.map (·.1)
    · obtain ⟨k, f, he⟩ := we_key hin
      have : odL ws p = some k := lvW_some h.nd he
      rw [e] at this
      cases this
      refine ⟨key _ _ he, fun k r => ?_⟩
      obtain ⟨j, g, h1, h2⟩ := walk_wks h r
      have := (we_one h.nd he h1).1
      omega
    · have : odL ws p = none := lvW_none hin
      rw [e] at this
      cases this
  · rintro ⟨r, least⟩
    obtain ⟨j, g, h1, h2⟩ := walk_wks h r
    have e : odL ws p = some j := lvW_some h.nd h1
    have := least j (key _ _ h1)
    rw [e]
    congr 1
    omega
theorem odL_none {ts : List Tie} {p : Nat} {ws : List We} (h : Wks ts p ws) : odL ws p = none ↔ ∀ k, ¬ RPk ts p k p true := by
  constructor
  · intro e k r
    obtain ⟨j, g, h1, _⟩ := walk_wks h r
    have : odL ws p = some j := lvW_some h.nd h1
    rw [e] at this
    cases this
  · intro no
    cases e : odL ws p with
    | none => rfl
    | some L => exact absurd ((odL_some h).mp e).1 (no L)
/-! ### the law's own distances -/
/-! ### the ring that is told (mathematics) -/
def foeS (ts : List Tie) : List Int → Int
  | [] => 0
  | m :: ms => bI (tieN ts m.toNat).foe + foeS ts ms
theorem foeS_snoc (ts : List Tie) (m : Int) : ∀ ms, foeS ts (ms ++ [m]) = foeS ts ms + bI (tieN ts m.toNat).foe
  | [] => by
    show bI (tieN ts m.toNat).foe + 0 = 0 + bI (tieN ts m.toNat).foe
    omega
  | x :: ms => by
    show bI (tieN ts x.toNat).foe + foeS ts (ms ++ [m]) = bI (tieN ts x.toNat).foe + foeS ts ms + _
    rw [foeS_snoc ts m ms]
    omega
structure RingO (ts : List Tie) (rs ms : List Int) : Prop where
  len : rs.length = ms.length
  two : 2 ≤ ms.length
  few : ms.length ≤ 100
  rp : ∀ x ∈ rs, 0 ≤ x
  mp : ∀ m ∈ ms, 0 ≤ m ∧ m < (ts.length : Int)
  rd : rs.Nodup
  md : ms.Nodup
  each : ∀ k : Nat, k < ms.length → ∃ x y m t, rs[k]? = some x ∧ rs[(k + 1) % rs.length]? = some y ∧ ms[k]? = some m ∧ ts[m.toNat]? = some t ∧ Jn t x y
  odd : foeS ts ms % 2 = 1
theorem rpk_in {n : Nat} {ts : List Tie} (ok : ∀ t ∈ ts, TieOk n t) {x y : Int} {k : Nat} {b : Bool} (h : RPk ts x k y b) : (k = 0 ∧ y = x ∧ b = false) ∨ ((0 ≤ x ∧ x < n) ∧ (0 ≤ y ∧ y < n)) := by
  induction h with
  | nil => exact .inl ⟨rfl, rfl, rfl⟩
  | step r ad ih =>
    right
    obtain ⟨t, ht, _, q⟩ := ad
    have o := ok t ht
    have yz : (0 ≤ (if t.one = t.one then t.one else t.one) ∧ True) := ⟨by simpa using o.1, trivial⟩
    rcases ih with ⟨_, e, _⟩ | ⟨hx, _⟩
    · subst e
      rcases q with ⟨a, b⟩ | ⟨a, b⟩
      · rw [← a, ← b]
        exact ⟨⟨o.1, o.2.1⟩, o.2.2.1, o.2.2.2.1⟩
      · rw [← a, ← b]
        exact ⟨⟨o.2.2.1, o.2.2.2.1⟩, o.1, o.2.1⟩
    · refine ⟨hx, ?_⟩
      rcases q with ⟨a, b⟩ | ⟨a, b⟩
      · rw [← b]
        exact ⟨o.2.2.1, o.2.2.2.1⟩
      · rw [← a]
        exact ⟨o.1, o.2.1⟩
theorem xor_cancel3 (a b c : Bool) : ((a ^^ b) ^^ (b ^^ c)) = (a ^^ c) := by cases a <;> cases b <;> cases c <;> rfl
theorem jn_two {t : Tie} {a b c d : Int} (h : Jn t a b) (g : Jn t c d) : (a = c ∧ b = d) ∨ (a = d ∧ b = c) := by
  rcases h with ⟨h1, h2⟩ | ⟨h1, h2⟩ <;> rcases g with ⟨g1, g2⟩ | ⟨g1, g2⟩ <;> omega
theorem ring_of {n : Nat} {ts : List Tie} (ok : ∀ t ∈ ts, TieOk n t) {s : Nat} {qs ns : List Int} (way : Way (dN ts) (2 * (s : Int) + 1) (2 * (s : Int)) qs ns) (least : ∀ (x : Int) (k : Nat), RPk ts x k x true → ns.length ≤ k) (few : ns.length ≤ 100) (s0 : (0 : Int) ≤ s) : RingO ts (qs.dropLast.map (· / 2)) (ns.map (· / 2)) := by
  have lq := way.len
  have hd := way.head
  have la := way.last
  have ea := way.each
  have nd := way.nodup
  let g : Nat → Int := fun i => qs.getD i 0
  have gq : ∀ i, i ≤ ns.length → qs[i]? = some (g i) := fun i hi => by
    show qs[i]? = some (qs.getD i 0)
    rw [List.getD_eq_getElem?_getD, List.getElem?_eq_getElem (by omega)]
    rfl
  have g0 : g 0 = 2 * (s : Int) := by
    have := gq 0 (Nat.zero_le _)
    rw [hd] at this
    exact (Option.some.inj this).symm
  have gL : g ns.length = 2 * (s : Int) + 1 := by
    have := gq ns.length (Nat.le_refl _)
    rw [la] at this
    exact (Option.some.inj this).symm
  have st : ∀ i, i < ns.length → ∃ (m : Int) (j : Nat) (t : Tie), ns[i]? = some m ∧ ts[j]? = some t ∧ m / 2 = (j : Int) ∧ 0 ≤ m ∧ Jn t (g i / 2) (g (i + 1) / 2) ∧ g (i + 1) % 2 = (g i % 2 + bI t.foe) % 2 := fun i hi => by
    obtain ⟨x, y, m, h1, h2, h3, h4⟩ := ea i hi
    rw [gq i (by omega)] at h1
    rw [gq (i + 1) (by omega)] at h2
    cases h1
    cases h2
    obtain ⟨j, t, e1, e2, e3, e4, e5⟩ := dN_to h4
    exact ⟨m, j, t, h3, e1, e2, e3, e4, e5⟩
  have seg : ∀ d i, i + d ≤ ns.length → RPk ts (g i / 2) d (g (i + d) / 2) (oB (g i) ^^ oB (g (i + d))) := fun d => by
    induction d with
    | zero =>
      intro i _
      rw [Nat.add_zero, Bool.xor_self]
      exact .nil
    | succ d ih =>
      intro i hi
      have r := ih i (by omega)
      obtain ⟨m, j, t, _, et, _, _, jn, pr⟩ := st (i + d) (by omega)
      have e : oB (g (i + (d + 1))) = (oB (g (i + d)) ^^ t.foe) := oB_add pr
      rw [e, ← Bool.xor_assoc]
      exact .step r ⟨t, List.mem_of_getElem? et, rfl, jn⟩
  have dist : ∀ i j, i < j → j < ns.length → g i / 2 ≠ g j / 2 := fun i j hij hj e => by
    have ne : g i ≠ g j := fun z => by
      have h1 := gq i (by omega)
      have h2 := gq j (by omega)
      rw [z] at h1
      have := (List.getElem?_inj (show i < qs.length by omega) nd).mp (h1.trans h2.symm)
      omega
    have r := seg (j - i) i (by omega)
    rw [show i + (j - i) = j from by omega, ← e] at r
    have po : (oB (g i) ^^ oB (g j)) = true := by
      have a : g i % 2 = 0 ∨ g i % 2 = 1 := by omega
      have b : g j % 2 = 0 ∨ g j % 2 = 1 := by omega
      unfold oB
      rcases a with a | a <;> rcases b with b | b <;> rw [a, b]
      · omega
      · rfl
      · rfl
      · omega
    rw [po] at r
    have := least _ _ r
    omega
  have p0L : g ns.length / 2 = g 0 / 2 := by rw [gL, g0]; omega
  have pos : 1 ≤ ns.length := by
    by_cases h : ns.length = 0
    · rw [h, g0] at gL
      omega
    · omega
  have two : 2 ≤ ns.length := by
    by_cases h : ns.length = 1
    · obtain ⟨m, j, t, _, et, _, _, jn, _⟩ := st 0 (by omega)
      rw [show 0 + 1 = ns.length from by omega, p0L] at jn
      have := (ok t (List.mem_of_getElem? et)).2.2.2.2
      rcases jn with ⟨a, b⟩ | ⟨a, b⟩ <;> exact absurd (a.trans b.symm) this
    · omega
  have rg : ∀ i, i < ns.length → (qs.dropLast.map (· / 2))[i]? = some (g i / 2) := fun i hi => by
    rw [List.getElem?_map, List.dropLast_eq_take, List.getElem?_take, if_pos (by omega), gq i (by omega)]
    rfl
  have lr : (qs.dropLast.map (· / 2)).length = ns.length := by rw [List.length_map, List.length_dropLast]; omega
  have mg' : ∀ {i : Nat} {m : Int}, ns[i]? = some m → (ns.map (· / 2))[i]? = some (m / 2) := fun h => by rw [List.getElem?_map, h]; rfl
  have nonneg : ∀ i, i < ns.length → 0 ≤ g i / 2 := fun i hi => by
    rcases rpk_in ok (seg 1 i (by omega)) with ⟨e, _⟩ | ⟨h, _⟩
    · omega
    · exact h.1
  refine ⟨by rw [lr, List.length_map], by rw [List.length_map]; exact two, by rw [List.length_map]; exact few, fun x hx => ?_, fun m hm => ?_, ?_, ?_, fun k hk => ?_, ?_⟩
  · obtain ⟨i, hi⟩ := List.getElem?_of_mem hx
    have hil : i < ns.length := by have := (List.getElem?_eq_some_iff.mp hi).1; omega
    rw [rg i hil] at hi
    cases hi
    exact nonneg i hil
  · obtain ⟨y, hy, rfl⟩ := List.mem_map.mp hm
    obtain ⟨i, hi⟩ := List.getElem?_of_mem hy
    obtain ⟨m, j, t, h1, et, e2, _⟩ := st i (List.getElem?_eq_some_iff.mp hi).1
    rw [hi] at h1
    cases h1
    have := (List.getElem?_eq_some_iff.mp et).1
    omega
  · unfold List.Nodup
    rw [List.pairwise_iff_getElem]
    intro i j hi hj hij e
    have h1 := rg i (by omega)
    have h2 := rg j (by omega)
    rw [List.getElem?_eq_getElem hi] at h1
    rw [List.getElem?_eq_getElem hj] at h2
    exact dist i j hij (by omega) (by rw [← Option.some.inj h1, ← Option.some.inj h2]; exact e)
  · unfold List.Nodup
    rw [List.pairwise_iff_getElem]
    intro i j hi hj hij e
    rw [List.length_map] at hi hj
    obtain ⟨mi, ji, ti, h1, eti, e2, _, jni, pri⟩ := st i hi
    obtain ⟨mj, jj, tj, h1', etj, e2', _, jnj, prj⟩ := st j hj
    have em : mi / 2 = mj / 2 := by
      have a := mg' h1
      have b := mg' h1'
      rw [List.getElem?_eq_getElem (by rw [List.length_map]; exact hi)] at a
      rw [List.getElem?_eq_getElem (by rw [List.length_map]; exact hj)] at b
      rw [← Option.some.inj a, ← Option.some.inj b]
      exact e
    have ej : ji = jj := by omega
    subst ej
    rw [eti] at etj
    cases etj
    rcases jn_two jni jnj with ⟨a, b⟩ | ⟨a, b⟩
    · exact dist i j hij hj a
    · by_cases hL : j + 1 < ns.length
      · exact dist i (j + 1) (by omega) hL a
      · have hj1 : j + 1 = ns.length := by omega
        rw [hj1, p0L] at a
        have i0 : i = 0 := by
          by_cases h : i = 0
          · exact h
          · exact absurd a.symm (dist 0 i (by omega) hi)
        subst i0
        have j1 : j = 1 := by
          by_cases h : j = 1
          · exact h
          · exact absurd b (dist 1 j (by omega) hj)
        subst j1
        rw [show 1 + 1 = ns.length from by omega, gL] at prj
        rw [show 0 + 1 = 1 from rfl, g0] at pri
        have := bI01 ti.foe
        omega
  · rw [List.length_map] at hk
    obtain ⟨m, j, t, h1, et, e2, e3, jn, _⟩ := st k hk
    refine ⟨g k / 2, g (k + 1) / 2, m / 2, t, rg k hk, ?_, mg' h1, by rw [e2, Int.toNat_natCast]; exact et, jn⟩
    rw [lr]
    by_cases h : k + 1 < ns.length
    · rw [Nat.mod_eq_of_lt h]
      exact rg (k + 1) h
    · have : k + 1 = ns.length := by omega
      rw [this, Nat.mod_self, rg 0 (by omega), p0L]
  · have par : ∀ k, k ≤ ns.length → foeS ts ((ns.map (· / 2)).take k) % 2 = g k % 2 := fun k => by
      induction k with
      | zero =>
        intro _
        rw [List.take_zero, g0]
        show (0 : Int) % 2 = _
        omega
      | succ k ih =>
        intro hk
        obtain ⟨m, j, t, h1, et, e2, _, _, pr⟩ := st k (by omega)
        rw [List.take_add_one, mg' h1, Option.toList_some, foeS_snoc, e2, Int.toNat_natCast, tieN_of et, pr]
        have := ih (by omega)
        omega
    have := par ns.length (Nat.le_refl _)
    rw [List.take_of_length_le (by rw [List.length_map]; exact Nat.le_refl _), gL] at this
    omega
/-! ### the layers that are told -/
/-! ### zip of three tuples of one length -/
def ItZ (K : PySem.W.Frag) (a b c : Addr) : It where
  go := fun i H => ∃ (xs ys zs : List V), (SqT K H a xs ∧ SqT K H b ys ∧ SqT K H c zs) ∧ i < xs.length ∧ ys.length = xs.length ∧ zs.length = xs.length
  yld := fun i H v H' => ∃ T x y z, v = .ref T ∧ H T = none ∧ H' = upd H T (.tup [x, y, z]) ∧ (∀ xs, SqT K H a xs → xs[i]? = some x) ∧ (∀ ys, SqT K H b ys → ys[i]? = some y) ∧ ∀ zs, SqT K H c zs → zs[i]? = some z
  stop := fun i H => ∃ (xs ys zs : List V), (SqT K H a xs ∧ SqT K H b ys ∧ SqT K H c zs) ∧ xs.length = i ∧ ys.length = i ∧ zs.length = i
theorem turn_zip3 {P : Program} {w : World} {K : PySem.W.Frag} {elts : List Expr} {kk : Nat} {tpos : Pos} {a b c z TI TO i1 i2 i3 : Addr} (S : ZipSep3 z TI TO i1 i2 i3 [i1, a] [i2, b] [i3, c]) (n1 : a ≠ i1) (n2 : b ≠ i2) (n3 : c ≠ i3) :
    Turn P w K (.Tuple elts kk tpos) (ItZ K a b c) [z, TI, TO, i1, i2, i3] z (fun i h => IsZip h z TI TO .none ∧ IsTupOf3 h TI (.ref i1) (.ref i2) (.ref i3) ∧ (∃ a1 a2 a3, IsTupOf3 h TO a1 a2 a3) ∧ h.IsTupleIter i1 a i ∧ h.IsTupleIter i2 b i ∧ h.IsTupleIter i3 c i) where
  mem := List.mem_cons_self
  obj := by
    rintro i h ⟨hz, hTI, ⟨a1, a2, a3, hTO⟩, ⟨o1, e1, _, d1⟩, ⟨o2, e2, _, d2⟩, ⟨o3, e3, _, d3⟩⟩ q hq
    simp only [List.mem_cons, List.not_mem_nil, or_false] at hq
    rcases hq with rfl | rfl | rfl | rfl | rfl | rfl
    · exact ⟨_, hz, fun v y => nomatch y⟩
    · exact ⟨_, hTI, fun v y => nomatch y⟩
    · exact ⟨_, hTO, fun v y => nomatch y⟩
    · exact ⟨o1, e1, fun v y => by rw [d1] at y; cases y⟩
    · exact ⟨o2, e2, fun v y => by rw [d2] at y; cases y⟩
    · exact ⟨o3, e3, fun v y => by rw [d3] at y; cases y⟩
  keep := by
    rintro i h h' ⟨hz, hTI, ⟨a1, a2, a3, hTO⟩, t1, t2, t3⟩ kp
    exact ⟨kp z (by simp) _ hz, kp TI (by simp) _ hTI, ⟨a1, a2, a3, kp TO (by simp) _ hTO⟩, t1.at fun o q => kp i1 (by simp) o q, t2.at fun o q => kp i2 (by simp) o q, t3.at fun o q => kp i3 (by simp) o q⟩
  item := by
    intro X hP hw hK hc i pins s σ H E I hf st hg
    subst hP hw hK
    obtain ⟨hz, hTI, hTO, t1, t2, t3⟩ := st
    obtain ⟨xs, ys, zs, ⟨qx, qy, qz⟩, hi, ly, lz⟩ := hg
    obtain ⟨us, ru, tu, _⟩ := I.tuple qx
    obtain ⟨vs, rv, tv, _⟩ := I.tuple qy
    obtain ⟨ws, rw', tw, _⟩ := I.tuple qz
    have lu := ru.length
    have lv := rv.length
    have lw := rw'.length
    obtain ⟨u, hu, eu⟩ := ru.get (List.getElem?_eq_getElem hi)
    obtain ⟨v, hv, ev⟩ := rv.get (List.getElem?_eq_getElem (show i < ys.length by omega))
    obtain ⟨w', hw, ew⟩ := rw'.get (List.getElem?_eq_getElem (show i < zs.length by omega))
    have W := WalksT.zipD3 (A := X.A) S (Draws.tuple (prog := X.prog) (w := X.w) (A := X.A.in1) (I.ok.hd hc) i1 a n1 us.toArray) (Draws.tuple (prog := X.prog) (w := X.w) (A := X.A.in1) (I.ok.hd hc) i2 b n2 vs.toArray) (Draws.tuple (prog := X.prog) (w := X.w) (A := X.A.in1) (I.ok.hd hc) i3 c n3 ws.toArray)
    refine W.item i s _ _ (by simp only [List.size_toArray]; omega) ⟨hz, hTI, hTO, ⟨t1, tu⟩, ⟨t2, tv⟩, ⟨t3, tw⟩⟩ fun T vals h' tk hp newT isT mid kp => ?_
    obtain ⟨y1, y2, y3, p1, p2, p3, rfl⟩ := hp
    have apart := W.apart i T h' mid
    obtain rfl : u = y1 := Option.some.inj (((by simpa using hu) : us.toArray[i]? = some u).symm.trans p1)
    obtain rfl : v = y2 := Option.some.inj (((by simpa using hv) : vs.toArray[i]? = some v).symm.trans p2)
    obtain rfl : w' = y3 := Option.some.inj (((by simpa using hw) : ws.toArray[i]? = some w').symm.trans p3)
    refine ⟨_, rfl, W.go elts kk tpos i T { s with heap := h', toks := tk } _ _ mid fun h2 st2 kp2 => ?_⟩
    obtain ⟨g1, g2, g3, ⟨g4, _⟩, ⟨g5, _⟩, ⟨g6, _⟩⟩ := st2
    have objT : ObjOk X.prog X.w (upd H T (.tup [xs[i], ys[i], zs[i]])) h2 T (.tup [xs[i], ys[i], zs[i]]) := by
      obtain ⟨ot, et, ct, nt, dt⟩ := isT
      exact ⟨by show 3 ≤ sizeLine; decide, [u, v, w'], .cons eu (.cons ev (.cons ew .nil)), ⟨ot, kp2 _ _ apart et, ct, nt, dt⟩⟩
    have J : Inv X pins σ (upd H T (.tup [xs[i], ys[i], zs[i]])) { s with heap := h2, toks := tk } := I.turnedNew (ch := [z, TI, TO, i1, i2, i3]) (fun q ob hq e => by
      simp only [List.mem_cons, List.not_mem_nil, or_false, not_or] at hq
      have nw : q ∉ [z, TO, i1, i2, i3] := by simp [hq]
      exact kp2 q ob nw (kp q ob nw e)) hf newT objT
    refine ⟨.ref T, _, J, rfl, ⟨T, _, _, _, rfl, I.hok.fresh newT, rfl, fun l hl => by rw [I.tuple_inj hl qx]; exact List.getElem?_eq_getElem hi, fun l hl => by rw [I.tuple_inj hl qy]; exact List.getElem?_eq_getElem _, fun l hl => by rw [I.tuple_inj hl qz]; exact List.getElem?_eq_getElem _⟩, ⟨g1, g2, g3, g4, g5, g6⟩, fun q hq => ?_⟩
    have lq : q < s.heap.objs.size := by
      obtain ⟨_, _, ⟨a1, a2, a3, hTO⟩⟩ := (⟨hz, hTI, hTO⟩ : _ ∧ _ ∧ _)
      obtain ⟨o1, e1, _⟩ := t1
      obtain ⟨o2, e2, _⟩ := t2
      obtain ⟨o3, e3, _⟩ := t3
      simp only [List.mem_cons, List.not_mem_nil, or_false] at hq
      rcases hq with rfl | rfl | rfl | rfl | rfl | rfl
      · exact Heap.lt_size hz
      · exact Heap.lt_size hTI
      · exact Heap.lt_size hTO
      · exact Heap.lt_size e1
      · exact Heap.lt_size e2
      · exact Heap.lt_size e3
    rw [upd_ne (Nat.ne_of_lt (Nat.lt_of_lt_of_le lq newT))]
    exact (hf q hq).1
  done := by
    intro X hP hw hK hc i pins s σ H E I hf st hg
    subst hP hw hK
    obtain ⟨hz, hTI, hTO, t1, t2, t3⟩ := st
    obtain ⟨xs, ys, zs, ⟨qx, qy, qz⟩, lx, ly, lz⟩ := hg
    obtain ⟨us, ru, tu, _⟩ := I.tuple qx
    obtain ⟨vs, rv, tv, _⟩ := I.tuple qy
    obtain ⟨ws, rw', tw, _⟩ := I.tuple qz
    have lu := ru.length
    have lv := rv.length
    have lw := rw'.length
    have W := WalksT.zipD3 (A := X.A) S (Draws.tuple (prog := X.prog) (w := X.w) (A := X.A.in1) (I.ok.hd hc) i1 a n1 us.toArray) (Draws.tuple (prog := X.prog) (w := X.w) (A := X.A.in1) (I.ok.hd hc) i2 b n2 vs.toArray) (Draws.tuple (prog := X.prog) (w := X.w) (A := X.A.in1) (I.ok.hd hc) i3 c n3 ws.toArray)
    have en : min (min us.toArray.size vs.toArray.size) ws.toArray.size = i := by simp only [List.size_toArray]; omega
    refine W.done s _ _ ?_ fun h' tk kp => ⟨rfl, ?_⟩
    · rw [en]
      exact ⟨hz, hTI, hTO, ⟨t1, tu⟩, ⟨t2, tv⟩, ⟨t3, tw⟩⟩
    · refine I.turnedL (ch := [z, TI, TO, i1, i2, i3]) (fun q ob hq e => ?_) hf
      simp only [List.mem_cons, List.not_mem_nil, or_false, not_or] at hq
      exact kp q ob (by simp [hq]) e
  self := by
    rintro A i s Q E ⟨hz, _⟩ h
    exact wpAny_pyIter_zip hz h
def iZip3 (K : PySem.W.Frag) (ta : TA) : TI := fun σ H R => ta σ H fun vs H1 => ∃ a b c xs ys zs, vs = [.ref a, .ref b, .ref c] ∧ SqT K H1 a xs ∧ SqT K H1 b ys ∧ SqT K H1 c zs ∧ R (ItZ K a b c) H1
theorem pi_zip3 {X : Cx} {e e2 e3 : Expr} {ta : TA} {p pos tpos : Pos} {elts : List Expr} {kk : Nat} (hg : Gl X "zip") (hm : X.mg "zip" = none) (ha : PA X [e, e2, e3] ta) (hs : starEach [e, e2, e3] X.env = (false, eval e X.env) :: starEach [e2, e3] X.env := by rfl)
    (hpl : (backTo pos (starEach [e2, e3] X.env)).any (·.1) = false := by rfl) : PI X (.Tuple elts kk tpos) (.Call (.Name "zip" p) [e, e2, e3] [] pos) (iZip3 X.K ta) := by
  refine ⟨fun pins s σ H R I want => Call_ (ld_blt I hg hm PyProof.Rows.boot_zip (PyProof.Rows.callWith_type1 (thn (ha.run pos pins s σ H _ I want) fun us s1 got => ?_) hs hpl))⟩
  obtain ⟨vs, H1, J, rel, a, b, c, xs, ys, zs, ex, qa, qb, qc, q⟩ := got
  subst ex
  cases rel with
  | cons r1 rel =>
    cases rel with
    | cons r2 rel =>
      cases rel with
      | cons r3 rel =>
        cases rel
        cases r1
        cases r2
        cases r3
        obtain ⟨u1, _, t1, _⟩ := J.tuple qa
        obtain ⟨u2, _, t2, _⟩ := J.tuple qb
        obtain ⟨u3, _, t3, _⟩ := J.tuple qc
        have la : a < s1.heap.objs.size := let ⟨_, y, _⟩ := t1; Heap.lt_size y
        have lb : b < s1.heap.objs.size := let ⟨_, y, _⟩ := t2; Heap.lt_size y
        have lc : c < s1.heap.objs.size := let ⟨_, y, _⟩ := t3; Heap.lt_size y
        refine zip_begins3 (begins_tuple a u1.toArray) (begins_tuple b u2.toArray) (begins_tuple c u3.toArray) t1 t2 t3 fun h' hz hTI hTO g1 g2 g3 _ kp => wpAny_pyIter_zip hz ?_
        have J2 : Inv X pins σ H1 { s1 with heap := h' } := J.kept (t' := s1.toks) kp
        have S := zip_sep3 (N := s1.heap.objs.size) (fp1 := [a]) (fp2 := [b]) (fp3 := [c]) (fun y hy => by rw [List.mem_singleton.mp hy]; exact la) (fun y hy => by rw [List.mem_singleton.mp hy]; exact lb) (fun y hy => by rw [List.mem_singleton.mp hy]; exact lc)
        refine ⟨s1.heap.objs.size + 5, [s1.heap.objs.size + 5, s1.heap.objs.size + 3, s1.heap.objs.size + 4, s1.heap.objs.size, s1.heap.objs.size + 1, s1.heap.objs.size + 2], _, _, H1, rfl, J2, turn_zip3 S (Nat.ne_of_lt la) (Nat.ne_of_lt (Nat.lt_succ_of_lt lb)) (Nat.ne_of_lt (Nat.lt_succ_of_lt (Nat.lt_succ_of_lt lc))), ⟨hz, hTI, ⟨_, _, _, hTO⟩, ⟨_, g1, rfl, rfl⟩, ⟨_, g2, rfl, rfl⟩, ⟨_, g3, rfl, rfl⟩⟩, fun y hy => ?_, q⟩
        have ly : s1.heap.objs.size ≤ y := by
          simp only [List.mem_cons, List.not_mem_nil, or_false] at hy
          rcases hy with rfl | rfl | rfl | rfl | rfl | rfl
          · exact Nat.le_add_right _ _
          · exact Nat.le_add_right _ _
          · exact Nat.le_add_right _ _
          · exact Nat.le_refl _
          · exact Nat.le_add_right _ _
          · exact Nat.le_add_right _ _
        exact J.fpOk ly (J.hok.fresh ly)
/-! ### t[::-1] of a tuple -/
theorem fm_congr {α β : Type} {f g : α → Option β} : ∀ {l : List α}, (∀ x ∈ l, f x = g x) → l.filterMap f = l.filterMap g
  | [], _ => rfl
  | x :: l, h => by
    rw [List.filterMap_cons, List.filterMap_cons, h x (by simp), fm_congr (l := l) fun y hy => h y (List.mem_cons_of_mem _ hy)]
theorem back_pick (items : Array Value) : ((List.range items.size).filterMap fun (k : Nat) => items[((items.size : Int) - 1 + (k : Int) * (-1)).toNat]?).toArray = items.toList.reverse.toArray := by
  have e : (List.range items.size).filterMap (fun (k : Nat) => items[((items.size : Int) - 1 + (k : Int) * (-1)).toNat]?) = ((List.range items.size).map fun k => items.size - 1 - k).filterMap (items[·]?) := by
    rw [List.filterMap_map]
    refine fm_congr fun k hk => ?_
    have := List.mem_range.mp hk
    show _ = items[items.size - 1 - k]?
    congr 1
    omega
  rw [e, PySem.W.krv_range, List.filterMap_reverse, PySem.W.krv_all]
section
variable {P : Program} {w : World} {A : PySem.Around} {E : Value → Shared → Prop} {s : Shared}
theorem applied_back {sl : Addr} {vk : Value} {n : Nat} {Q : Int × Int × Nat → Shared → Prop} (hs : s.heap.IsSliceOf sl .none .none vk) (pk : IsPart vk (some (-1))) (h : Q ((n : Int) - 1, -1, n) s) : wpAny (model P w) A (Builtin.Slice.sliceApplied (.ref sl) (pure (n : Int))) Q E s := by
  obtain ⟨os, look, _, flds⟩ := id hs
  unfold Builtin.Slice.sliceApplied Builtin.Slice.sliceFields
  refine wpAny_bind (wpAny_bind (wpAny_field look flds (x := .none) rfl (wpAny_bind (wpAny_field look flds (x := .none) rfl (wpAny_bind (wpAny_field look flds (x := vk) rfl (wpAny_pure ?_)))))))
  refine wpAny_bind (HT.slicePart_ pk ?_)
  show wpAny _ _ (if ((-1 : Int) == 0) = true then _ else _) _ _ s
  rw [if_neg (by decide)]
  refine wpAny_bind (HT.slicePart_ .none (wpAny_bind (HT.slicePart_ .none (wpAny_bind (wpAny_pure ?_)))))
  have pl : Builtin.Slice.slicePlaces ((n : Int) - 1) (-1) (-1) = n := by
    unfold Builtin.Slice.slicePlaces
    rw [if_neg (by decide)]
    by_cases z : (n : Int) - 1 > -1
    · rw [if_pos z, show (-(-1) : Int) = 1 from by decide, Int.ediv_one]
      omega
    · rw [if_neg z]
      omega
  show wpAny _ _ (pure ((n : Int) - 1, (-1 : Int), Builtin.Slice.slicePlaces ((n : Int) - 1) (-1) (-1))) _ _ s
  rw [pl]
  exact wpAny_pure h
theorem getItem_back {t sl : Addr} {items : Array Value} {vk : Value} {Q : Value → Shared → Prop} (ht : IsTup s.heap t items) (hs : s.heap.IsSliceOf sl .none .none vk) (pk : IsPart vk (some (-1))) (hsz : items.size ≤ sizeLine)
    (h : Q (.ref s.heap.objs.size) { s with heap := s.heap.push { cls := .type "tuple", data := .seq items.toList.reverse.toArray } }) : wpAny (model P w) A (getItem (.ref t) (.ref sl)) Q E s := by
  have small : sizeOk (.seq items.toList.reverse.toArray) := by
    show items.toList.reverse.toArray.size ≤ sizeLine
    rw [List.size_toArray, List.length_reverse, Array.length_toList]
    exact hsz
  obtain ⟨os, look, kind, _⟩ := id hs
  have isSl : s.TypeIs (.ref sl) "slice" := ⟨os, look, kind⟩
  unfold getItem
  try with_reducible refine wpAny_holding ?_
  first | refine wpAny_bind (wpAny_pure ?_) | skip
  refine wpAny_bind (wpAny_sequenceKey ht.typeIs (by decide) ?_)
  refine wpAny_bind (wpAny_callSpecial?_slot (name := Str.ofString "__getitem__") ht.typeIs PyProof.Rows.slot_tuple_getitem (wpAny_call_entry PyProof.Rows.slot_tuple_getitem ht.typeIs PySem.F.entry_tuple_getitem ?_ (PySem.F.args_tuple_getitem_2 _ _)))
  show wpAny _ _ (Builtin.Tuple.tupleItemsOf (.ref t) >>= _) _ _ s
  refine wpAny_bind (tupleItemsOf_ ht ?_)
  refine wpAny_bind (wpAny_typeOf isSl ?_)
  rw [if_pos (by decide)]
  refine wpAny_bind (applied_back hs pk ?_)
  have no : ¬ (((items.size : Int) - 1 == 0 && (-1 : Int) == 1 && items.size == items.size) = true) := by
    intro z
    rw [Bool.and_eq_true, Bool.and_eq_true] at z
    exact absurd z.1.2 (by decide)
  show wpAny _ _ (if ((items.size : Int) - 1 == 0 && (-1 : Int) == 1 && items.size == items.size) = true then _ else _) _ _ s
  rw [if_neg no, back_pick]
  first
    | exact wpAny_bind (m := Builtin.Tuple.tupleExact _) (wpAny_newObj_type (wpAny_pure ⟨_, rfl, wpAny_pure h⟩) small)
    | exact wpAny_bind (wpAny_bind (m := Builtin.Tuple.tupleExact _) (wpAny_newObj_type (wpAny_pure (wpAny_pure ⟨_, rfl, wpAny_pure h⟩)) small))
    | exact wpAny_bind (m := Builtin.Tuple.tupleExact _) (wpAny_newObj_type (wpAny_bind (wpAny_pure (wpAny_pure ⟨_, rfl, wpAny_pure h⟩))) small)
end
def tRevT (K : PySem.W.Frag) (te : TE) : TE := fun σ H Q => te σ H fun x H1 => ∃ a xs, x = .ref a ∧ SqT K H1 a xs ∧ ∀ p, H1 p = none → Q (.ref p) (upd H1 p (.tup xs.reverse))
theorem pe_revT {X : Cx} {e : Expr} {te : TE} {k : Nat} {p1 p2 p3 pos : Pos} (he : PE X e te) : PE X (.Subscript e (.Slice none none (some (.UnaryOp .USub (.Constant (.int 1) k p1) p2)) p3) pos) (tRevT X.K te) := by
  refine ⟨fun pins s σ H Q I want => Subscript_ (thn (he.run pins s σ H _ I want) fun v s1 got => ?_)⟩
  obtain ⟨x, H1, I1, r1, a, xs, ex, hx, q⟩ := got
  subst ex
  obtain rfl : v = Value.ref a := r1
  have step : PO X (some (.UnaryOp .USub (.Constant (.int 1) k p1) p2)) (tPart (tUn (rU fun i => .int (-i)) (tC (.int 1)))) := po_some (pe_un un_neg pe_int)
  refine wpAny_Slice (thn (po_none.run pins s1 σ H1 (fun o H2 => o = none ∧ H2 = H1) I1 ⟨rfl, rfl⟩) fun vl s2 got2 => ?_)
  obtain ⟨_, _, I2, pl, rfl, rfl⟩ := got2
  refine thn (po_none.run pins s2 σ _ (fun o H3 => o = none ∧ H3 = _) I2 ⟨rfl, rfl⟩) fun vu s3 got3 => ?_
  obtain ⟨_, _, I3, pu, rfl, rfl⟩ := got3
  refine thn (step.run pins s3 σ _ (fun o H4 => o = some (-1) ∧ H4 = _) I3 ⟨1, rfl, -1, rfl, rfl, rfl⟩) fun vk s4 got4 => ?_
  obtain ⟨_, H4, I4, pk, rfl, rfl⟩ := got4
  cases pl
  cases pu
  have I5 : Inv X pins σ H4 { s4 with heap := s4.heap.push { cls := .type "slice", data := .fields #[.none, .none, vk] } } := I4.kept (t' := s4.toks) fun b ob z => Heap.get?_push_of_some _ z
  obtain ⟨its, rel, tup, small⟩ := I5.tuple hx
  have hlen := rel.length
  show wpAny (model X.prog X.w) X.A (subscriptTail e (.Slice none none (some (.UnaryOp .USub (.Constant (.int 1) k p1) p2)) p3) (.ref a) (.ref s4.heap.objs.size)) (EP X pins σ Q) X.xe _
  refine tail_any (ops := [.ref a, .ref s4.heap.objs.size]) tup.typeIs PyProof.Rows.slot_tuple_getitem.lookup ?_ (by with_unfolding_all rfl)
  refine getItem_back tup (Heap.IsSliceOf.new _ .none .none vk) pk (by rw [List.size_toArray]; omega) ?_
  refine ⟨.ref _, _, I5.laid (t' := s4.toks) (o := .tup xs.reverse) (fun b ob z => Heap.get?_push_of_some _ z) (Nat.le_refl _) ?_, rfl, q _ (I5.hok.fresh (Nat.le_refl _))⟩
  exact ⟨by rw [List.length_reverse]; exact small, _, rel.reverse, IsTup.new _ _⟩
/-! ### len(set(t)) of a tuple of ints -/
theorem sub_len : ∀ {ks ns : List Int}, ks.Nodup → (∀ x ∈ ks, x ∈ ns) → ks.length ≤ ns.length
  | [], _, _, _ => Nat.zero_le _
  | k :: ks, ns, nd, h => by
    rw [List.nodup_cons] at nd
    have hk := h k (by simp)
    have q := sub_len (ks := ks) (ns := ns.erase k) nd.2 fun x hx => (List.mem_erase_of_ne (fun z => nd.1 (by rw [← z]; exact hx))).mpr (h x (List.mem_cons_of_mem _ hx))
    rw [List.length_erase_of_mem hk] at q
    have : 0 < ns.length := List.length_pos_of_mem hk
    rw [List.length_cons]
    omega
theorem twice : ∀ {ns : List Int}, ¬ ns.Nodup → ∃ x, x ∈ ns ∧ x ∈ ns.erase x
  | [], h => absurd List.nodup_nil h
  | y :: l, h => by
    by_cases hy : y ∈ l
    · exact ⟨y, by simp, by rw [List.erase_cons_head]; exact hy⟩
    · have hl : ¬ l.Nodup := fun z => h (List.nodup_cons.mpr ⟨hy, z⟩)
      obtain ⟨x, h1, h2⟩ := twice hl
      refine ⟨x, List.mem_cons_of_mem _ h1, ?_⟩
      have ne : y ≠ x := fun z => hy (by rw [z]; exact h1)
      rw [List.erase_cons_tail (by simpa using ne)]
      exact List.mem_cons_of_mem _ h2
theorem many_iff {ks ns : List Int} (nd : ks.Nodup) (h : ∀ x, x ∈ ns ↔ x ∈ ks) : ks.length = ns.length ↔ ns.Nodup := by
  constructor
  · intro e
    by_cases hn : ns.Nodup
    · exact hn
    · obtain ⟨x, h1, h2⟩ := twice hn
      have q := sub_len (ns := ns.erase x) nd fun y hy => by
        by_cases e2 : y = x
        · rw [e2]
          exact h2
        · exact (List.mem_erase_of_ne e2).mpr ((h y).mpr hy)
      rw [List.length_erase_of_mem h1] at q
      have : 0 < ns.length := List.length_pos_of_mem h1
      omega
  · intro hn
    have q1 := sub_len nd fun y hy => (h y).mpr hy
    have q2 := sub_len hn fun y hy => (h y).mp hy
    omega
def tLenSet (K : PySem.W.Frag) (ta : TE) : TE := fun σ H Q => ta σ H fun x H1 => ∃ (l : Addr) (ns : List Int), x = .ref l ∧ SqT K H1 l (ns.map V.int) ∧ ns.length ≤ 4000 ∧ ∀ c : Nat, (c = ns.length ↔ ns.Nodup) → Q (.int c) H1
theorem pe_lenSetT {X : Cx} {a : Expr} {ta : TE} {p p2 q pos : Pos} (hg : Gl X "len") (hm : X.mg "len" = none) (hg2 : Gl X "set") (hm2 : X.mg "set" = none) (ha : PE X a ta) (hc : X.calm = true := by rfl)
    (na : starEach [a] X.env = (false, eval a X.env) :: starEach [] X.env := by rfl) : PE X (.Call (.Name "len" p) [.Call (.Name "set" p2) [a] [] q] [] pos) (tLenSet X.K ta) := by
  refine ⟨fun pins s σ H Q I want => Call_ (ld_blt I hg hm PySem.boot_len (PyProof.Rows.callWith_builtin1 (PyProof.Rows.args_cons (Call_ (ld_blt I hg2 hm2 PyProof.Rows.boot_set (PyProof.Rows.callWith_type1 (PyProof.Rows.args_cons (thn (ha.run pins s σ H _ I want) fun v s1 got => PyProof.Rows.args_nil ?_) na) na rfl))) rfl) rfl rfl))⟩
  obtain ⟨x, H1, J, r1, l, ns, ex, hq, hl, q1⟩ := got
  subst ex
  obtain rfl : v = Value.ref l := r1
  obtain ⟨its, rel, tup, _⟩ := J.tuple hq
  refine call_set_tupI ns (J.ok.hd hc) tup (by simpa using rel.ints) (by unfold scanBound; omega) fun h' tk c hS hcl kp => PyProof.Rows.args_nil ?_
  obtain ⟨o, es, ep, t, ho, hex, hd, _, nd, mem, _, hf, hn, _⟩ := hS
  have J2 : Inv X pins σ H1 { s1 with heap := h', toks := tk } := J.kept kp
  have len : (es.toList.map keyOf).length = c := by rw [List.length_map, Array.length_toList, hn]
  have key : c = ns.length ↔ ns.Nodup := by
    rw [← len]
    refine many_iff nd fun y => ?_
    rw [← mem y, decide_eq_true_iff]
  exact call_len_set ho hex hd hf (by omega) ⟨.int c, H1, J2.tok _, ⟨_, by rw [hn]⟩, q1 c key⟩
/-! ### sorted(t), a tuple of fewer than 64 ints -/
def rSortT (K : PySem.W.Frag) : List V → Hp → VK → Prop := fun vs H Q => ∃ (a : Addr) (ns : List Int), vs = [V.ref a] ∧ SqT K H a (ns.map V.int) ∧ ns.length < 64 ∧
  ∀ (ys : List Int) (p : Addr), ys.Perm ns → ys.Pairwise (· ≤ ·) → H p = none → Q (.ref p) (upd H p (.lst (ys.map V.int)))
theorem cr_sortT {X : Cx} (hc : X.calm = true) : CallR X (.builtin "sorted") (rSortT X.K) := by
  intro pins s σ H vs us Q I rel want
  obtain ⟨a, ns, ex, hq, few, q⟩ := want
  subst ex
  obtain ⟨u, eu, rx⟩ := vals1 rel
  subst eu
  obtain rfl : u = Value.ref a := rx
  obtain ⟨its, rv, tup, small⟩ := I.tuple hq
  have len : its.length = ns.length := by rw [← rv.length, List.length_map]
  refine Calls.call_function_entry PyProof.Rows.kind_sorted PyProof.Rows.plain_sorted PyProof.Rows.entry_sorted (PyProof.Rows.args_sorted1 _) ?_
  unfold Builtin.«sorted»
  refine wpAny_bind (m := checkCount "sorted" 1 1 _) (wpAny_pure ?_)
  obtain ⟨o, ho, hcls, m, hd⟩ := tup
  refine wpAny_bind (wpAny_collect_seq a (.inr rfl) ho hcls hd (fun h' kp => ?_) (by rw [List.size_toArray, len, sizeLine_eq]; omega))
  have hS : IntsAre its.toArray.toList ns := by simpa using rv.ints
  have J : Inv X pins σ H { s with heap := h' } := I.kept (t' := s.toks) kp
  have hal : its.toArray.toList.length = ns.length := by simpa using len
  refine wpAny_bind (wpAny_newList ?_ (by rw [hal, sizeLine_eq]; omega))
  have new : (h'.push (seqObj "list" its.toArray.toList.toArray 0)).get? h'.objs.size = some (seqObj "list" its.toArray.toList.toArray 0) := Heap.get?_push_size _ rfl
  show wpAny _ _ _ _ _ { s with heap := h'.push (seqObj "list" its.toArray.toList.toArray 0) }
  refine wpAny_bind (wpAny_holding (wpAny_call_entry PyProof.Rows.slot_list_sort ⟨_, new, rfl⟩ PyProof.Rows.entry_list_sort
    (PyProof.Rows.list_sort_tree (s := { s with heap := h'.push (seqObj "list" its.toArray.toList.toArray 0) }) new hS (by rw [hal]; exact few) fun out ys o1 o2 o3 => ⟨_, rfl, ?_⟩) (PyProof.Rows.args_list_sort _)))
  obtain ⟨e', he'⟩ := PyProof.Rows.sortedHeap_at (vs := its.toArray.toList) (out := out) new
  have fits : (ys.map V.int).length ≤ sizeLine := by
    rw [List.length_map, o2.length_eq, sizeLine_eq]
    omega
  refine wpAny_pure ⟨_, rfl, .ref h'.objs.size, upd H h'.objs.size (.lst (ys.map V.int)), J.laid (t' := s.toks) (fun b u e => ?_) (Nat.le_refl _)
    (show ObjOk X.prog X.w _ _ _ (.lst (ys.map V.int)) from ⟨fits, out.toList, e', vals_of_ints o1, by rw [Array.toArray_toList]; exact he'⟩), rfl, q ys _ o2 o3 (J.hok.fresh (Nat.le_refl _))⟩
  have lb : b < h'.objs.size := Heap.lt_size e
  rw [PyProof.Rows.sortedHeap_old (Nat.ne_of_lt lb) (by rw [size_push']; exact Nat.lt_succ_of_lt lb)]
  exact Heap.get?_push_of_some _ e
/-! ### webs turned -/
theorem Same.seqT {K : PySem.W.Frag} {H H' : Hp} {a : Addr} {xs : List V} (e : Same H H') (h : SqT K H a xs) : SqT K H' a xs := by
  rcases h with (h | ⟨o, h⟩) | h
  · exact .inl (.inl (e _ _ h))
  · exact .inl (.inr ⟨o, e _ _ h⟩)
  · exact .inr h
def inP (ps : List Int) (i : Int) : Bool := decide (i ∈ ps)
def flipT (t : Tie) : Tie := ⟨t.one, t.other, !t.foe⟩
def turnT (ps : List Int) (t : Tie) : Tie := if inP ps t.one = inP ps t.other then t else flipT t
def AmongAt (H : Hp) (D : Addr) (ps : List Int) : Prop := ∃ kvs : List (Key × V), H D = some (.dK kvs) ∧ ∀ k : Int, (valV kvs (Sum.inl k)).isSome = inP ps k
theorem AmongAt.same {H H' : Hp} {D : Addr} {ps : List Int} (h : AmongAt H D ps) (s : Same H H') : AmongAt H' D ps := by
  obtain ⟨kvs, h1, h2⟩ := h
  exact ⟨kvs, s _ _ h1, h2⟩
def spTurnedTie : Sp := fun vs H Q _ => ∃ (v : V) (D : Addr) (t : Tie) (ps : List Int), vs = [v, .ref D] ∧ TieV H v t ∧ AmongAt H D ps ∧ ∀ u H', Same H H' → TieV H' u (turnT ps t) → Q u H'
def spTurned (K : PySem.W.Frag) : Sp := fun vs H Q _ => ∃ (v : V) (p : Addr) (n : Int) (ts : List Tie) (ps : List Int), vs = [v, .ref p] ∧ WebAt H v n ts ∧ ts.length ≤ 120 ∧ SqT K H p (ps.map V.int) ∧ ps.length ≤ 40 ∧
  ∀ u H', Same H H' → WebAt H' u n (ts.map (turnT ps)) → Q u H'
theorem inP_take {ps : List Int} {i : Nat} {x : Int} (h : ps[i]? = some x) (k : Int) : inP (ps.take (i + 1)) k = (decide (k = x) || inP (ps.take i) k) := by
  unfold inP
  rw [List.take_add_one, h]
  by_cases e1 : k = x
  · subst e1
    simp
  · by_cases e2 : k ∈ ps.take i
    · rw [decide_eq_true e2, decide_eq_true (List.mem_append_left _ e2)]
      simp
    · rw [decide_eq_false e2, decide_eq_false e1, decide_eq_false]
      · rfl
      · intro h
        rcases List.mem_append.mp h with h | h
        · exact e2 h
        · simp at h
          exact e1 h
theorem map_take_succ {α β : Type} {f : α → β} {xs : List α} {i : Nat} {x : α} (h : xs[i]? = some x) : (xs.take (i + 1)).map f = (xs.take i).map f ++ [f x] := by
  rw [List.take_add_one, h, List.map_append]
  rfl
section
variable {P : Program} {w : World} {K : PySem.W.Frag} {mg : Str → Option Value} {base : Heap}
end
/-! ### data that repr tells -/
structure Fine (k w : Nat) (d : PyData) : Prop where
  lay : d.canLay0 = true
  shw : d.showable = true
  nod : d.hasDict = false
  sho : d.intsShort 13 = true
  dep : d.depth ≤ k
  wei : d.weight ≤ w
theorem Fine.int {i : Int} (h0 : -1000 ≤ i) (h1 : i < 1000) : Fine 0 10 (.int i) := by
  have hn : i.natAbs < 1024 := by omega
  have hl : i.natAbs.log2 < 10 ∨ i.natAbs = 0 := by
    by_cases e : i.natAbs = 0
    · exact .inr e
    · exact .inl ((Nat.log2_lt e).mpr (by omega))
  have hl2 : i.natAbs.log2 < 1920 := by
    rcases hl with h | h
    · omega
    · rw [h]
      decide
  refine ⟨rfl, ?_, rfl, ?_, Nat.le_refl _, ?_⟩
  · rw [PyData.showable]
    exact decide_eq_true hl2
  · have h3 := PyProof.Rows.intsShortAll_ints2 [i] (fun n hn => by rw [List.mem_singleton.mp hn]; omega)
    simpa [PyData.intsShortAll] using h3
  · rw [PyData.weight]
    split
    · omega
    · rename_i e
      rcases hl with h | h
      · omega
      · exact absurd (by simpa using h) e
theorem Fine.non : Fine 0 0 .none := ⟨rfl, rfl, rfl, rfl, Nat.le_refl _, Nat.le_refl _⟩
theorem Fine.bool (b : Bool) : Fine 0 0 (.bool b) := ⟨rfl, rfl, rfl, rfl, Nat.le_refl _, Nat.le_refl _⟩
theorem Fine.str {x : Str} (h1 : (PyData.str x).canLay0 = true) (h2 : x.cps.size ≤ 100) : Fine 0 100 (.str x) := ⟨h1, rfl, rfl, rfl, Nat.le_refl _, h2⟩
theorem Fine.mono {k k' w w' : Nat} {d : PyData} (h : Fine k w d) (hk : k ≤ k') (hw : w ≤ w') : Fine k' w' d := ⟨h.lay, h.shw, h.nod, h.sho, Nat.le_trans h.dep hk, Nat.le_trans h.wei hw⟩
theorem fine_all {k w : Nat} : ∀ {xs : List PyData}, (∀ x ∈ xs, Fine k w x) → PyData.canLayAll0 xs = true ∧ PyData.showableAll xs = true ∧ PyData.hasDictAll xs = false ∧ PyData.intsShortAll 13 xs = true ∧ PyData.depthAll xs ≤ k ∧ PyData.weightAll xs ≤ xs.length * (w + 1)
  | [], _ => by simp [PyData.canLayAll0, PyData.showableAll, PyData.hasDictAll, PyData.intsShortAll, PyData.depthAll, PyData.weightAll]
  | x :: xs, h => by
    obtain ⟨h1, h2, h3, h4, h5, h6⟩ := fine_all (xs := xs) fun y hy => h y (List.mem_cons_of_mem _ hy)
    obtain ⟨g1, g2, g3, g4, g5, g6⟩ := h x (by simp)
    refine ⟨by rw [PyData.canLayAll0, g1, h1]; rfl, by rw [PyData.showableAll, g2, h2]; rfl, by rw [PyData.hasDictAll, g3, h3]; rfl, by rw [PyData.intsShortAll, g4, h4]; rfl, ?_, ?_⟩
    · rw [PyData.depthAll]
      omega
    · rw [PyData.weightAll, List.length_cons, Nat.succ_mul]
      omega
theorem Fine.tup {k w n : Nat} {xs : List PyData} (h : ∀ x ∈ xs, Fine k w x) (hn : xs.length ≤ n) : Fine (k + 1) (n * (w + 1)) (.tuple xs) := by
  obtain ⟨h1, h2, h3, h4, h5, h6⟩ := fine_all h
  refine ⟨by rw [PyData.canLay0]; exact h1, by rw [PyData.showable]; exact h2, by rw [PyData.hasDict]; exact h3, by rw [PyData.intsShort]; exact h4, by rw [PyData.depth]; omega, ?_⟩
  rw [PyData.weight]
  exact Nat.le_trans h6 (Nat.mul_le_mul_right _ hn)
theorem Fine.len {k w : Nat} {d : PyData} (h : Fine k w d) (hk : k ≤ 60) (hw : w ≤ 1000000) : d.shown.length ≤ sizeLine := by
  have hl : PyData.layable0 d = true := by
    unfold PyData.layable0
    rw [h.lay, decide_eq_true (show d.depth ≤ 64 by have := h.dep; omega), decide_eq_true (show d.weight ≤ 2 ^ 20 by have := h.wei; omega)]
    rfl
  have := PyProof.Rows.shown_le13 hl h.sho
  rw [sizeLine_eq]
  omega
def tieD (t : Tie) : PyData := .tuple [.int t.one, .int t.other, .str (kindS t.foe)]
def webD (n : Int) (ts : List Tie) : PyData := .tuple [.int n, .tuple (ts.map tieD)]
theorem kind_ok (b : Bool) : (PyData.str (kindS b)).canLay0 = true ∧ (kindS b).cps.size ≤ 100 := by cases b <;> decide +kernel
theorem Fine.tie {n : Int} {t : Tie} (h : TieOk n t) (hn : n ≤ 40) : Fine 1 303 (tieD t) := by
  obtain ⟨h1, h2, h3, h4, _⟩ := h
  refine (Fine.tup (k := 0) (w := 100) (n := 3) (fun x hx => ?_) (Nat.le_refl _)).mono (Nat.le_refl _) (by decide)
  simp only [List.mem_cons, List.not_mem_nil, or_false] at hx
  rcases hx with rfl | rfl | rfl
  · exact (Fine.int (by omega) (by omega)).mono (Nat.le_refl _) (by decide)
  · exact (Fine.int (by omega) (by omega)).mono (Nat.le_refl _) (by decide)
  · exact Fine.str (kind_ok _).1 (kind_ok _).2
theorem Fine.web {n : Int} {ts : List Tie} (h : WebOk n ts) : Fine 3 80000 (webD n ts) := by
  have h1 := h.lo
  have h2 := h.hi
  have ft : Fine 2 36480 (.tuple (ts.map tieD)) := (Fine.tup (k := 1) (w := 303) (n := 120) (fun x hx => by
    obtain ⟨t, ht, rfl⟩ := List.mem_map.mp hx
    exact Fine.tie (h.ok t ht) h2) (by rw [List.length_map]; exact h.few)).mono (Nat.le_refl _) (by decide)
  refine (Fine.tup (k := 2) (w := 36480) (n := 2) (fun x hx => ?_) (Nat.le_refl _)).mono (Nat.le_refl _) (by decide)
  simp only [List.mem_cons, List.not_mem_nil, or_false] at hx
  rcases hx with rfl | rfl
  · exact (Fine.int (by omega) (by omega)).mono (by decide) (by decide)
  · exact ft
theorem Fine.intsD {xs : List Int} (h : ∀ x ∈ xs, 0 ≤ x ∧ x < 1000) (hl : xs.length ≤ 200) : Fine 1 2200 (intsD xs) :=
  (Fine.tup (k := 0) (w := 10) (n := 200) (fun x hx => by
    obtain ⟨i, hi, rfl⟩ := List.mem_map.mp hx
    have := h i hi
    exact Fine.int (by omega) (by omega)) (by rw [List.length_map]; exact hl)).mono (Nat.le_refl _) (by decide)
theorem dp_ties {K : PySem.W.Frag} {H : Hp} : ∀ {vs : List V} {ts : List Tie}, Paired (TieV H) vs ts → DpAll K H vs (ts.map tieD)
  | _, _, .nil => .nil
  | _, _, .cons r t => by
    obtain ⟨a, rfl, e⟩ := r
    exact .cons (.tup (SqT.of e) (.cons (.int _) (.cons (.int _) (.cons (.str _) .nil)))) (dp_ties t)
theorem WebAt.dp {K : PySem.W.Frag} {H : Hp} {v : V} {n : Int} {ts : List Tie} (h : WebAt H v n ts) : Dp K H v (webD n ts) := by
  obtain ⟨a, b, vs, rfl, h1, h2, h3⟩ := h
  exact .tup (SqT.of h1) (.cons (.int _) (.cons (.tup (SqT.of h2) (dp_ties h3)) .nil))
/-! ### drawn places -/
theorem in_ints (ps : List Int) (i : Int) : inV (.int i) (ps.map V.int) = inP ps i := by
  rw [Bool.eq_iff_iff]
  unfold inV inP
  rw [List.any_map, List.any_eq_true, decide_eq_true_iff]
  constructor
  · rintro ⟨x, hx, e⟩
    have e' : (x == i) = true := e
    rw [beq_iff_eq] at e'
    subst e'
    exact hx
  · intro h
    exact ⟨i, h, by show (i == i) = true; simp⟩
theorem rgV_rng (m : Int) : rgV 0 m = (rng m.toNat).map V.int := by
  unfold rgV rng
  rw [List.map_map]
  have e : (m - 0).toNat = m.toNat := by omega
  rw [e]
  refine List.map_congr_left fun i _ => ?_
  show V.int (0 + (i : Nat)) = V.int (i : Nat)
  rw [Int.zero_add]
theorem rising_nodup {xs : List Int} (h : xs.Pairwise (· < ·)) : xs.Nodup := h.imp fun h => by omega
theorem filter_rng_succ (p : Int → Bool) (i : Nat) : ((rng (i + 1)).filter p).map V.int = ((rng i).filter p).map V.int ++ (if p i = true then [V.int i] else []) := by
  rw [rng_succ, List.filter_append, List.map_append, List.filter_cons]
  by_cases h : p i = true
  · rw [if_pos h, if_pos h]
    rfl
  · rw [if_neg h, if_neg h]
    rfl
theorem filter_rng_len (p : Int → Bool) (i : Nat) : ((rng i).filter p).length ≤ i := by
  have := List.length_filter_le p (rng i)
  rw [rng_length] at this
  exact this
def spPlaces : Sp := fun vs H Q _ => ∃ (d : Addr) (b : Nat) (n : Int), vs = [.ref d, .int n] ∧ Well H d b ∧ b < 2 ^ 50 ∧ 1 ≤ n ∧ n ≤ 40 ∧
  ∀ (p : Addr) (ps : List Int) (H' : Hp), NoD H' p (ps.map V.int) → ps.Pairwise (· < ·) → (∀ x ∈ ps, 0 ≤ x ∧ x < n) → ps.length ≤ 40 → Well H' d (b + 100) → Kp d d H H' → Q (.ref p) H'
section
variable {P : Program} {w : World} {K : PySem.W.Frag} {mg : Str → Option Value} {base : Heap}
theorem ok_l_places {f : Addr} {fd : FuncData} (F : Fun K "_law_places" "_law_places" s_l_places f fd) (M : Free mg) (Dd : Df P w K mg base 1 "_law_draw" ["_law_well_here", "_law_most"] spDraw) : FnOk P w K mg base CX0 2 f fd ["_law_well_here", "_law_many"] spPlaces := by
  obtain ⟨fD, fdD, GD, gD, kD, bD⟩ := Dd
  refine F.ok sc_l_places (fun vs H Q E h => ?_) (fun cdv A outer s H vs Q E hr h => ?_)
  · obtain ⟨d, b, n, rfl, _⟩ := h
    rfl
  · obtain ⟨d, b, n, rfl, hD, hB, hn1, hn2, q⟩ := h
    obtain ⟨k, rfl⟩ : ∃ k : Nat, n = k := ⟨n.toNat, by omega⟩
    refine ⟨_, (pss_cons (ps_set (i := 2) sc_l_places.nd rfl (.inl rfl) (pe_call GD hr (by rfl) gD kD bD .nil pass0 (pa_cons (pv 0) (pa_cons pe_int pa_nil))))
      (pss_cons (ps_if (pt_cmpR op_lt (pv 2) pe_int (nomark _))
        (pss_one (ps_ret (pe_tupRgZ rfl (by rfl) M.tuple (prg_1 (by rfl) M.range (pe_op op_mul (pv 1) (pv 2))))))
        pss_nil)
      (pss_one (ps_ret (pe_callTy call_tuple_ofZ (by rfl) M.tuple (by decide +kernel) (pa_cons (pe_lc (own := [("_law_place", 3)]) (g := gName 3) (te := tVar 3) rfl sc_l_places.nd (pi_range1 (by rfl) M.range (pa_cons (pv 1) pa_nil)) (blkOk_by (N := N_l_places) (sc := defScope s_l_places) (own := [("_law_place", 3)]) (by decide +kernel)) (fun _ _ _ _ _ => (pg_name (i := 3) sc_l_places.nd rfl (.inl rfl))) (fun _ _ _ _ _ => (pts_one (pt_cmpR op_eq (pe_call GD hr (by rfl) gD kD bD .nil pass0 (pa_cons (pv 0) (pa_cons pe_int pa_nil))) pe_int (nomark _)))) (fun _ _ _ _ _ => (pv 3))) pa_nil)))))), ?_⟩
    refine ⟨.ref d, rfl, d, b, 8, rfl, hD, by omega, by decide, by decide, fun v H1 a1 b1 D1 K1 => ?_⟩
    refine ⟨.int v, rfl, v, 2, rfl, rfl, _, rfl, ite2 (fun e => ?_) (fun e => ?_)⟩
    · have hv := of_decide_eq_true e
      have hm : 0 ≤ (k : Int) * v ∧ (k : Int) * v ≤ k := by
        have h01 : v = 0 ∨ v = 1 := by omega
        rcases h01 with e | e <;> subst e <;> omega
      refine ⟨.int k, rfl, .int v, rfl, k, v, rfl, rfl, .inl ⟨by omega, by omega⟩, _, rfl, RgOk.of_le (by omega) (by omega) (by omega) (by omega), fun r o od nr => ?_⟩
      refine q r (rng ((k : Int) * v).toNat) _ ⟨o, od, by rw [upd_same, rgV_rng]⟩ (rng_rising _) (fun x hx => ?_) (by rw [rng_length]; omega) ((D1.new nr).mono (by omega)) (K1.trans (Kp.new nr))
      have := mem_rng.mp hx
      omega
    · refine ⟨.int k, rfl, k, rfl, by omega, by omega, fun Z nZ => ?_⟩
      rw [Int.toNat_natCast]
      have hZd := D1.ned nZ
      have nZ0 := K1.free nZ hZd hZd
      refine lc_range (lo := 0) (n := k) (fun i H' => ∃ ps : List Int, H' Z = some (.lst (ps.map V.int)) ∧ ps.length ≤ i ∧ ps.Pairwise (· < ·) ∧ (∀ x ∈ ps, 0 ≤ x ∧ x < i) ∧ Well H' d (b + 1 + i) ∧ Kp d d H H') ⟨[], upd_same, Nat.le_refl _, .nil, fun x hx => by simp at hx, D1.new nZ, K1.trans (Kp.new nZ)⟩ ?_ ?_
      · rintro i H2 hi ⟨ps, h2, l2, r2, o2, D2, K2⟩
        refine ⟨rfl, .ref d, rfl, d, _, 2, rfl, D2, by omega, by decide, by decide, fun y H3 a3 b3 D3 K3 => ⟨rfl, _, rfl, ?_⟩⟩
        have h3 := K3 _ _ hZd hZd h2
        refine ite2 (fun _ => ?_) (fun _ => ?_)
        · rw [show (0 : Int) + (i : Nat) = i from by omega]
          refine ⟨.int i, rfl, _, h3, by rw [List.length_map]; exact small1000 (by omega), ps ++ [(i : Int)], by rw [upd_same, List.map_append]; rfl, by rw [List.length_append]; show ps.length + 1 ≤ i + 1; omega, ?_, fun x hx => ?_, (D3.mut hZd).mono (by omega), (K2.trans K3).mut nZ0⟩
          · rw [List.pairwise_append]
            refine ⟨r2, by simp, fun x hx y hy => ?_⟩
            rw [List.mem_singleton.mp hy]
            exact (o2 x hx).2
          · rcases List.mem_append.mp hx with h | h
            · have := o2 x h
              omega
            · rw [List.mem_singleton.mp h]
              omega
        · exact ⟨ps, h3, by omega, r2, fun x hx => by have := o2 x hx; omega, D3.mono (by omega), K2.trans K3⟩
      · rintro H2 ⟨ps, h2, l2, r2, o2, D2, K2⟩
        refine ⟨Z, _, rfl, SqL.of h2, fun r o od nr => ?_⟩
        exact q r ps _ ⟨o, od, upd_same⟩ r2 o2 (by omega) ((D2.new nr).mono (by omega)) (K2.trans (Kp.new nr))
end
/-! ### the law's own turning -/
theorem cnt_in : ∀ {ps : List Int}, ps.Nodup → ∀ k : Int, ps.count k = if inP ps k = true then 1 else 0
  | [], _, k => rfl
  | x :: xs, nd, k => by
    have nd' := List.nodup_cons.mp nd
    rw [List.count_cons, cnt_in nd'.2 k]
    unfold inP
    by_cases e : x = k
    · subst e
      rw [decide_eq_false nd'.1]
      simp
    · by_cases h : k ∈ xs
      · rw [decide_eq_true h, decide_eq_true (List.mem_cons_of_mem _ h)]
        simp [e]
      · rw [decide_eq_false h, decide_eq_false (fun z => (List.mem_cons.mp z).elim (fun z => e z.symm) h)]
        simp [e]
def spAbout : Sp := fun vs H Q _ => ∃ (v : V) (p : Addr) (n : Int) (ts : List Tie) (ps : List Int), vs = [v, .ref p] ∧ WebAt H v n ts ∧ ts.length ≤ 120 ∧ NoD H p (ps.map V.int) ∧ ps.Nodup ∧
  ∀ u H', Same H H' → WebAt H' u n (ts.map (turnT ps)) → Q u H'
theorem flips (b : Bool) : valV (mergeK [] [((Sum.inr "friend" : Key), V.str "foe"), (Sum.inr "foe", V.str "friend")]) (Sum.inr (kindS b)) = some (.str (kindS (!b))) := by
  cases b <;> decide
section
variable {P : Program} {w : World} {K : PySem.W.Frag} {mg : Str → Option Value} {base : Heap}
theorem ok_l_about {f : Addr} {fd : FuncData} (F : Fun K "_law_about" "_law_about" s_l_about f fd) (M : Free mg) : FnOk P w K mg base CX0 1 f fd ["_law_web_here", "_law_places_here"] spAbout := by
  refine F.ok sc_l_about (fun vs H Q E h => ?_) (fun cdv A outer s H vs Q E hr h => ?_)
  · obtain ⟨v, p, n, ts, ps, rfl, _⟩ := h
    rfl
  · obtain ⟨v, p, n, ts, ps, rfl, ⟨wa, wb, us, rfl, hwa, hwb, hp⟩, few, hP, nd, q⟩ := h
    have hu := hu_of hr
    refine ⟨_, (pss_cons (ps_set (i := 2) sc_l_about.nd rfl (.inl rfl) (pe_disp (pps_cons pe_str pe_str (pps_cons pe_str pe_str pps_nil)) (by rfl) (by rfl) (fun z => by cases z) (by decide)))
      (pss_cons (ps_set (i := 3) sc_l_about.nd rfl (.inl rfl) (pe_lst pa_nil))
      (pss_cons (ps_for PassesOwn.never rfl (pi_tup (pe_ix ix_tup (pv 0) pe_int (fun _ _ => rfl))) (pg_name (i := 4) sc_l_about.nd rfl (.inl rfl))
        (Evl.pss_cut (ps_if (pt_cmpR op_eq (pe_op op_add (pe_bmT PySem.F.slot_tuple_count PySem.F.type_tuple_count mt_tcount (pv 1) (pa_cons (pe_ix ix_tup (pv 4) pe_int (fun _ _ => rfl)) pa_nil)) (pe_bmT PySem.F.slot_tuple_count PySem.F.type_tuple_count mt_tcount (pv 1) (pa_cons (pe_ix ix_tup (pv 4) pe_int (fun _ _ => rfl)) pa_nil))) pe_int (nomark _))
          (pss_one (ps_set (i := 4) sc_l_about.nd rfl (.inl rfl) (pe_op op_catU (pe_slice sl_tupU (pv 4) po_none (po_some pe_int)) (pe_tup (pa_cons (pe_dget hu (pv 2) (pe_ix ix_tup (pv 4) pe_int (fun _ _ => rfl)) (fun _ _ => rfl)) pa_nil)))))
          pss_nil)
        (pss_one (ps_expr (pe_bm PySem.F.plainAttrs_list PySem.F.slot_list_append PySem.F.type_list_append mt_append (pv 3) (pa_cons (pv 4) pa_nil))))))
      (pss_one (ps_ret (pe_tup (pa_cons (pe_ix ix_tup (pv 0) pe_int (fun _ _ => rfl)) (pa_cons (pe_callTy call_tuple_of (by rfl) M.tuple (by decide +kernel) (pa_cons (pv 3) pa_nil)) pa_nil)))))))), ?_⟩
    refine fun D nD => ⟨upd_same, [((Sum.inr "friend" : Key), V.str "foe"), (Sum.inr "foe", V.str "friend")], rfl, by decide, ?_⟩
    rw [upd_upd]
    generalize hkv : mergeK [] [((Sum.inr "friend" : Key), V.str "foe"), (Sum.inr "foe", V.str "friend")] = kvs
    have hk : ∀ b, valV kvs (Sum.inr (kindS b)) = some (.str (kindS (!b))) := fun b => by rw [← hkv]; exact flips b
    clear hkv
    have s1 : Same H (upd H D (.dK kvs)) := same_new nD
    have hD : (upd H D (.dK kvs)) D = some (.dK kvs) := upd_same
    generalize upd H D (.dK kvs) = H1 at s1 hD
    refine ⟨Nat.zero_le _, fun Z nZ => ?_⟩
    have s2 : Same H1 (upd H1 Z (.lst [])) := same_new nZ
    have hlen : us.length = ts.length := Paired.length hp
    refine ⟨.ref wa, rfl, wa, _, 1, .ref wb, rfl, rfl, SqT.of (s2 _ _ (s1 _ _ hwa)), rfl, wb, rfl, ⟨_, SqT.of (s2 _ _ (s1 _ _ hwb))⟩, ?_⟩
    refine for_tup (xs := us) (fun i σ' H' => ∃ (y4 : Option V) (vs : List V), σ' = [some (.ref wa), some (.ref p), some (.ref D), some (.ref Z), y4] ∧ H' Z = some (.lst vs) ∧ Paired (TieV H') vs ((ts.take i).map (turnT ps)) ∧ Same H1 H') ⟨none, [], rfl, upd_same, .nil, s2⟩ (fun i σ' H' _ h => by
      obtain ⟨y4, vs, _, _, _, s3⟩ := h
      exact SqT.of (s3 _ _ (s1 _ _ hwb))) ?_ ?_
    · rintro i x σ' H2 ex ⟨y4, vs, rfl, hZ, hv, s3⟩
      obtain ⟨t, et, a, rfl, hx⟩ := Paired.at hp ex
      have hi : i < us.length := (List.getElem?_eq_some_iff.mp ex).1
      have lv : vs.length = i := by
        rw [Paired.length hv, List.length_map, List.length_take]
        omega
      have s12 := s1.trans s3
      have hP2 := hP.same s12
      have hx2 := s12 _ _ hx
      refine ⟨fun σ' H' => ∃ u, σ' = [some (.ref wa), some (.ref p), some (.ref D), some (.ref Z), some u] ∧ TieV H' u (turnT ps t) ∧ Same H2 H', ?_, ?_⟩
      · refine ⟨.ref p, rfl, ⟨p, _, rfl, hP2⟩, .ref a, rfl, a, _, 0, _, rfl, rfl, SqT.of hx2, rfl, p, ps, t.one, rfl, rfl, hP2.sq, .ref p, rfl, ⟨p, _, rfl, hP2⟩, .ref a, rfl, a, _, 1, _, rfl, rfl, SqT.of hx2, rfl, p, ps, t.other, rfl, rfl, hP2.sq, _, _, rfl, rfl, rfl, _, rfl, ?_⟩
        rw [cnt_in nd, cnt_in nd]
        have e0 : ∀ x y : Bool, decide (V.int (((if x = true then 1 else 0 : Nat) : Int) + ((if y = true then 1 else 0 : Nat) : Int)) = V.int 1) = (x != y) := fun x y => by cases x <;> cases y <;> rfl
        rw [e0]
        by_cases e1 : inP ps t.one = inP ps t.other
        · rw [e1]
          have e2 : (inP ps t.other != inP ps t.other) = false := by cases inP ps t.other <;> rfl
          rw [e2]
          refine ⟨.ref a, rfl, ?_, Same.refl H2⟩
          unfold turnT
          rw [if_pos e1]
          exact ⟨a, rfl, hx2⟩
        · have e2 : (inP ps t.one != inP ps t.other) = true := by
            cases h1 : inP ps t.one <;> cases h2 : inP ps t.other <;> first | rfl | exact absurd (h1.trans h2.symm) e1
          rw [e2]
          refine ⟨.ref a, rfl, 2, rfl, a, _, rfl, hx2, fun r H3 s4 hr3 => ?_⟩
          have ec : cutV [V.int t.one, V.int t.other, V.str (kindS t.foe)] none (some 2) = [V.int t.one, V.int t.other] := rfl
          rw [ec] at hr3
          refine ⟨.ref D, rfl, .ref a, rfl, a, _, 2, _, rfl, rfl, SqT.of (s4 _ _ hx2), rfl, D, .str (kindS (!t.foe)), rfl, ?_, by show 1 ≤ sizeLine; decide, fun o no => ?_⟩
          · rw [← hk t.foe]
            exact DGet.k (k := Sum.inr (kindS t.foe)) (s4 _ _ (s3 _ _ hD))
          · refine ⟨r, o, _, _, rfl, rfl, same_new no _ _ hr3, upd_same, by show 3 ≤ 100000; decide, fun r5 H5 s5 h5 => ?_⟩
            refine ⟨_, rfl, ?_, (s4.trans (same_new no)).trans s5⟩
            unfold turnT
            rw [if_neg e1]
            exact ⟨r5, rfl, h5⟩
      · rintro σ' H3 ⟨u, rfl, hu3, s4⟩
        have hZ3 := s4 _ _ hZ
        refine ⟨.ref Z, rfl, .inl ⟨rfl, _, SqL.of hZ3⟩, u, rfl, Z, vs, _, rfl, rfl, hZ3, small1000 (by omega), ?_⟩
        refine ⟨_, vs ++ [u], rfl, upd_same, ?_, Same.mut (s3.trans s4) nZ⟩
        rw [map_take_succ et]
        exact Paired.snoc (ties_tk (tk_lst hZ3) (ties_tk (Same.tk s4) hv)) (hu3.tk (tk_lst hZ3))
    · rintro σ' H2 ⟨y4, vs, rfl, hZ, hv, s3⟩
      rw [hlen, List.take_length] at hv
      refine ⟨.ref wa, rfl, wa, _, 0, .int n, rfl, rfl, SqT.of (s3 _ _ (s1 _ _ hwa)), rfl, .ref Z, rfl, Z, vs, rfl, .inl ⟨SqL.of hZ, fun r nr => ⟨by show 2 ≤ sizeLine; decide, fun o no => ?_⟩⟩⟩
      have s4 : Same H2 _ := (same_new (o := .tup vs) nr).trans (same_new (o := .tup [.int n, .ref r]) no)
      exact q _ _ ((s1.trans s3).trans s4) ⟨o, r, vs, rfl, upd_same, same_new no _ _ upd_same, ties_tk (Same.tk s4) hv⟩
end
/-! ### things that are alike -/
def Lk (H : Hp) : Nat → V → V → Prop
  | 0, v, u => (∃ i, v = .int i ∧ u = .int i) ∨ (∃ z, v = .str z ∧ u = .str z)
  | k + 1, v, u => (∃ i, v = .int i ∧ u = .int i) ∨ (∃ z, v = .str z ∧ u = .str z) ∨
    ∃ a b xs ys, v = .ref a ∧ u = .ref b ∧ H a = some (.tup xs) ∧ H b = some (.tup ys) ∧ xs.length = ys.length ∧ xs.length ≤ 900 ∧ ∀ (i : Nat) x y, xs[i]? = some x → ys[i]? = some y → Lk H k x y
theorem Lk.tk {H H' : Hp} (t : Tk H H') : ∀ {k : Nat} {v u : V}, Lk H k v u → Lk H' k v u
  | 0, _, _, h => h
  | k + 1, _, _, h => by
    rcases h with h | h | ⟨a, b, xs, ys, e1, e2, h1, h2, h3, h4, h5⟩
    · exact .inl h
    · exact .inr (.inl h)
    · exact .inr (.inr ⟨a, b, xs, ys, e1, e2, t _ _ h1, t _ _ h2, h3, h4, fun i x y g1 g2 => Lk.tk t (h5 i x y g1 g2)⟩)
theorem Lk.int {H : Hp} {k : Nat} {i : Int} : Lk H k (.int i) (.int i) := by
  cases k with
  | zero => exact .inl ⟨i, rfl, rfl⟩
  | succ k => exact .inl ⟨i, rfl, rfl⟩
theorem Lk.str {H : Hp} {k : Nat} {z : Str} : Lk H k (.str z) (.str z) := by
  cases k with
  | zero => exact .inr ⟨z, rfl, rfl⟩
  | succ k => exact .inr (.inl ⟨z, rfl, rfl⟩)
theorem tie_lk {H : Hp} {v u : V} {t : Tie} (h : TieV H v t) (g : TieV H u t) : Lk H 1 v u := by
  obtain ⟨a, rfl, ha⟩ := h
  obtain ⟨b, rfl, hb⟩ := g
  refine .inr (.inr ⟨a, b, _, _, rfl, rfl, ha, hb, rfl, by show 3 ≤ 900; decide, fun i x y g1 g2 => ?_⟩)
  match i with
  | 0 => simp at g1 g2; subst g1 g2; exact Lk.int
  | 1 => simp at g1 g2; subst g1 g2; exact Lk.int
  | 2 => simp at g1 g2; subst g1 g2; exact Lk.str
  | i + 3 => simp at g1
theorem web_lk {H : Hp} {v u : V} {n : Int} {ts : List Tie} (h : WebAt H v n ts) (g : WebAt H u n ts) (few : ts.length ≤ 120) : Lk H 3 v u := by
  obtain ⟨a, a2, vs, rfl, h1, h2, h3⟩ := h
  obtain ⟨b, b2, us, rfl, g1, g2, g3⟩ := g
  refine .inr (.inr ⟨a, b, _, _, rfl, rfl, h1, g1, rfl, by show 2 ≤ 900; decide, fun i x y e1 e2 => ?_⟩)
  match i with
  | 0 => simp at e1 e2; subst e1 e2; exact Lk.int
  | 1 =>
    simp at e1 e2
    subst e1 e2
    have l1 := Paired.length h3
    have l2 := Paired.length g3
    refine .inr (.inr ⟨a2, b2, _, _, rfl, rfl, h2, g2, by omega, by omega, fun i x y e1 e2 => ?_⟩)
    obtain ⟨t, f1, f2⟩ := Paired.at h3 e1
    obtain ⟨t', f3, f4⟩ := Paired.at g3 e2
    rw [f1] at f3
    cases f3
    exact tie_lk f2 f4
  | i + 2 => simp at e1
theorem ints_lk {H : Hp} {a b : Addr} {xs : List Int} (h : H a = some (.tup (xs.map V.int))) (g : H b = some (.tup (xs.map V.int))) (few : xs.length ≤ 900) : Lk H 1 (.ref a) (.ref b) := by
  refine .inr (.inr ⟨a, b, _, _, rfl, rfl, h, g, rfl, by rw [List.length_map]; exact few, fun i x y e1 e2 => ?_⟩)
  rw [e1] at e2
  cases e2
  rw [List.getElem?_map] at e1
  obtain ⟨z, _, rfl⟩ := Option.map_eq_some_iff.mp e1
  exact Lk.int
def spSame : Nat → Sp
  | 0 => fun _ _ _ _ => False
  | k + 1 => fun vs H Q _ => ∃ v u, vs = [v, u] ∧ Lk H k v u ∧ ∀ H', Same H H' → Q (.bl true) H'
def isS : V → Bool
  | .str _ => true
  | _ => false
theorem kn_str {K : PySem.W.Frag} {H : Hp} {v : V} (h : Kn H v) : ∃ t, TyX K H v t ∧ PySem.W.kitOne K t (.type "str") = some (isS v) := by
  cases v with
  | non => exact ⟨_, .base .non, kit_ty (r := false) (by decide +kernel)⟩
  | bl b => exact ⟨_, .base (.bl b), kit_ty (r := false) (by decide +kernel)⟩
  | int i => exact ⟨_, .base (.int i), kit_ty (r := false) (by decide +kernel)⟩
  | str x => exact ⟨_, .base (.str x), kit_ty (r := true) (by decide +kernel)⟩
  | ref a =>
    rcases h with ⟨xs, h⟩ | ⟨xs, h⟩ | ⟨xs, h⟩
    · exact ⟨_, .base (.lst h), kit_ty (r := false) (by decide +kernel)⟩
    · exact ⟨_, .base (.tup h), kit_ty (r := false) (by decide +kernel)⟩
    · exact ⟨_, .base (.dK h), kit_ty (r := false) (by decide +kernel)⟩
  | byt b => exact h.elim
  | flt b => exact h.elim
  | ty n => exact h.elim
section
variable {P : Program} {w : World} {K : PySem.W.Frag} {mg : Str → Option Value} {base : Heap}
theorem ok_l_same {f : Addr} {fd : FuncData} (F : Fun K "_law_same" "_law_same" s_l_same f fd) (M : Free mg) (mall : mg "all" = none) (mzip : mg "zip" = none) (gS : mg "_law_same" = some (.ref f)) (bS : Binds K fd ["_law_found", "_law_due"] []) :
    ∀ k : Nat, FnOk P w K mg base CX0 k f fd ["_law_found", "_law_due"] (spSame k)
  | 0 => ⟨fun vs H Q E h => h.elim, fun B out z H ar us vs Q E _ _ _ _ h => h.elim⟩
  | k + 1 => by
    have GS := ok_l_same F M mall mzip gS bS k
    refine F.ok sc_l_same (fun vs H Q E h => ?_) (fun cdv A outer s H vs Q E hr h => ?_)
    · obtain ⟨v, u, rfl, _⟩ := h
      rfl
    · obtain ⟨v, u, rfl, hl, q⟩ := h
      refine ⟨_, (pss_cons (ps_if (pt_val (pe_callB call_isi (by rfl) M.isinstance (by decide +kernel) (pa_cons (pv 1) (pa_cons (pe_bltn (v := .ty "tuple") (by rfl) M.tuple (by decide +kernel) rfl) pa_nil))))
        (pss_cons (ps_if (PW.pt (pw_or (pt_not (pt_val (pe_callB call_isi (by rfl) M.isinstance (by decide +kernel) (pa_cons (pv 0) (pa_cons (pe_bltn (v := .ty "tuple") (by rfl) M.tuple (by decide +kernel) rfl) pa_nil))))) (pw_or1 (pt_cmpR op_ne (pe_callB call_len_seq (by rfl) M.len PySem.boot_len (pa_cons (pv 0) pa_nil)) (pe_callB call_len_seq (by rfl) M.len PySem.boot_len (pa_cons (pv 1) pa_nil)) (nomark _)))))
          (pss_one (ps_ret pe_bl))
          pss_nil)
        (pss_one (ps_ret (pe_callB (cr_all rfl) (by rfl) mall (by decide +kernel) (pa_cons (pe_lc (own := [("_law_one", 2), ("_law_other_here", 3)]) (g := gTup K 2 (gCons (gName 2) (gCons (gName 3) gNil))) (tt := tYes) rfl sc_l_same.nd (RZ.pi_zipA (by rfl) mzip (pa_cons (pv 0) (pa_cons (pv 1) pa_nil))) (blkOk_by (N := N_l_same) (sc := defScope s_l_same) (own := [("_law_one", 2), ("_law_other_here", 3)]) (by decide +kernel)) (fun _ _ _ _ _ => (pg_tup rfl (pgs_cons (pg_name (i := 2) sc_l_same.nd rfl (.inl rfl)) (pgs_cons (pg_name (i := 3) sc_l_same.nd rfl (.inl rfl)) pgs_nil)))) (fun _ _ _ _ _ => pts_nil) (fun _ _ _ _ _ => (pe_call GS hr (by rfl) gS F.kp bS .nil pass0 (pa_cons (pv 2) (pa_cons (pv 3) pa_nil))))) pa_nil)))))
        pss_nil)
      (pss_cons (ps_if (PW.pt (pw_or (pt_val (pe_callB call_isi (by rfl) M.isinstance (by decide +kernel) (pa_cons (pv 1) (pa_cons (pe_bltn (v := .ty "bool") (by rfl) M.bool (by decide +kernel) rfl) pa_nil)))) (pw_or1 (pt_val (pe_callB call_isi (by rfl) M.isinstance (by decide +kernel) (pa_cons (pv 0) (pa_cons (pe_bltn (v := .ty "bool") (by rfl) M.bool (by decide +kernel) rfl) pa_nil)))))))
        (pss_one (ps_ret (pe_and (pe_callB call_isi (by rfl) M.isinstance (by decide +kernel) (pa_cons (pv 1) (pa_cons (pe_bltn (v := .ty "bool") (by rfl) M.bool (by decide +kernel) rfl) pa_nil))) (pe_and (pe_callB call_isi (by rfl) M.isinstance (by decide +kernel) (pa_cons (pv 0) (pa_cons (pe_bltn (v := .ty "bool") (by rfl) M.bool (by decide +kernel) rfl) pa_nil))) (pe_one (pe_cmpR op_eq (pv 0) (pv 1) (nomark _)))))))
        pss_nil)
      (pss_cons (ps_if (pt_val (pe_callB call_isi (by rfl) M.isinstance (by decide +kernel) (pa_cons (pv 1) (pa_cons (pe_bltn (v := .ty "int") (by rfl) M.int (by decide +kernel) rfl) pa_nil))))
        (pss_one (ps_ret (pe_and (pe_callB call_isi (by rfl) M.isinstance (by decide +kernel) (pa_cons (pv 0) (pa_cons (pe_bltn (v := .ty "int") (by rfl) M.int (by decide +kernel) rfl) pa_nil))) (pe_one (pe_cmpR op_eq (pv 0) (pv 1) (nomark _))))))
        pss_nil)
      (pss_one (ps_ret (pe_and (pe_cmpR op_eq (pv 0) (pv 1) (nomark _)) (pe_one (pe_cmpR op_eq (pe_callB call_isi (by rfl) M.isinstance (by decide +kernel) (pa_cons (pv 0) (pa_cons (pe_bltn (v := .ty "str") (by rfl) M.str (by decide +kernel) rfl) pa_nil))) (pe_callB call_isi (by rfl) M.isinstance (by decide +kernel) (pa_cons (pv 1) (pa_cons (pe_bltn (v := .ty "str") (by rfl) M.str (by decide +kernel) rfl) pa_nil))) (nomark _))))))))), ?_⟩
      have leaf : (∃ i, v = .int i ∧ u = .int i) ∨ (∃ z, v = .str z ∧ u = .str z) ∨ (∃ (j : Nat) (_ : k = j + 1) (a b : Addr) (xs ys : List V), v = .ref a ∧ u = .ref b ∧ H a = some (.tup xs) ∧ H b = some (.tup ys) ∧ xs.length = ys.length ∧ xs.length ≤ 900 ∧ ∀ (i : Nat) x y, xs[i]? = some x → ys[i]? = some y → Lk H j x y) := by
        cases k with
        | zero =>
          rcases hl with h | h
          · exact .inl h
          · exact .inr (.inl h)
        | succ j =>
          rcases hl with h | h | ⟨a, b, xs, ys, h⟩
          · exact .inl h
          · exact .inr (.inl h)
          · exact .inr (.inr ⟨j, rfl, a, b, xs, ys, h⟩)
      rcases leaf with ⟨i, rfl, rfl⟩ | ⟨z, rfl, rfl⟩ | ⟨j, rfl, a, b, xs, ys, rfl, rfl, ha, hb, hlen, few, hh⟩
      · obtain ⟨t1, h1, e1⟩ := kn_tup (K := K) (H := H) (v := .int i) trivial
        obtain ⟨t2, h2, e2⟩ := kn_bool (K := K) (H := H) (v := .int i) trivial
        obtain ⟨t3, h3, e3⟩ := kn_int (K := K) (H := H) (v := .int i) trivial
        refine ⟨.int i, rfl, .int i, _, t1, _, _, rfl, .ty "tuple", h1, e1, _, rfl, ?_⟩
        refine ⟨.int i, rfl, .int i, _, t2, _, _, rfl, .ty "bool", h2, e2, _, rfl, .int i, rfl, .int i, _, t2, _, _, rfl, .ty "bool", h2, e2, _, rfl, ?_⟩
        refine ⟨.int i, rfl, .int i, _, t3, _, _, rfl, .ty "int", h3, e3, _, rfl, ?_⟩
        refine ⟨.int i, rfl, .int i, _, t3, _, _, rfl, .ty "int", h3, e3, _, rfl, .int i, rfl, .int i, rfl, rfl, ?_⟩
        rw [decide_eq_true rfl]
        exact q _ (Same.refl H)
      · obtain ⟨t1, h1, e1⟩ := kn_tup (K := K) (H := H) (v := .str z) trivial
        obtain ⟨t2, h2, e2⟩ := kn_bool (K := K) (H := H) (v := .str z) trivial
        obtain ⟨t3, h3, e3⟩ := kn_int (K := K) (H := H) (v := .str z) trivial
        obtain ⟨t4, h4, e4⟩ := kn_str (K := K) (H := H) (v := .str z) trivial
        refine ⟨.str z, rfl, .str z, _, t1, _, _, rfl, .ty "tuple", h1, e1, _, rfl, ?_⟩
        refine ⟨.str z, rfl, .str z, _, t2, _, _, rfl, .ty "bool", h2, e2, _, rfl, .str z, rfl, .str z, _, t2, _, _, rfl, .ty "bool", h2, e2, _, rfl, ?_⟩
        refine ⟨.str z, rfl, .str z, _, t3, _, _, rfl, .ty "int", h3, e3, _, rfl, ?_⟩
        refine ⟨.str z, rfl, .str z, rfl, rfl, _, rfl, ?_⟩
        rw [decide_eq_true rfl]
        refine ⟨.str z, rfl, .str z, _, t4, _, _, rfl, .ty "str", h4, e4, .str z, rfl, .str z, _, t4, _, _, rfl, .ty "str", h4, e4, rfl, ?_⟩
        rw [decide_eq_true rfl]
        exact q _ (Same.refl H)
      · obtain ⟨t1, h1, e1⟩ := kn_tup (K := K) (H := H) (v := .ref b) (.inr (.inl ⟨_, hb⟩))
        obtain ⟨t2, h2, e2⟩ := kn_tup (K := K) (H := H) (v := .ref a) (.inr (.inl ⟨_, ha⟩))
        rw [isT_of hb] at e1
        rw [isT_of ha] at e2
        refine ⟨.ref b, rfl, .ref b, _, t1, _, _, rfl, .ty "tuple", h1, e1, _, rfl, ?_⟩
        refine ⟨.ref a, rfl, .ref a, _, t2, _, _, rfl, .ty "tuple", h2, e2, _, rfl, ?_⟩
        refine ⟨.ref a, rfl, a, xs, rfl, .inr (SqT.of ha), .ref b, rfl, b, ys, rfl, .inr (SqT.of hb), rfl, _, rfl, ?_⟩
        rw [hlen, decide_eq_true rfl]
        refine ⟨.ref a, rfl, .ref b, rfl, a, b, xs, ys, rfl, .inr ⟨SqT.of ha, SqT.of hb, fun Z nZ => ?_⟩⟩
        refine lc_it (walk_zipT (xs := xs) (ys := ys) (n := xs.length) (by omega)) (fun i H' => H' Z = some (.lst ((List.replicate i true).map V.bl)) ∧ Same H H') ⟨upd_same, same_new nZ⟩ (fun i H' _ h => ⟨SqT.of (h.2 _ _ ha), SqT.of (h.2 _ _ hb)⟩) ?_ ?_
        · rintro i x H1 H2 hi ⟨hZ, s1⟩ ⟨T, x1, y1, rfl, nT, rfl, g1, g2⟩
          have s2 := s1.trans (same_new (o := .tup [x1, y1]) nT)
          have hZ2 := same_new (o := .tup [x1, y1]) nT _ _ hZ
          refine ⟨T, _, rfl, SqT.of upd_same, rfl, _, _, rfl, _, _, rfl, rfl, rfl, x1, rfl, y1, rfl, x1, y1, rfl, (hh i x1 y1 g1 g2).tk (Same.tk s2), fun H3 s3 => ?_⟩
          refine ⟨_, s3 _ _ hZ2, by rw [List.length_map, List.length_replicate]; exact small1000 (by omega), ?_, Same.mut (s2.trans s3) nZ⟩
          rw [upd_same, List.replicate_succ', List.map_append]
          rfl
        · rintro H1 ⟨hZ, s1⟩
          refine ⟨Z, _, rfl, SqL.of hZ, ?_⟩
          have ea : (List.replicate xs.length true).all id = true := by
            rw [List.all_eq_true]
            intro x hx
            rw [List.eq_of_mem_replicate hx]
            rfl
          rw [ea]
          exact q _ s1
end
/-! ### joins -/
theorem eqv_two (x y u v : Int) : PyData.eqv (intsD [x, y]) (intsD [u, v]) = (decide (u = x) && decide (v = y)) := by
  show PyData.eqv (.tuple [.int x, .int y]) (.tuple [.int u, .int v]) = _
  rw [PyData.eqv, PyData.eqvAll, PyData.eqv, PyData.eqvAll, PyData.eqv, PyData.eqvAll, Bool.and_true]
  rw [Bool.eq_iff_iff, Bool.and_eq_true, Bool.and_eq_true, beq_iff_eq, beq_iff_eq, decide_eq_true_iff, decide_eq_true_iff]
  exact ⟨fun h => ⟨h.1.symm, h.2.symm⟩, fun h => ⟨h.1.symm, h.2.symm⟩⟩
def joinB (t : Tie) (a b : Int) : Bool := (decide (t.one = a) && decide (t.other = b)) || (decide (t.one = b) && decide (t.other = a))
def spJoins : Sp := fun vs H Q _ => ∃ (c : Addr) (a b : Int) (t : Tie), vs = [.ref c, .int a, .int b] ∧ H c = some (.tup [.int t.one, .int t.other, .str (kindS t.foe)]) ∧ ∀ H', Same H H' → Q (.bl (joinB t a b)) H'
section
variable {P : Program} {w : World} {K : PySem.W.Frag} {mg : Str → Option Value} {base : Heap}
theorem ok_joins {f : Addr} {fd : FuncData} (F : Fun K "joins" "joins" s_joins f fd) : FnOk P w K mg base CX0 1 f fd ["tie", "one", "other"] spJoins := by
  refine F.ok sc_joins (fun vs H Q E h => ?_) (fun cdv A outer s H vs Q E hr h => ?_)
  · obtain ⟨c, a, b, t, rfl, _⟩ := h
    rfl
  · obtain ⟨c, a, b, t, rfl, hc, q⟩ := h
    have hu := room65 hr
    refine ⟨_, (pss_one (ps_ret (pe_cmpR (op_inTup hu) (pe_tup (pa_cons (pe_ix ix_tup (pv 0) pe_int (fun _ _ => rfl)) (pa_cons (pe_ix ix_tup (pv 0) pe_int (fun _ _ => rfl)) pa_nil))) (pe_tup (pa_cons (pe_tup (pa_cons (pv 1) (pa_cons (pv 2) pa_nil))) (pa_cons (pe_tup (pa_cons (pv 2) (pa_cons (pv 1) pa_nil))) pa_nil))) rfl))), ?_⟩
    refine ⟨.ref c, rfl, c, _, 0, _, rfl, rfl, SqT.of hc, rfl, .ref c, rfl, c, _, 1, _, rfl, rfl, SqT.of hc, rfl, by show 2 ≤ sizeLine; decide, fun p1 n1 => ?_⟩
    refine ⟨.int a, rfl, .int b, rfl, by show 2 ≤ sizeLine; decide, fun p2 n2 => ⟨.int b, rfl, .int a, rfl, by show 2 ≤ sizeLine; decide, fun p3 n3 => ⟨by show 2 ≤ sizeLine; decide, fun p4 n4 => ?_⟩⟩⟩
    have s4 := same_new (o := .tup [.ref p2, .ref p3]) n4
    have s3 := (same_new (o := .tup [.int b, .int a]) n3).trans s4
    have s2 := (same_new (o := .tup [.int a, .int b]) n2).trans s3
    have s1 := (same_new (o := .tup [.int t.one, .int t.other]) n1).trans s2
    refine ⟨intsD [t.one, t.other], [intsD [a, b], intsD [b, a]], IntsV.dp ⟨p1, rfl, s2 _ _ upd_same⟩, .tup (SqT.of upd_same) (.cons (IntsV.dp ⟨p2, rfl, s3 _ _ upd_same⟩) (.cons (IntsV.dp ⟨p3, rfl, s4 _ _ upd_same⟩) .nil)), shaped_intsD _, rfl, ?_⟩
    have e : ([intsD [a, b], intsD [b, a]].any fun z => PyData.eqv z (intsD [t.one, t.other])) = joinB t a b := by
      show (PyData.eqv (intsD [a, b]) (intsD [t.one, t.other]) || (PyData.eqv (intsD [b, a]) (intsD [t.one, t.other]) || false)) = joinB t a b
      rw [eqv_two, eqv_two, Bool.or_false]
      rfl
    rw [e]
    exact q _ s1
end
/-! ### tests that tell a truth and leave all as it is, but for new things -/
def Tst (t : TT) (σ : L2.St) (H : Hp) (c : Bool) : Prop := ∀ k : Bool → Hp → Prop, (∀ H', Same H H' → k c H') → t σ H k
theorem Tst.and {t u : TT} {σ : L2.St} {H : Hp} {a b : Bool} (h : Tst t σ H a) (g : ∀ H', Same H H' → a = true → Tst u σ H' b) : Tst (tAnd t u) σ H (a && b) := fun k hk => by
  refine h _ fun H' s => ?_
  cases a with
  | true => exact g H' s rfl _ fun H2 s2 => hk H2 (s.trans s2)
  | false => exact hk H' s
theorem Tst.if_ {t : TT} {tb te : TS} {D : Ends} {σ : L2.St} {H : Hp} {c : Bool} (h : Tst t σ H c) (hA : c = true → ∀ H', Same H H' → tb D σ H') (hB : c = false → ∀ H', Same H H' → te D σ H') : tIfS t tb te D σ H := by
  refine h _ fun H' s => ?_
  cases c with
  | true => exact hA rfl H' s
  | false => exact hB rfl H' s
theorem tst_neE {K : PySem.W.Frag} {i : Nat} {L : Addr} {vs : List V} {σ : L2.St} {H : Hp} (h : σ[i]? = some (some (.ref L))) (hL : H L = some (.lst vs)) : Tst (tTest (tOp (rNeE K) (tVar i) (tLst tNil))) σ H (!vs.isEmpty) := fun k hk =>
  ⟨.ref L, h, Nat.zero_le _, fun p np => ⟨L, p, vs, rfl, rfl, SqL.of (same_new np _ _ hL), SqL.of upd_same, _, rfl, hk _ (same_new np)⟩⟩
theorem tst_eqI {i : Nat} {x c : Int} {σ : L2.St} {H : Hp} (h : σ[i]? = some (some (.int x))) : Tst (tTest (tOp rEq (tVar i) (tC (.int c)))) σ H (decide (x = c)) := fun k hk => by
  refine ⟨.int x, h, rfl, _, rfl, ?_⟩
  have e : decide (V.int x = V.int c) = decide (x = c) := by
    rw [decide_eq_decide]
    exact ⟨fun h => V.int.inj h, fun h => by rw [h]⟩
  rw [e]
  exact hk _ (Same.refl H)
/-! ### pairs of lists -/
theorem paired_append {α β : Type} {F : α → β → Prop} : ∀ {l l' : List α} {m m' : List β}, Paired F l m → Paired F l' m' → Paired F (l ++ l') (m ++ m')
  | _, _, _, _, .nil, h => h
  | _, _, _, _, .cons r t, h => .cons r (paired_append t h)
theorem paired_take {α β : Type} {F : α → β → Prop} : ∀ {l : List α} {m : List β}, Paired F l m → ∀ n, Paired F (l.take n) (m.take n)
  | _, _, .nil, n => by simp; exact .nil
  | _, _, .cons r t, 0 => by simp; exact .nil
  | _, _, .cons r t, n + 1 => .cons r (paired_take t n)
theorem paired_drop {α β : Type} {F : α → β → Prop} : ∀ {l : List α} {m : List β}, Paired F l m → ∀ n, Paired F (l.drop n) (m.drop n)
  | _, _, .nil, n => by simp; exact .nil
  | _, _, .cons r t, 0 => .cons r t
  | _, _, .cons r t, n + 1 => by simpa using paired_drop t n
theorem paired_set {α β : Type} {F : α → β → Prop} : ∀ {l : List α} {m : List β} {j : Nat} {x : α} {y : β}, Paired F l m → F x y → Paired F (l.set j x) (m.set j y)
  | _, _, _, _, _, .nil, _ => by simp; exact .nil
  | _, _, 0, _, _, .cons _ t, h => .cons h t
  | _, _, j + 1, _, _, .cons r t, h => .cons r (paired_set (j := j) t h)
theorem paired_erase {α β : Type} {F : α → β → Prop} : ∀ {l : List α} {m : List β}, Paired F l m → ∀ j, Paired F (l.eraseIdx j) (m.eraseIdx j)
  | _, _, .nil, j => by simp; exact .nil
  | _, _, .cons _ t, 0 => t
  | _, _, .cons r t, j + 1 => .cons r (paired_erase t j)
/-! ### frames -/
def framedI (ts us : List Tie) : Bool := (ts.zip us).all fun p => joinB p.1 p.2.one p.2.other
def framedB (n : Int) (ts : List Tie) (m : Int) (us : List Tie) : Bool := decide (n = m) && (decide (ts.length = us.length) && framedI ts us)
theorem joinB_comm (t u : Tie) : joinB t u.one u.other = joinB u t.one t.other := by
  unfold joinB
  rw [Bool.eq_iff_iff]
  simp only [Bool.or_eq_true, Bool.and_eq_true, decide_eq_true_iff]
  constructor
  · rintro (⟨h1, h2⟩ | ⟨h1, h2⟩)
    · exact .inl ⟨h1.symm, h2.symm⟩
    · exact .inr ⟨h2.symm, h1.symm⟩
  · rintro (⟨h1, h2⟩ | ⟨h1, h2⟩)
    · exact .inl ⟨h1.symm, h2.symm⟩
    · exact .inr ⟨h2.symm, h1.symm⟩
theorem framedI_comm : ∀ ts us : List Tie, framedI ts us = framedI us ts
  | [], [] => rfl
  | [], _ :: _ => rfl
  | _ :: _, [] => rfl
  | t :: ts, u :: us => by
    have h := framedI_comm ts us
    unfold framedI at h ⊢
    rw [List.zip_cons_cons, List.zip_cons_cons, List.all_cons, List.all_cons, h, joinB_comm]
theorem framedB_comm (n : Int) (ts : List Tie) (m : Int) (us : List Tie) : framedB n ts m us = framedB m us n ts := by
  unfold framedB
  rw [framedI_comm]
  congr 1
  · rw [decide_eq_decide]
    exact eq_comm
  · congr 1
    rw [decide_eq_decide]
    exact eq_comm
theorem joinB_self (t : Tie) : joinB t t.one t.other = true := by
  unfold joinB
  simp
theorem framedI_self : ∀ ts : List Tie, framedI ts ts = true
  | [] => rfl
  | t :: ts => by
    have h := framedI_self ts
    unfold framedI at h ⊢
    rw [List.zip_cons_cons, List.all_cons, h, joinB_self]
    rfl
theorem framedB_self (n : Int) (ts : List Tie) : framedB n ts n ts = true := by
  unfold framedB
  rw [framedI_self]
  simp
def spFramed (Ps : List Addr) : Sp := fun vs H Q _ => ∃ (v u : V) (n : Int) (ts : List Tie) (m : Int) (us : List Tie), vs = [v, u] ∧ WebAt H v n ts ∧ WebAt H u m us ∧ Tabs Ps H ∧ ∀ H', Kt Ps H H' → Q (.bl (framedB n ts m us)) H'
def spDue : Sp := fun vs H Q _ => ∃ (v u : V) (n : Int) (ts : List Tie) (m : Int) (us : List Tie), vs = [v, u] ∧ WebAt H v n ts ∧ WebAt H u m us ∧ ∀ H', Same H H' → Q (.bl (framedB n ts m us)) H'
theorem take_all {α : Type} {xs : List α} {p : α → Bool} {i : Nat} {x : α} (h : xs[i]? = some x) (ha : (xs.take i).all p = true) : (xs.take (i + 1)).all p = p x := by
  rw [List.take_add_one, h, List.all_append, ha]
  simp
theorem all_not {α : Type} {xs : List α} {p : α → Bool} {i : Nat} {x : α} (h : xs[i]? = some x) (hp : p x = false) : xs.all p = false := by
  rw [Bool.eq_false_iff]
  intro z
  rw [List.all_eq_true] at z
  rw [z x (List.mem_of_getElem? h)] at hp
  cases hp
theorem zip_at {α β : Type} {xs : List α} {ys : List β} {i : Nat} {x : α} {y : β} (h : xs[i]? = some x) (g : ys[i]? = some y) : (xs.zip ys)[i]? = some (x, y) := by
  rw [List.getElem?_zip_eq_some]
  exact ⟨h, g⟩
theorem neI (x y : Int) : (!decide (V.int x = V.int y)) = !decide (x = y) := by
  congr 1
  rw [decide_eq_decide]
  exact ⟨fun h => V.int.inj h, fun h => by rw [h]⟩
theorem neN (x y : Nat) : (!decide (V.int (x : Int) = V.int (y : Int))) = !decide (x = y) := by
  rw [neI]
  congr 1
  rw [decide_eq_decide]
  omega
section
variable {P : Program} {w : World} {K : PySem.W.Frag} {mg : Str → Option Value} {base : Heap}
set_option maxHeartbeats 1000000 in
theorem ok_are_framed {f c Pt : Addr} {fd : FuncData} {Ps : List Addr} (F : FunC K "are_framed" "are_framed" s_are_framed f fd c) (TB : GxR.TabB base mg c Pt) (hPt : Pt ∈ Ps) (M : Free mg) (hall : mg "all" = none) (mz : mg "zip" = none) (D3 : Df P w K mg base 1 "joins" ["tie", "one", "other"] spJoins) :
    FnOk P w K mg base CX0 3 f fd ["one", "other"] (spFramed Ps) := by
  obtain ⟨f3, fd3, G3, g3, k3, b3⟩ := D3
  refine F.ok sc_are_framed (fun vs H Q E h => ?_) (fun A outer s H vs Q E hr h => ?_)
  · obtain ⟨v, u, n, ts, m, us, rfl, _⟩ := h
    rfl
  · obtain ⟨v, u, n, ts, m, us, rfl, ⟨wa, wb, xs, rfl, hwa, hwb, hp⟩, ⟨va, vb, ys, rfl, hva, hvb, hq⟩, hT, q⟩ := h
    refine ⟨_, (pss_cons (ps_if (PW.pt (pw_or (pt_cmpR op_ne (pe_ix ix_tup (pv 0) pe_int (fun _ _ => rfl)) (pe_ix ix_tup (pv 1) pe_int (fun _ _ => rfl)) (nomark _)) (pw_or1 (pt_cmpR op_ne (pe_callB call_len_seq (by rfl) M.len PySem.boot_len (pa_cons (pe_ix ix_tup (pv 0) pe_int (fun _ _ => rfl)) pa_nil)) (pe_callB call_len_seq (by rfl) M.len PySem.boot_len (pa_cons (pe_ix ix_tup (pv 1) pe_int (fun _ _ => rfl)) pa_nil)) (nomark _)))))
        (pss_one (ps_ret pe_bl))
        pss_nil)
      (pss_one (ps_ret (pe_all (k := 1) (own := [("tie", 2), ("like", 3)]) (g := gTup K 2 (gCons (gName 2) (gCons (gName 3) gNil))) hr TB rfl rfl sc_are_framed.nd (by rfl) hall (RZ.pi_zipA (by rfl) mz (pa_cons (pe_ix ix_tup (pv 0) pe_int (fun _ _ => rfl)) (pa_cons (pe_ix ix_tup (pv 1) pe_int (fun _ _ => rfl)) pa_nil))) (blkOk_by (N := N_are_framed) (sc := defScope s_are_framed) (own := [("tie", 2), ("like", 3)]) (by decide +kernel)) ⟨rfl, by decide +kernel, by decide +kernel⟩ (show (".0" : Str) ∉ N_are_framed by decide +kernel)
        (fun _ _ _ _ _ _ _ => pg_tup rfl (pgs_cons (pg_name (i := 2) sc_are_framed.nd rfl (.inl rfl)) (pgs_cons (pg_name (i := 3) sc_are_framed.nd rfl (.inl rfl)) pgs_nil))) (fun _ _ _ _ _ _ _ hr' => pe_call G3 hr' (by rfl) g3 k3 b3 .nil pass0 (pa_cons (pv 2) (pa_cons (pe_ix (r := rIxT K) ix_tup (pv 3) pe_int (fun _ _ => rfl)) (pa_cons (pe_ix (r := rIxT K) ix_tup (pv 3) pe_int (fun _ _ => rfl)) pa_nil)))))))), ?_⟩
    have l1 : xs.length = ts.length := Paired.length hp
    have l2 : ys.length = us.length := Paired.length hq
    refine ⟨.ref wa, rfl, wa, _, 0, .int n, rfl, rfl, SqT.of hwa, rfl, .ref va, rfl, va, _, 0, .int m, rfl, rfl, SqT.of hva, rfl, rfl, _, rfl, ?_⟩
    rw [neI]
    unfold framedB at q
    by_cases e1 : n = m
    · rw [decide_eq_true e1, Bool.true_and] at q
      rw [decide_eq_true e1]
      refine ⟨.ref wa, rfl, wa, _, 1, .ref wb, rfl, rfl, SqT.of hwa, rfl, wb, xs, rfl, .inr (SqT.of hwb), .ref va, rfl, va, _, 1, .ref vb, rfl, rfl, SqT.of hva, rfl, vb, ys, rfl, .inr (SqT.of hvb), rfl, _, rfl, ?_⟩
      rw [neN, l1, l2]
      by_cases e2 : ts.length = us.length
      · rw [decide_eq_true e2, Bool.true_and] at q
        rw [decide_eq_true e2]
        refine ⟨.ref wa, rfl, wa, _, 1, .ref wb, rfl, rfl, SqT.of hwa, rfl, .ref va, rfl, va, _, 1, .ref vb, rfl, rfl, SqT.of hva, rfl, wb, vb, xs, ys, rfl, .inr ⟨SqT.of hwb, SqT.of hvb, ?_⟩⟩
        refine ⟨hT Pt hPt, fun i m H' => i + m = xs.length ∧ Kt Ps H H' ∧ ((ts.zip us).take i).all (fun p => joinB p.1 p.2.one p.2.other) = true, fun H2 hH2 => ⟨xs.length, by omega, Kt.tabbed hT hPt hH2, rfl⟩, fun i m H' hw => ?_⟩
        obtain ⟨em, kt, hal⟩ := hw
        have hwb' := kt.tup hT hwb
        have hvb' := kt.tup hT hvb
        by_cases hi : i < xs.length
        · refine .inr ⟨⟨xs, ys, _, _, SqT.of hwb', SqT.of hvb', List.getElem?_eq_getElem hi, List.getElem?_eq_getElem (by omega)⟩, fun H3 => Kt Ps H H3 ∧ ((ts.zip us).take (i + 1)).all (fun p => joinB p.1 p.2.one p.2.other) = true, fun H3 n3 => ⟨m - 1, by omega, by omega, n3.1, n3.2⟩, fun x H3 hy => ?_⟩
          obtain ⟨T, x1, y1, rfl, nT, rfl, gx, gy⟩ := hy
          have ex := gx _ (SqT.of hwb')
          have ey := gy _ (SqT.of hvb')
          obtain ⟨t, et, a, rfl, ha⟩ := Paired.at hp ex
          obtain ⟨u, eu, b, rfl, hb⟩ := Paired.at hq ey
          have s3 : Same H' (upd H' T (.tup [.ref a, .ref b])) := same_new nT
          have kt3 := kt.trans (Kt.same kt.tab s3)
          have ha3 := kt3.tup hT ha
          have hb3 := kt3.tup hT hb
          refine ⟨T, _, rfl, SqT.of upd_same, rfl, _, _, rfl, _, _, rfl, rfl, rfl, .ref a, rfl, .ref b, rfl, b, _, 0, .int u.one, rfl, rfl, SqT.of hb3, rfl, .ref b, rfl, b, _, 1, .int u.other, rfl, rfl, SqT.of hb3, rfl, a, u.one, u.other, t, rfl, ha3, fun H4 s4 => ⟨_, rfl, ?_⟩⟩
          have kt4 := kt3.trans (Kt.same kt3.tab s4)
          have ez := zip_at et eu
          cases hb : joinB t u.one u.other with
          | true => exact ⟨kt4, (take_all ez hal).trans hb⟩
          | false =>
            have no : framedI ts us = false := all_not ez hb
            rw [no] at q
            exact q _ kt4
        · refine .inl ⟨⟨xs, ys, SqT.of hwb', SqT.of hvb', .inl (by omega)⟩, ?_⟩
          have lz : (ts.zip us).length ≤ i := by rw [List.length_zip]; omega
          rw [List.take_of_length_le lz] at hal
          have yes : framedI ts us = true := hal
          rw [yes] at q
          exact q _ kt
      · rw [decide_eq_false e2, Bool.false_and] at q
        rw [decide_eq_false e2]
        exact q _ (Kt.refl hT)
    · rw [decide_eq_false e1, Bool.false_and] at q
      rw [decide_eq_false e1]
      exact q _ (Kt.refl hT)
end
/-! ### the script stays -/
structure Scr (K : PySem.W.Frag) (H : Hp) (a d : Addr) (xs : List V) : Prop where
  sq : SqL K H a xs
  ne : a ≠ d ∨ ∀ H', SqL K H' a xs
theorem Scr.mk' {K : PySem.W.Frag} {H H' : Hp} {a d : Addr} {xs : List V} (h : SqL K H a xs) (nd : H d = none) (s : Same H H') : Scr K H' a d xs := by
  refine ⟨s.seq h, ?_⟩
  rcases h with (h | ⟨o, h⟩) | h
  · exact .inl (ne_of_none h nd)
  · exact .inl (ne_of_none h nd)
  · exact .inr fun H' => .inr h
theorem Scr.kp {K : PySem.W.Frag} {H H' : Hp} {a d : Addr} {xs : List V} (h : Scr K H a d xs) (k : Kp d d H H') : Scr K H' a d xs := by
  refine ⟨?_, h.ne⟩
  rcases h.ne with n | n
  · rcases h.sq with (h | ⟨o, h⟩) | h
    · exact .inl (.inl (k _ _ n n h))
    · exact .inl (.inr ⟨o, k _ _ n n h⟩)
    · exact .inr h
  · exact n H'
theorem Scr.same {K : PySem.W.Frag} {H H' : Hp} {a d : Addr} {xs : List V} (h : Scr K H a d xs) (s : Same H H') : Scr K H' a d xs := ⟨s.seq h.sq, h.ne⟩
theorem sql_kt {K : PySem.W.Frag} {Ps : List Addr} {H H' : Hp} {a : Addr} {xs : List V} (h : SqL K H a xs) (t : Tabs Ps H) (k : Kt Ps H H') : SqL K H' a xs := by
  rcases h with (h | ⟨o, h⟩) | h
  · exact .inl (.inl (k.lst t h))
  · exact .inl (.inr ⟨o, k.keep _ _ (t.out h fun _ z => by cases z) h⟩)
  · exact .inr h
theorem Scr.kt {K : PySem.W.Frag} {Ps : List Addr} {H H' : Hp} {a d : Addr} {xs : List V} (h : Scr K H a d xs) (t : Tabs Ps H) (k : Kt Ps H H') : Scr K H' a d xs := ⟨sql_kt h.sq t k, h.ne⟩
/-! ### own refusals -/
/-- a class of refusals, at D, named x, under WebError, at W -/
structure RefT (K : PySem.W.Frag) (mg : Str → Option Value) (x : Str) (D W : Addr) : Prop where
  gD : mg x = some (.ref D)
  gW : mg "WebError" = some (.ref W)
  exc : PySem.W.excIn K D [.type "ValueError", .type "Exception", .type "BaseException", .type "object"] "ValueError.__new__" = true
  kD : PySem.W.keepIn K (.ref D) = true
  tD : PySem.W.typeIn K (.ref D) = some (.type "type")
  ec : ExcC K D
  web : PySem.W.exmOne K (.ref D) (.ref W) = some true
/-- what isinstance tells of its refusals: of the class named x, at C, b -/
structure KitT (K : PySem.W.Frag) (mg : Str → Option Value) (D : Addr) (x : Str) (C : Addr) (b : Bool) : Prop where
  g : mg x = some (.ref C)
  k : PySem.W.kitOne K (.ref D) (.ref C) = some b
section
variable {X : Cx}
def rIsX (K : PySem.W.Frag) (a : Addr) (cls : Value) (d : Option Addr) : List V → Hp → VK → Prop := fun xs H Q => ∃ D, ExcC K D ∧ cls = .ref D ∧ d = none ∧ rIsE K D a xs H Q
theorem call_isX {a : Addr} {cls : Value} {d : Option Addr} {oe : Obj} {pn : List (Addr × Obj)} (hz : Zc cls d oe) (hf : ∃ vs, oe.data = .fields vs) : CallR (X.suite a ((a, oe) :: pn)) (.builtin "isinstance") (rIsX X.K a cls d) := by
  intro pins s σ H xs us Q I r h
  obtain ⟨D, C, rfl, rfl, h⟩ := h
  exact call_isE C hz hf pins s σ H xs us Q I r h
end
def DfX (P : Program) (w : World) (K : PySem.W.Frag) (mg : Str → Option Value) (base : Heap) (k : Nat) (x : Str) (ps : List Str) (sp : Sp) : Prop :=
  ∃ (f : Addr) (fd : FuncData), FnOk P w K mg base (L2.CX P w) k f fd ps sp ∧ mg x = some (.ref f) ∧ PySem.W.keepIn K (.ref f) = true ∧ Binds K fd ps []
theorem DfX.of {P : Program} {w : World} {K : PySem.W.Frag} {mg : Str → Option Value} {base : Heap} {x : Str} {st : Stmt} {f : Addr} {fd : FuncData} {k : Nat} {ps : List Str} {sp : Sp} (g : mg x = some (.ref f)) (F : Fun K x x st f fd) (G : FnOk P w K mg base (L2.CX P w) k f fd ps sp)
    (h : ∀ (kV doc pm : Value) (an : Option Addr) (cdv ct : Value) (us : List Value), us.length = ps.length → bindArgs (PySem.W.fnOf x x (defArgs st) (defBody st) (defScope st) .none kV doc pm an cdv ct) ⟨us, []⟩ = pure (ps.zip us)) : DfX P w K mg base k x ps sp :=
  ⟨f, fd, G, g, F.kp, F.binds h⟩
/-- where a class of refusals stands -/
structure ErrK (K : PySem.W.Frag) (x : Str) (D W : Addr) : Prop where
  ns : PySem.W.nsIn K mainGlobals x = some (some (.ref D))
  nw : PySem.W.nsIn K mainGlobals "WebError" = some (some (.ref W))
  exc : PySem.W.excIn K D [.type "ValueError", .type "Exception", .type "BaseException", .type "object"] "ValueError.__new__" = true
  kD : PySem.W.keepIn K (.ref D) = true
  tD : PySem.W.typeIn K (.ref D) = some (.type "type")
  ec : ExcC K D
  web : PySem.W.exmOne K (.ref D) (.ref W) = some true
theorem errK_mk {K : PySem.W.Frag} {x : Str} {D W : Addr} (p1 : PySem.W.nsIn K mainGlobals x = some (some (.ref D))) (p2 : PySem.W.nsIn K mainGlobals "WebError" = some (some (.ref W)))
    (p3 : PySem.W.excIn K D [.type "ValueError", .type "Exception", .type "BaseException", .type "object"] "ValueError.__new__" = true) (p4 : PySem.W.keepIn K (.ref D) = true) (p5 : PySem.W.typeIn K (.ref D) = some (.type "type"))
    (p6 : PySem.W.findIn K (.ref D) "__getattribute__" = some (some (.builtin "BaseException.__getattribute__"))) (p7 : PySem.W.findIn K (.ref D) "__getattr__" = some none) (p8 : PySem.W.subIn K (.ref D) (.type "BaseException") = some true) (p9 : PySem.W.hasDictIn K D = true)
    (p10 : PySem.W.findIn K (.ref D) "__class__" = some (some (.builtin "object.__class__"))) (p11 : PySem.W.specialIn K (.builtin "object.__class__") "__get__" = some (some (.builtin "getset_descriptor.__get__"))) (p12 : PySem.W.takesIn K (.builtin "object.__class__") = some true) (p13 : PySem.W.mroIn K D (.type "object") = some true)
    (p14 : PySem.W.subIn K (.ref W) (.type "BaseException") = some true) (p15 : PySem.W.hasDictIn K W = true) (p16 : PySem.W.typeIn K (.ref W) = some (.type "type")) (p17 : PySem.W.subIn K (.ref D) (.ref W) = some true) : ErrK K x D W :=
  ⟨p1, p2, p3, p4, p5, ⟨p6, p7, p8, p9, p10, p11, p12, p13⟩, PySem.W.exm_ref p14 p15 p16 p17⟩
theorem ErrK.ref {K : PySem.W.Frag} {mg : Str → Option Value} {h : Heap} {x : Str} {D W : Addr} (e : ErrK K x D W) (X : K.In h) (G : h.Ns mainGlobals mg) : RefT K mg x D W :=
  ⟨PySem.W.mg_of X G e.ns, PySem.W.mg_of X G e.nw, e.exc, e.kD, e.tD, e.ec, e.web⟩
structure KitK (K : PySem.W.Frag) (D : Addr) (x : Str) (C : Addr) (b : Bool) : Prop where
  ns : PySem.W.nsIn K mainGlobals x = some (some (.ref C))
  k : PySem.W.kitOne K (.ref D) (.ref C) = some b
theorem kitK_mk {K : PySem.W.Frag} {D : Addr} {x : Str} {C : Addr} {b : Bool} (p1 : PySem.W.nsIn K mainGlobals x = some (some (.ref C))) (p2 : PySem.W.kitOne K (.ref D) (.ref C) = some b) : KitK K D x C b := ⟨p1, p2⟩
theorem KitK.kit {K : PySem.W.Frag} {mg : Str → Option Value} {h : Heap} {D : Addr} {x : Str} {C : Addr} {b : Bool} (e : KitK K D x C b) (X : K.In h) (G : h.Ns mainGlobals mg) : KitT K mg D x C b := ⟨PySem.W.mg_of X G e.ns, e.k⟩
/-! ### zip of a tuple and a list of one length -/
def ItM (K : PySem.W.Frag) (a b : Addr) : It where
  go := fun i H => ∃ (xs ys : List V), (SqT K H a xs ∧ SqL K H b ys) ∧ i < xs.length ∧ ys.length = xs.length
  yld := fun i H v H' => ∃ T x y, v = .ref T ∧ H T = none ∧ H' = upd H T (.tup [x, y]) ∧ (∀ xs, SqT K H a xs → xs[i]? = some x) ∧ (∀ ys, SqL K H b ys → ys[i]? = some y)
  stop := fun i H => ∃ (xs ys : List V), (SqT K H a xs ∧ SqL K H b ys) ∧ xs.length = i ∧ ys.length = i
theorem turn_zipM {P : Program} {w : World} {K : PySem.W.Frag} {elts : List Expr} {kk : Nat} {tpos : Pos} {a b z TI TO i1 i2 : Addr} (S : ZipSep2 z TI TO i1 i2 [i1, a] [i2, b]) (n1 : a ≠ i1) (n2 : b ≠ i2) :
    Turn P w K (.Tuple elts kk tpos) (ItM K a b) [z, TI, TO, i1, i2] z (fun i h => IsZip h z TI TO .none ∧ IsTupOf2 h TI (.ref i1) (.ref i2) ∧ (∃ a1 a2, IsTupOf2 h TO a1 a2) ∧ h.IsTupleIter i1 a i ∧ h.IsListIter i2 b i) where
  mem := List.mem_cons_self
  obj := by
    rintro i h ⟨hz, hTI, ⟨a1, a2, hTO⟩, ⟨o1, e1, _, d1⟩, ⟨o2, e2, _, d2⟩⟩ q hq
    simp only [List.mem_cons, List.not_mem_nil, or_false] at hq
    rcases hq with rfl | rfl | rfl | rfl | rfl
    · exact ⟨_, hz, fun v y => nomatch y⟩
    · exact ⟨_, hTI, fun v y => nomatch y⟩
    · exact ⟨_, hTO, fun v y => nomatch y⟩
    · exact ⟨o1, e1, fun v y => by rw [d1] at y; cases y⟩
    · exact ⟨o2, e2, fun v y => by rw [d2] at y; cases y⟩
  keep := by
    rintro i h h' ⟨hz, hTI, ⟨a1, a2, hTO⟩, t1, t2⟩ kp
    exact ⟨kp z (by simp) _ hz, kp TI (by simp) _ hTI, ⟨a1, a2, kp TO (by simp) _ hTO⟩, t1.at fun o q => kp i1 (by simp) o q, t2.at fun o q => kp i2 (by simp) o q⟩
  item := by
    intro X hP hw hK hc i pins s σ H E I hf st hg
    subst hP hw hK
    obtain ⟨hz, hTI, hTO, t1, t2⟩ := st
    obtain ⟨xs, ys, ⟨qx, qy⟩, hi, ly⟩ := hg
    obtain ⟨us, ru, tu, _⟩ := I.tuple qx
    obtain ⟨vs, rv, tv, _⟩ := I.list qy
    have lu := ru.length
    have lv := rv.length
    obtain ⟨u, hu, eu⟩ := ru.get (List.getElem?_eq_getElem hi)
    obtain ⟨v, hv, ev⟩ := rv.get (List.getElem?_eq_getElem (show i < ys.length by omega))
    have W := WalksT.zipD2 (A := X.A) S (Draws.tuple (prog := X.prog) (w := X.w) (A := X.A.in1) (I.ok.hd hc) i1 a n1 us.toArray) (Draws.list (prog := X.prog) (w := X.w) (A := X.A.in1) (I.ok.hd hc) i2 b n2 vs.toArray)
    refine W.item i s _ _ (by simp only [List.size_toArray]; omega) ⟨hz, hTI, hTO, ⟨t1, tu⟩, ⟨t2, tv.isList⟩⟩ fun T vals h' tk hp newT isT mid kp => ?_
    obtain ⟨y1, y2, p1, p2, rfl⟩ := hp
    have apart := W.apart i T h' mid
    obtain rfl : u = y1 := Option.some.inj (((by simpa using hu) : us.toArray[i]? = some u).symm.trans p1)
    obtain rfl : v = y2 := Option.some.inj (((by simpa using hv) : vs.toArray[i]? = some v).symm.trans p2)
    refine ⟨_, rfl, W.go elts kk tpos i T { s with heap := h', toks := tk } _ _ mid fun h2 st2 kp2 => ?_⟩
    obtain ⟨g1, g2, g3, ⟨g4, _⟩, ⟨g5, _⟩⟩ := st2
    have objT : ObjOk X.prog X.w (upd H T (.tup [xs[i], ys[i]])) h2 T (.tup [xs[i], ys[i]]) := by
      obtain ⟨ot, et, ct, nt, dt⟩ := isT
      exact ⟨by show 2 ≤ sizeLine; decide, [u, v], .cons eu (.cons ev .nil), ⟨ot, kp2 _ _ apart et, ct, nt, dt⟩⟩
    have J : Inv X pins σ (upd H T (.tup [xs[i], ys[i]])) { s with heap := h2, toks := tk } := I.turnedNew (ch := [z, TI, TO, i1, i2]) (fun q ob hq e => by
      simp only [List.mem_cons, List.not_mem_nil, or_false, not_or] at hq
      have nw : q ∉ [z, TO, i1, i2] := by simp [hq]
      exact kp2 q ob nw (kp q ob nw e)) hf newT objT
    refine ⟨.ref T, _, J, rfl, ⟨T, _, _, rfl, I.hok.fresh newT, rfl, fun l hl => by rw [I.tuple_inj hl qx]; exact List.getElem?_eq_getElem hi, fun l hl => by rw [I.list_inj hl qy]; exact List.getElem?_eq_getElem _⟩, ⟨g1, g2, g3, g4, g5⟩, fun q hq => ?_⟩
    have lq : q < s.heap.objs.size := by
      obtain ⟨_, _, ⟨a1, a2, hTO⟩⟩ := (⟨hz, hTI, hTO⟩ : _ ∧ _ ∧ _)
      obtain ⟨o1, e1, _⟩ := t1
      obtain ⟨o2, e2, _⟩ := t2
      simp only [List.mem_cons, List.not_mem_nil, or_false] at hq
      rcases hq with rfl | rfl | rfl | rfl | rfl
      · exact Heap.lt_size hz
      · exact Heap.lt_size hTI
      · exact Heap.lt_size hTO
      · exact Heap.lt_size e1
      · exact Heap.lt_size e2
    rw [upd_ne (Nat.ne_of_lt (Nat.lt_of_lt_of_le lq newT))]
    exact (hf q hq).1
  done := by
    intro X hP hw hK hc i pins s σ H E I hf st hg
    subst hP hw hK
    obtain ⟨hz, hTI, hTO, t1, t2⟩ := st
    obtain ⟨xs, ys, ⟨qx, qy⟩, lx, ly⟩ := hg
    obtain ⟨us, ru, tu, _⟩ := I.tuple qx
    obtain ⟨vs, rv, tv, _⟩ := I.list qy
    have lu := ru.length
    have lv := rv.length
    have W := WalksT.zipD2 (A := X.A) S (Draws.tuple (prog := X.prog) (w := X.w) (A := X.A.in1) (I.ok.hd hc) i1 a n1 us.toArray) (Draws.list (prog := X.prog) (w := X.w) (A := X.A.in1) (I.ok.hd hc) i2 b n2 vs.toArray)
    have en : min us.toArray.size vs.toArray.size = i := by simp only [List.size_toArray]; omega
    refine W.done s _ _ ?_ fun h' tk kp => ⟨rfl, ?_⟩
    · rw [en]
      exact ⟨hz, hTI, hTO, ⟨t1, tu⟩, ⟨t2, tv.isList⟩⟩
    · refine I.turnedL (ch := [z, TI, TO, i1, i2]) (fun q ob hq e => ?_) hf
      simp only [List.mem_cons, List.not_mem_nil, or_false, not_or] at hq
      exact kp q ob (by simp [hq]) e
  self := by
    rintro A i s Q E ⟨hz, _⟩ h
    exact wpAny_pyIter_zip hz h
def iZipM (K : PySem.W.Frag) (ta : TA) : TI := fun σ H R => ta σ H fun vs H1 => ∃ a b xs ys, vs = [.ref a, .ref b] ∧ SqT K H1 a xs ∧ SqL K H1 b ys ∧ R (ItM K a b) H1
theorem pi_zipM {X : Cx} {e e2 : Expr} {ta : TA} {p pos tpos : Pos} {elts : List Expr} {kk : Nat} (hg : Gl X "zip") (hm : X.mg "zip" = none) (ha : PA X [e, e2] ta) (hs : starEach [e, e2] X.env = (false, eval e X.env) :: starEach [e2] X.env := by rfl)
    (hpl : (backTo pos (starEach [e2] X.env)).any (·.1) = false := by rfl) : PI X (.Tuple elts kk tpos) (.Call (.Name "zip" p) [e, e2] [] pos) (iZipM X.K ta) := by
  refine ⟨fun pins s σ H R I want => Call_ (ld_blt I hg hm PyProof.Rows.boot_zip (PyProof.Rows.callWith_type1 (thn (ha.run pos pins s σ H _ I want) fun us s1 got => ?_) hs hpl))⟩
  obtain ⟨vs, H1, J, rel, a, b, xs, ys, ex, qa, qb, q⟩ := got
  subst ex
  cases rel with
  | cons r1 rel =>
    cases rel with
    | cons r2 rel =>
        cases rel
        cases r1
        cases r2
        obtain ⟨u1, _, t1, _⟩ := J.tuple qa
        obtain ⟨u2, _, t2, _⟩ := J.list qb
        have la : a < s1.heap.objs.size := let ⟨_, y, _⟩ := t1; Heap.lt_size y
        have lb : b < s1.heap.objs.size := t2.lt
        refine zip_begins2 (begins_tuple a u1.toArray) (begins_list b u2.toArray) t1 t2.isList fun h' hz hTI hTO g1 g2 _ kp => wpAny_pyIter_zip hz ?_
        have J2 : Inv X pins σ H1 { s1 with heap := h' } := J.kept (t' := s1.toks) kp
        have S := zip_sep2 (N := s1.heap.objs.size) (fp1 := [a]) (fp2 := [b]) (fun y hy => by rw [List.mem_singleton.mp hy]; exact la) (fun y hy => by rw [List.mem_singleton.mp hy]; exact lb)
        refine ⟨s1.heap.objs.size + 4, [s1.heap.objs.size + 4, s1.heap.objs.size + 2, s1.heap.objs.size + 3, s1.heap.objs.size, s1.heap.objs.size + 1], _, _, H1, rfl, J2, turn_zipM S (Nat.ne_of_lt la) (Nat.ne_of_lt (Nat.lt_succ_of_lt lb)), ⟨hz, hTI, ⟨_, _, hTO⟩, ⟨_, g1, rfl, rfl⟩, ⟨_, g2, rfl, rfl⟩⟩, fun y hy => ?_, q⟩
        have ly : s1.heap.objs.size ≤ y := by
          simp only [List.mem_cons, List.not_mem_nil, or_false] at hy
          rcases hy with rfl | rfl | rfl | rfl | rfl
          · exact Nat.le_add_right _ _
          · exact Nat.le_add_right _ _
          · exact Nat.le_add_right _ _
          · exact Nat.le_refl _
          · exact Nat.le_add_right _ _
        exact J.fpOk ly (J.hok.fresh ly)
/-- a list comprehension over zip of a tuple and a list of one length -/
theorem lc_zipM {K : PySem.W.Frag} {a b : Addr} {xs ys : List V} {g : TG} {tt : TT} {te : TE} {vs : List Nat} {σ : L2.St} {H1 : Hp} {D : Addr} {Qd : Hp → Prop} (ll : ys.length = xs.length) (Pv : Nat → Hp → Prop) (h0 : Pv 0 (upd H1 D (.lst []))) (hl : ∀ i H, i ≤ xs.length → Pv i H → SqT K H a xs ∧ SqL K H b ys)
    (hs : ∀ i x y T H, xs[i]? = some x → ys[i]? = some y → Pv i H → H T = none → g (.ref T) (wipe σ vs) (upd H T (.tup [x, y])) fun σ2 H2 => wipe σ2 vs = wipe σ vs ∧ tt σ2 H2 fun b H3 =>
      if b = true then te σ2 H3 fun y H4 => ∃ acc, H4 D = some (.lst acc) ∧ acc.length < sizeLine ∧ Pv (i + 1) (upd H4 D (.lst (acc ++ [y]))) else Pv (i + 1) H3) (hd : ∀ H, Pv xs.length H → Qd H) :
    ∃ W : Nat → Nat → Hp → Prop, (∃ m, W 0 m (upd H1 D (.lst []))) ∧ ∀ i m H, W i m H →
      ((ItM K a b).stop i H ∧ Qd H) ∨ ((ItM K a b).go i H ∧ ∃ Nx : Hp → Prop, (∀ H', Nx H' → ∃ m', m' < m ∧ W (i + 1) m' H') ∧ ∀ x H', (ItM K a b).yld i H x H' → g x (wipe σ vs) H' fun σ2 H2 => wipe σ2 vs = wipe σ vs ∧ tt σ2 H2 fun b H3 =>
        if b = true then te σ2 H3 fun y H4 => ∃ acc, H4 D = some (.lst acc) ∧ acc.length < sizeLine ∧ Nx (upd H4 D (.lst (acc ++ [y]))) else Nx H3) := by
  refine ⟨fun i m H => m = xs.length - i ∧ i ≤ xs.length ∧ Pv i H, ⟨xs.length, by simp, Nat.zero_le _, h0⟩, ?_⟩
  rintro i m H ⟨rfl, hi, p⟩
  obtain ⟨qx, qy⟩ := hl i H hi p
  by_cases hlt : i < xs.length
  · refine .inr ⟨⟨xs, ys, ⟨qx, qy⟩, hlt, ll⟩, Pv (i + 1), fun H' p' => ⟨xs.length - (i + 1), by omega, rfl, hlt, p'⟩, fun x H' y => ?_⟩
    obtain ⟨T, x', y', rfl, hT, rfl, f1, f2⟩ := y
    exact hs i x' y' T H (f1 xs qx) (f2 ys qy) p hT
  · have e : i = xs.length := by omega
    subst e
    exact .inl ⟨⟨xs, ys, ⟨qx, qy⟩, rfl, ll⟩, hd H p⟩
/-- a list comprehension over zip of two lists of one length -/
theorem lc_zipL {K : PySem.W.Frag} {a b : Addr} {xs ys : List V} {g : TG} {tt : TT} {te : TE} {vs : List Nat} {σ : L2.St} {H1 : Hp} {D : Addr} {Qd : Hp → Prop} (ll : ys.length = xs.length) (Pv : Nat → Hp → Prop) (h0 : Pv 0 (upd H1 D (.lst []))) (hl : ∀ i H, i ≤ xs.length → Pv i H → SqL K H a xs ∧ SqL K H b ys)
    (hs : ∀ i x y T H, xs[i]? = some x → ys[i]? = some y → Pv i H → H T = none → g (.ref T) (wipe σ vs) (upd H T (.tup [x, y])) fun σ2 H2 => wipe σ2 vs = wipe σ vs ∧ tt σ2 H2 fun b H3 =>
      if b = true then te σ2 H3 fun y H4 => ∃ acc, H4 D = some (.lst acc) ∧ acc.length < sizeLine ∧ Pv (i + 1) (upd H4 D (.lst (acc ++ [y]))) else Pv (i + 1) H3) (hd : ∀ H, Pv xs.length H → Qd H) :
    ∃ W : Nat → Nat → Hp → Prop, (∃ m, W 0 m (upd H1 D (.lst []))) ∧ ∀ i m H, W i m H →
      ((Itz K a b).stop i H ∧ Qd H) ∨ ((Itz K a b).go i H ∧ ∃ Nx : Hp → Prop, (∀ H', Nx H' → ∃ m', m' < m ∧ W (i + 1) m' H') ∧ ∀ x H', (Itz K a b).yld i H x H' → g x (wipe σ vs) H' fun σ2 H2 => wipe σ2 vs = wipe σ vs ∧ tt σ2 H2 fun b H3 =>
        if b = true then te σ2 H3 fun y H4 => ∃ acc, H4 D = some (.lst acc) ∧ acc.length < sizeLine ∧ Nx (upd H4 D (.lst (acc ++ [y]))) else Nx H3) := by
  refine ⟨fun i m H => m = xs.length - i ∧ i ≤ xs.length ∧ Pv i H, ⟨xs.length, by simp, Nat.zero_le _, h0⟩, ?_⟩
  rintro i m H ⟨rfl, hi, p⟩
  obtain ⟨qx, qy⟩ := hl i H hi p
  by_cases hlt : i < xs.length
  · have hy : ys[i]? = some (ys[i]'(by omega)) := List.getElem?_eq_getElem _
    refine .inr ⟨⟨xs, ys, _, _, qx, qy, List.getElem?_eq_getElem hlt, hy⟩, Pv (i + 1), fun H' p' => ⟨xs.length - (i + 1), by omega, rfl, hlt, p'⟩, fun x H' y => ?_⟩
    obtain ⟨T, x', y', rfl, hT, rfl, f1, f2⟩ := y
    exact hs i x' y' T H (f1 xs qx) (f2 ys qy) p hT
  · have e : i = xs.length := by omega
    subst e
    exact .inl ⟨⟨xs, ys, qx, qy, Or.inl (Nat.le_refl _)⟩, hd H p⟩
/-! ### kinds of ties; the web between two webs -/
theorem kindS_eq (a b : Bool) : decide (V.str (kindS a) = V.str (kindS b)) = !(a ^^ b) := by cases a <;> cases b <;> decide
def xorT (p : Tie × Tie) : Tie := ⟨p.1.one, p.1.other, p.1.foe ^^ p.2.foe⟩
/-- foe ties where the two webs have other kinds -/
def betw (ts us : List Tie) : List Tie := (ts.zip us).map xorT
theorem betw_len {ts us : List Tie} (h : us.length = ts.length) : (betw ts us).length = ts.length := by
  unfold betw
  rw [List.length_map, List.length_zip, h, Nat.min_self]
theorem betw_get {ts us : List Tie} {i : Nat} {t u : Tie} (h : ts[i]? = some t) (g : us[i]? = some u) : (betw ts us)[i]? = some (xorT (t, u)) := by
  unfold betw
  rw [List.getElem?_map, List.getElem?_zip_eq_some.mpr (by exact ⟨h, g⟩ : ts[i]? = some (t, u).1 ∧ us[i]? = some (t, u).2)]
  rfl
theorem betw_ok {n : Int} {ts us : List Tie} (h : ∀ t ∈ ts, TieOk n t) : ∀ t ∈ betw ts us, TieOk n t := fun t ht => by
  obtain ⟨p, hp, rfl⟩ := List.mem_map.mp ht
  exact h p.1 (List.of_mem_zip hp).1
theorem betw_webOk {n : Int} {ts us : List Tie} (ok : WebOk n ts) (h : us.length = ts.length) : WebOk n (betw ts us) := ⟨ok.lo, ok.hi, by rw [betw_len h]; exact ok.few, betw_ok ok.ok⟩
def spKinds : Sp := fun vs H Q _ => ∃ (v : V) (n : Int) (ts : List Tie), vs = [v] ∧ WebAt H v n ts ∧ ts.length ≤ 120 ∧ ∀ p H', Same H H' → H' p = some (.lst (ts.map fun t => V.str (kindS t.foe))) → Q (.ref p) H'
def onesTo (ss : List Int) (k : Nat) : List Int := (rng k).filter fun i => decide (sd ss i = 1)
theorem onesTo_succ (ss : List Int) (k : Nat) : onesTo ss (k + 1) = onesTo ss k ++ (if decide (sd ss k = 1) = true then [(k : Int)] else []) := by
  unfold onesTo
  rw [rng_succ, List.filter_append, List.filter_cons]
  rfl
theorem onesTo_len (ss : List Int) (k : Nat) : (onesTo ss k).length ≤ k := by
  unfold onesTo
  have := List.length_filter_le (fun i => decide (sd ss i = 1)) (rng k)
  rw [rng_length] at this
  exact this
def spOnes : Sp := fun vs H Q _ => ∃ (a : Addr) (ss : List Int), vs = [.ref a] ∧ H a = some (.tup (ss.map V.int)) ∧ ss.length ≤ 40 ∧ ∀ r H', Same H H' → H' r = some (.tup ((onesTo ss ss.length).map V.int)) → Q (.ref r) H'
theorem framed_len {n m : Int} {ts us : List Tie} (h : framedB n ts m us = true) : n = m ∧ us.length = ts.length ∧ framedI ts us = true := by
  unfold framedB at h
  rw [Bool.and_eq_true, Bool.and_eq_true] at h
  exact ⟨of_decide_eq_true h.1, (of_decide_eq_true h.2.1).symm, h.2.2⟩
theorem join_ok {n : Int} {t u : Tie} (h : joinB t u.one u.other = true) : TieOk n t ↔ TieOk n u := by
  unfold joinB at h
  simp only [Bool.or_eq_true, Bool.and_eq_true, decide_eq_true_iff] at h
  unfold TieOk
  rcases h with ⟨a, b⟩ | ⟨a, b⟩
  · rw [a, b]
  · rw [a, b]
    exact ⟨fun ⟨h1, h2, h3, h4, h5⟩ => ⟨h3, h4, h1, h2, Ne.symm h5⟩, fun ⟨h1, h2, h3, h4, h5⟩ => ⟨h3, h4, h1, h2, Ne.symm h5⟩⟩
theorem framed_at {ts us : List Tie} (h : framedI ts us = true) {i : Nat} {t u : Tie} (et : ts[i]? = some t) (eu : us[i]? = some u) : joinB t u.one u.other = true := by
  unfold framedI at h
  rw [List.all_eq_true] at h
  exact h (t, u) (List.mem_of_getElem? (List.getElem?_zip_eq_some.mpr ⟨et, eu⟩))
theorem framed_ok {n m : Int} {ts us : List Tie} (h : framedB n ts m us = true) (o : WebOk n ts ∨ WebOk m us) : WebOk n ts ∧ WebOk m us := by
  obtain ⟨rfl, ll, hf⟩ := framed_len h
  rcases o with o | o
  · refine ⟨o, o.lo, o.hi, by rw [ll]; exact o.few, fun u hu => ?_⟩
    obtain ⟨i, eu⟩ := List.getElem?_of_mem hu
    have il := (List.getElem?_eq_some_iff.mp eu).1
    have et := List.getElem?_eq_getElem (show i < ts.length by omega)
    exact (join_ok (framed_at hf et eu)).mp (o.ok _ (List.mem_of_getElem? et))
  · refine ⟨⟨o.lo, o.hi, by rw [← ll]; exact o.few, fun t ht => ?_⟩, o⟩
    obtain ⟨i, et⟩ := List.getElem?_of_mem ht
    have il := (List.getElem?_eq_some_iff.mp et).1
    have eu := List.getElem?_eq_getElem (show i < us.length by omega)
    exact (join_ok (framed_at hf et eu)).mpr (o.ok _ (List.mem_of_getElem? eu))
def spBetw (Ps : List Addr) (D : Addr) : Sp := fun vs H Q E => ∃ (v u : V) (n m : Int) (ts us : List Tie), vs = [v, u] ∧ WebAt H v n ts ∧ WebAt H u m us ∧ (WebOk n ts ∨ WebOk m us) ∧ Tabs Ps H ∧
  (framedB n ts m us = true → ∀ r H', us.length = ts.length → Kt Ps H H' → WebAt H' r n (betw ts us) → Q r H') ∧ (framedB n ts m us = false → ∀ H', Kt Ps H H' → E (.ref D) none H')
section
variable {P : Program} {w : World} {K : PySem.W.Frag} {mg : Str → Option Value} {base : Heap}
theorem ok_kinds_of {f : Addr} {fd : FuncData} (F : Fun K "kinds_of" "kinds_of" s_kinds_of f fd)  : FnOk P w K mg base CX0 1 f fd ["web"] spKinds := by
  refine F.ok sc_kinds_of (fun vs H Q E h => ?_) (fun cdv A outer s H vs Q E hr h => ?_)
  · obtain ⟨v, n, ts, rfl, _⟩ := h
    rfl
  · obtain ⟨v, n, ts, rfl, hW, few, q⟩ := h
    refine ⟨_, (pss_one (ps_ret (pe_lc (own := [("tie", 1)]) (g := (gName 1)) (tt := tYes) rfl sc_kinds_of.nd (pi_tup (pe_ix ix_tup (pv 0) pe_int (fun _ _ => rfl))) (blkOk_by (N := N_kinds_of) (sc := defScope s_kinds_of) (own := [("tie", 1)]) (by decide +kernel)) (fun _ _ _ _ _ => (pg_name (i := 1) sc_kinds_of.nd rfl (.inl rfl))) (fun _ _ _ _ _ => pts_nil) (fun _ _ _ _ _ => (pe_ix (r := rIxT K) ix_tup (pv 1) pe_int (fun _ _ => rfl)))))), ?_⟩
    obtain ⟨wa, wb, us, rfl, hwa, hwb, hp⟩ := hW
    have hlen : us.length = ts.length := Paired.length hp
    refine ⟨.ref wa, rfl, wa, _, 1, .ref wb, rfl, rfl, SqT.of hwa, rfl, wb, rfl, ⟨_, SqT.of hwb⟩, fun Z nZ => ?_⟩
    refine lc_tup (K := K) (xs := us) (fun i H' => H' Z = some (.lst ((ts.take i).map fun t => V.str (kindS t.foe))) ∧ Same H H') ⟨upd_same, same_new nZ⟩ (fun i H' _ h => SqT.of (h.2 _ _ hwb)) ?_ ?_
    · rintro i x H1 ex ⟨hZ, s1⟩
      obtain ⟨t, et, c, rfl, hc⟩ := Paired.at hp ex
      have il := (List.getElem?_eq_some_iff.mp et).1
      refine ⟨rfl, .ref c, rfl, c, _, 2, _, rfl, rfl, SqT.of (s1 _ _ hc), rfl, _, hZ, by rw [List.length_map, List.length_take]; exact small1000 (by omega), ?_, Same.mut s1 nZ⟩
      rw [upd_same, List.take_add_one, et, List.map_append]
      rfl
    · rintro H1 ⟨hZ, s1⟩
      rw [List.take_of_length_le (by omega)] at hZ
      exact q Z _ s1 hZ
theorem ok_places_turned {f : Addr} {fd : FuncData} (F : Fun K "places_turned" "places_turned" s_places_turned f fd) (M : Free mg) (m_enumerate : mg "enumerate" = none) : FnOk P w K mg base CX0 1 f fd ["sides"] spOnes := by
  refine F.ok sc_places_turned (fun vs H Q E h => ?_) (fun cdv A outer s H vs Q E hr h => ?_)
  · obtain ⟨a, ss, rfl, _⟩ := h
    rfl
  · obtain ⟨a, ss, rfl, ha, few, q⟩ := h
    refine ⟨_, (pss_one (ps_ret (pe_callTy call_tuple_of (by rfl) M.tuple (by decide +kernel) (pa_cons (pe_lc (own := [("place", 1), ("side", 2)]) (g := (gTup K 2 (gCons (gName 1) (gCons (gName 2) gNil)))) (te := tVar 1) rfl sc_places_turned.nd (pi_enumT (by rfl) m_enumerate (pa_cons (pv 0) pa_nil)) (blkOk_by (N := N_places_turned) (sc := defScope s_places_turned) (own := [("place", 1), ("side", 2)]) (by decide +kernel)) (fun _ _ _ _ _ => (pg_tup rfl (pgs_cons (pg_name (i := 1) sc_places_turned.nd rfl (.inl rfl)) (pgs_cons (pg_name (i := 2) sc_places_turned.nd rfl (.inl rfl)) pgs_nil)))) (fun _ _ _ _ _ => (pts_one (pt_cmpR op_eq (pv 2) pe_int (nomark _)))) (fun _ _ _ _ _ => (pv 1))) pa_nil)))), ?_⟩
    refine ⟨.ref a, rfl, a, _, rfl, SqT.of ha, fun Z nZ => ?_⟩
    refine lc_it (walk_enumT (xs := ss.map V.int)) (fun i H' => H' Z = some (.lst ((onesTo ss i).map V.int)) ∧ Same H H') ⟨upd_same, same_new nZ⟩ (fun i H' _ h => SqT.of (h.2 _ _ ha)) ?_ ?_
    · rintro i x H1 H2 hi ⟨hZ, s1⟩ ⟨T, x1, y, rfl, nT, rfl, e1, e2⟩
      rw [List.length_map] at hi
      obtain rfl : V.int (i : Nat) = x1 := Option.some.inj e1
      have s2 := s1.trans (same_new (o := .tup [.int (i : Nat), y]) nT)
      have hZ2 := same_new (o := .tup [.int (i : Nat), y]) nT _ _ hZ
      have ey : y = .int (sd ss (i : Int)) := by
        have h := atI_sd (ss := ss) (i := (i : Int)) (by omega) (by omega)
        rw [atI_nat e2] at h
        exact Option.some.inj h
      subst ey
      have lb := onesTo_len ss i
      refine ⟨T, _, rfl, SqT.of upd_same, rfl, _, _, rfl, _, _, rfl, rfl, rfl, _, rfl, rfl, _, rfl, ?_⟩
      rw [onesTo_succ, List.map_append, dec_int]
      by_cases hb : decide (sd ss (i : Int) = 1) = true
      · rw [hb]
        exact ⟨.int i, rfl, _, hZ2, by rw [List.length_map]; exact small1000 (by omega), upd_same, fun b o e => by rw [upd_ne (ne_of_none e nZ)]; exact s2 b o e⟩
      · rw [Bool.not_eq_true] at hb
        rw [hb]
        simp only [Bool.false_eq_true, if_false, List.map_nil, List.append_nil]
        exact ⟨hZ2, s2⟩
    · rintro H1 ⟨hZ, s1⟩
      rw [List.length_map] at hZ
      refine ⟨Z, _, rfl, .inl ⟨SqL.of hZ, fun r nr => ?_⟩⟩
      exact q r _ (s1.trans (same_new nr)) upd_same
end
/-! ### the web between two webs, and what is told of it -/
/-- what a shortest odd ring of a web is told by -/
def ShortR (n : Nat) (ts : List Tie) (H : Hp) (rg : Addr) : Prop := ∃ (W : Nat → List We) (L s : Nat) (qs ns : List Int) (a b : Addr), (∀ p, p < n → Wks ts p (W p)) ∧ s < n ∧ odL (W s) s = some L ∧ (∀ p k : Nat, p < n → odL (W p) p = some k → L < k ∨ (L = k ∧ s ≤ p)) ∧
  Way (dN ts) (2 * (s : Int) + 1) (2 * (s : Int)) qs ns ∧ Exa (dN ts) (2 * (s : Int)) (2 * (s : Int) + 1) qs ns ∧ ns.length = L ∧ H rg = some (.tup [.ref a, .ref b]) ∧ NoD H a ((qs.dropLast.map (· / 2)).map V.int) ∧ NoD H b ((ns.map (· / 2)).map V.int)
theorem RP.k {ts : List Tie} {a b : Int} {p : Bool} (h : RP ts a b p) : ∃ k, RPk ts a k b p := by
  induction h with
  | nil => exact ⟨0, .nil⟩
  | step _ ad ih =>
    obtain ⟨k, h⟩ := ih
    exact ⟨k + 1, .step h ad⟩
theorem RPk.rp {ts : List Tie} {a b : Int} {k : Nat} {p : Bool} (h : RPk ts a k b p) : RP ts a b p := by
  induction h with
  | nil => exact .nil
  | step _ ad ih => exact .step ih ad
theorem odd_od {ts : List Tie} {n : Nat} {W : Nat → List We} (h : ∀ p, p < n → Wks ts p (W p)) (no : ∀ p, p < n → odL (W p) p = none) : ¬ Odd ts n := by
  rintro ⟨x, ⟨h0, h1⟩, r⟩
  obtain ⟨k, r⟩ := r.k
  obtain ⟨p, rfl⟩ : ∃ p : Nat, x = p := ⟨x.toNat, by omega⟩
  exact (odL_none (h p (by omega))).mp (no p (by omega)) k r
def ToldT (n : Nat) (cs : List Tie) (H : Hp) (r : Addr) : Prop := (∃ (ss : List Int) (e : Addr), Told cs n ss ∧ Cons ss cs ∧ H r = some (.tup [.str "turned", .ref e]) ∧ H e = some (.tup ((onesTo ss ss.length).map V.int))) ∨
  (∃ rg : Addr, Odd cs n ∧ H r = some (.tup [.str "ring", .ref rg]) ∧ ShortR n cs H rg)
def spToldT (Ps : List Addr) (D : Addr) : Sp := fun vs H Q E => ∃ (v u : V) (n m : Int) (ts us : List Tie), vs = [v, u] ∧ WebAt H v n ts ∧ WebAt H u m us ∧ (WebOk n ts ∨ WebOk m us) ∧ Tabs Ps H ∧
  (framedB n ts m us = true → ∀ r H', us.length = ts.length → Kt Ps H H' → ToldT n.toNat (betw ts us) H' r → Q (.ref r) H') ∧ (framedB n ts m us = false → ∀ H', Kt Ps H H' → E (.ref D) none H')
section
variable {P : Program} {w : World} {K : PySem.W.Frag} {mg : Str → Option Value} {base : Heap}
theorem ok_web_between {f : Addr} {fd : FuncData} {Ps : List Addr} {D W : Addr} (F : Fun K "web_between" "web_between" s_web_between f fd) (M : Free mg) (m_zip : mg "zip" = none) (T : RefT K mg "NoFrame" D W) (D_are_framed : Df P w K mg base 3 "are_framed" ["one", "other"] (spFramed Ps)) (D_kinds_of : Df P w K mg base 1 "kinds_of" ["web"] spKinds) : FnOk P w K mg base (L2.CX P w) 4 f fd ["one", "other"] (spBetw Ps D) := by
  obtain ⟨f_are_framed, fd_are_framed, G_are_framed, g_are_framed, k_are_framed, b_are_framed⟩ := D_are_framed
  obtain ⟨f_kinds_of, fd_kinds_of, G_kinds_of, g_kinds_of, k_kinds_of, b_kinds_of⟩ := D_kinds_of
  refine F.okX sc_web_between (fun vs H Q E h => ?_) (fun cdv A outer s H vs Q E hr h => ?_)
  · obtain ⟨v, u, n, m, ts, us, rfl, _⟩ := h
    rfl
  · obtain ⟨v, u, n, m, ts, us, rfl, hW, hU, ok, hT, q, qe⟩ := h
    refine ⟨_, (pss_cons (ps_if (pt_not (pt_val (pe_call G_are_framed hr (by rfl) g_are_framed k_are_framed b_are_framed .nil pass0 (pa_cons (pv 0) (pa_cons (pv 1) pa_nil)))))
        (pss_one (ps_raise rfl (takes_of rfl rfl rfl rfl) (pmk_own PySem.F.excBase_ValueError T.exc T.gD T.kD (raises_own T.ec.hs T.tD) rfl)))
        pss_nil)
      (PSs.nox (pss_cons (ps_setLc (i := 2) (own := [("kind", 3), ("told", 4)]) (g := gTup K 2 (gCons (gName 3) (gCons (gName 4) gNil))) (tt := tYes) rfl sc_web_between.nd rfl rfl (sw_true rfl rfl rfl (by decide +kernel)) (RZ.pi_zipA (by rfl) m_zip (pa_cons (pe_call G_kinds_of (hr.mono (by decide)) (by rfl) g_kinds_of k_kinds_of b_kinds_of .nil pass0 (pa_cons (pv 0) pa_nil)) (pa_cons (pe_call G_kinds_of (hr.mono (by decide)) (by rfl) g_kinds_of k_kinds_of b_kinds_of .nil pass0 (pa_cons (pv 1) pa_nil)) pa_nil))) (blkOk_by (N := N_web_between) (sc := defScope s_web_between) (own := [("kind", 3), ("told", 4)]) (by decide +kernel)) (fun _ _ _ _ _ => (pg_tup rfl (pgs_cons (pg_name (i := 3) sc_web_between.nd rfl (.inl rfl)) (pgs_cons (pg_name (i := 4) sc_web_between.nd rfl (.inl rfl)) pgs_nil)))) (fun _ _ _ _ _ => pts_nil) (fun _ _ _ _ _ => (pe_ifExp (pt_cmpR op_eq (pv 3) (pv 4) (nomark _)) pe_str pe_str)))
      (pss_one (ps_ret (pe_tup (pa_cons (pe_ix ix_tup (pv 0) pe_int (fun _ _ => rfl)) (pa_cons (pe_callTy call_tuple_of (by rfl) M.tuple (by decide +kernel) (pa_cons (pe_lc (own := [("tie", 5), ("kind", 3)]) (g := gTup K 2 (gCons (gName 5) (gCons (gName 3) gNil))) (tt := tYes) rfl sc_web_between.nd (pi_zipM (by rfl) m_zip (pa_cons (pe_ix ix_tup (pv 0) pe_int (fun _ _ => rfl)) (pa_cons (pv 2) pa_nil))) (blkOk_by (N := N_web_between) (sc := defScope s_web_between) (own := [("tie", 5), ("kind", 3)]) (by decide +kernel)) (fun _ _ _ _ _ => (pg_tup rfl (pgs_cons (pg_name (i := 5) sc_web_between.nd rfl (.inl rfl)) (pgs_cons (pg_name (i := 3) sc_web_between.nd rfl (.inl rfl)) pgs_nil)))) (fun _ _ _ _ _ => pts_nil) (fun _ _ _ _ _ => (pe_tup (pa_cons (pe_ix (r := rIxT K) ix_tup (pv 5) pe_int (fun _ _ => rfl)) (pa_cons (pe_ix (r := rIxT K) ix_tup (pv 5) pe_int (fun _ _ => rfl)) (pa_cons (pv 3) pa_nil)))))) pa_nil)) pa_nil)))))))), ?_⟩
    refine ⟨v, rfl, u, rfl, v, u, n, ts, m, us, rfl, hW, hU, hT, fun H1 k1 => ⟨_, rfl, ?_⟩⟩
    cases hf : framedB n ts m us with
    | false =>
      exact qe hf H1 k1
    | true =>
    replace q := q hf
    have ll : us.length = ts.length := by
      unfold framedB at hf
      rw [Bool.and_eq_true, Bool.and_eq_true] at hf
      exact (of_decide_eq_true hf.2.1).symm
    obtain ⟨ok, ok'⟩ := framed_ok hf ok
    have few := ok.few
    have hW1 := hW.tk (k1.tk hT)
    have hU1 := hU.tk (k1.tk hT)
    have hT1 : Tabs Ps H1 := k1.tab
    refine ⟨v, rfl, v, n, ts, rfl, hW1, few, fun p1 H2 s2 h2 => ⟨u, rfl, u, m, us, rfl, hU1.tk (Same.tk s2), by omega, fun p2 H3 s3 h3 => ?_⟩⟩
    have h23 := s3 _ _ h2
    refine ⟨p1, p2, _, _, rfl, .inl ⟨SqL.of h23, SqL.of h3, fun Z nZ => ?_⟩⟩
    have like : ∀ i : Nat, i ≤ ts.length → ((betw ts us).take i).length = i := fun i hi => by rw [List.length_take, betw_len ll]; omega
    refine lc_zipL (by rw [List.length_map, List.length_map, ll]) (fun i H' => H' Z = some (.lst (((betw ts us).take i).map fun t => V.str (kindS t.foe))) ∧ Same H3 H') ⟨upd_same, same_new nZ⟩ (fun i H' _ h => ⟨SqL.of (h.2 _ _ h23), SqL.of (h.2 _ _ h3)⟩) ?_ ?_
    · rintro i x y T0 H4 ex ey ⟨hZ, s4⟩ nT
      rw [List.getElem?_map] at ex ey
      obtain ⟨t, et, rfl⟩ := Option.map_eq_some_iff.mp ex
      obtain ⟨t', et', rfl⟩ := Option.map_eq_some_iff.mp ey
      have il := (List.getElem?_eq_some_iff.mp et).1
      have s5 := s4.trans (same_new (o := .tup [.str (kindS t.foe), .str (kindS t'.foe)]) nT)
      refine ⟨T0, _, rfl, SqT.of upd_same, rfl, _, _, rfl, _, _, rfl, rfl, rfl, _, rfl, _, rfl, rfl, _, rfl, ?_⟩
      rw [kindS_eq]
      have fin : ∀ b : Bool, (t.foe ^^ t'.foe) = b → ∃ acc, upd H4 T0 (.tup [.str (kindS t.foe), .str (kindS t'.foe)]) Z = some (.lst acc) ∧ acc.length < sizeLine ∧ upd (upd H4 T0 (.tup [.str (kindS t.foe), .str (kindS t'.foe)])) Z (.lst (acc ++ [V.str (kindS b)])) Z = some (.lst (((betw ts us).take (i + 1)).map fun t => V.str (kindS t.foe))) ∧ Same H3 (upd (upd H4 T0 (.tup [.str (kindS t.foe), .str (kindS t'.foe)])) Z (.lst (acc ++ [V.str (kindS b)]))) := fun b eb => by
        refine ⟨_, same_new nT _ _ hZ, by rw [List.length_map, like i (by omega)]; exact small1000 (by omega), ?_, Same.mut s5 nZ⟩
        rw [upd_same, List.take_add_one, betw_get et et', List.map_append]
        subst eb
        rfl
      cases hx : (t.foe ^^ t'.foe) with
      | true => exact fin true hx
      | false => exact fin false hx
    · rintro H4 ⟨hZ, s4⟩
      rw [List.length_map, List.take_of_length_le (by rw [betw_len ll]; omega)] at hZ
      have s14 := (s2.trans s3).trans s4
      obtain ⟨wa, wb, xs, rfl, hwa, hwb, hp⟩ := hW1.tk (Same.tk s14)
      have hlen : xs.length = ts.length := Paired.length hp
      refine ⟨.ref wa, rfl, wa, _, 0, .int n, rfl, rfl, SqT.of hwa, rfl, .ref wa, rfl, wa, _, 1, .ref wb, rfl, rfl, SqT.of hwa, rfl, .ref Z, rfl, wb, Z, xs, _, rfl, SqT.of hwb, SqL.of hZ, fun Y nY => ?_⟩
      have nY' : Y ≠ Z := fun z => by rw [z, hZ] at nY; cases nY
      refine lc_zipM (xs := xs) (ys := (betw ts us).map fun t => V.str (kindS t.foe)) (by rw [List.length_map, betw_len ll, hlen]) (fun i H' => ∃ ys, H' Y = some (.lst ys) ∧ Paired (TieV H') ys ((betw ts us).take i) ∧ Same H4 H') ⟨[], upd_same, .nil, same_new nY⟩ (fun i H' _ h => by
        obtain ⟨ys, _, _, h⟩ := h
        exact ⟨SqT.of (h _ _ hwb), SqL.of (h _ _ hZ)⟩) ?_ ?_
      · rintro i x y T0 H5 ex ey ⟨ys, hY, pr, s5⟩ nT
        obtain ⟨t, et, c, rfl, hc⟩ := Paired.at hp ex
        rw [List.getElem?_map] at ey
        obtain ⟨b, eb, rfl⟩ := Option.map_eq_some_iff.mp ey
        have il := (List.getElem?_eq_some_iff.mp et).1
        obtain ⟨u', eu⟩ : ∃ u', us[i]? = some u' := ⟨_, List.getElem?_eq_getElem (by omega)⟩
        have eb' := betw_get et eu
        rw [eb] at eb'
        cases eb'
        have e6 := same_new (o := .tup [.ref c, .str (kindS (xorT (t, u')).foe)]) nT
        have ly : ys.length = i := by rw [Paired.length pr, like i (by omega)]
        refine ⟨T0, _, rfl, SqT.of upd_same, rfl, _, _, rfl, _, _, rfl, rfl, rfl, .ref c, rfl, c, _, 0, _, rfl, rfl, SqT.of (e6 _ _ (s5 _ _ hc)), rfl, .ref c, rfl, c, _, 1, _, rfl, rfl, SqT.of (e6 _ _ (s5 _ _ hc)), rfl, _, rfl, by show 3 ≤ sizeLine; decide, fun r nr => ?_⟩
        have e7 := same_new (o := .tup [.int t.one, .int t.other, .str (kindS (xorT (t, u')).foe)]) nr
        have e67 := e6.trans e7
        have hY7 := e67 _ _ hY
        have tk8 : Tk H5 (upd (upd (upd H5 T0 (.tup [.ref c, .str (kindS (xorT (t, u')).foe)])) r (.tup [.int t.one, .int t.other, .str (kindS (xorT (t, u')).foe)])) Y (.lst (ys ++ [.ref r]))) := fun a zs h => tk_lst hY7 _ _ (e67 _ _ h)
        refine ⟨ys, hY7, small1000 (by omega), ys ++ [.ref r], upd_same, ?_, Same.mut (s5.trans e67) nY⟩
        rw [List.take_add_one, eb]
        refine Paired.snoc (Paired.mono (fun _ _ h => h.tk tk8) pr) ⟨r, rfl, ?_⟩
        exact tk_lst hY7 _ _ upd_same
      · rintro H5 ⟨ys, hY, pr, s5⟩
        rw [List.take_of_length_le (by rw [betw_len ll]; omega)] at pr
        refine ⟨Y, ys, rfl, .inl ⟨SqL.of hY, fun l nl => ⟨by show 2 ≤ sizeLine; decide, fun r nr => ?_⟩⟩⟩
        have e6 := same_new (o := .tup ys) nl
        have e7 := same_new (o := .tup [.int n, .ref l]) nr
        exact q (.ref r) _ ll (k1.trans (Kt.same hT1 (s14.trans (s5.trans (e6.trans e7))))) ⟨r, l, ys, rfl, upd_same, e7 _ _ upd_same, Paired.mono (fun _ _ h => h.tk (Same.tk (e6.trans e7))) pr⟩
theorem ok_told_turning {f : Addr} {fd : FuncData} {Ps : List Addr} {D : Addr} {W : Addr} (T : RefT K mg "NoFrame" D W) (F : Fun K "told_turning" "told_turning" s_told_turning f fd) (D_web_between : DfX P w K mg base 4 "web_between" ["one", "other"] (spBetw Ps D)) (D_sides_of : Df P w K mg base 3 "sides_of" ["web"] spFixed) (D_shortest_odd : Df P w K mg base 2 "shortest_odd" ["web"] spShort) (D_places_turned : Df P w K mg base 1 "places_turned" ["sides"] spOnes) : FnOk P w K mg base (L2.CX P w) 5 f fd ["one", "other"] (spToldT Ps D) := by
  obtain ⟨f_web_between, fd_web_between, G_web_between, g_web_between, k_web_between, b_web_between⟩ := D_web_between
  obtain ⟨f_sides_of, fd_sides_of, G_sides_of, g_sides_of, k_sides_of, b_sides_of⟩ := D_sides_of
  obtain ⟨f_shortest_odd, fd_shortest_odd, G_shortest_odd, g_shortest_odd, k_shortest_odd, b_shortest_odd⟩ := D_shortest_odd
  obtain ⟨f_places_turned, fd_places_turned, G_places_turned, g_places_turned, k_places_turned, b_places_turned⟩ := D_places_turned
  refine F.okX sc_told_turning (fun vs H Q E h => ?_) (fun cdv A outer s H vs Q E hr h => ?_)
  · obtain ⟨v, u, n, m, ts, us, rfl, _⟩ := h
    rfl
  · obtain ⟨v, u, n, m, ts, us, rfl, hW, hU, ok, hT, q, qe⟩ := h
    refine ⟨_, (pss_cons (ps_set (i := 2) sc_told_turning.nd rfl (.inl rfl) (pe_callS G_web_between hr (by rfl) g_web_between k_web_between b_web_between (fun σ => passAt (takes_of rfl rfl rfl rfl) σ) (pa_cons (pv 0) (pa_cons (pv 1) pa_nil))))
      (PSs.nox (pss_cons (ps_set (i := 3) sc_told_turning.nd rfl (.inl rfl) (pe_call G_sides_of (hr.mono (by decide)) (by rfl) g_sides_of k_sides_of b_sides_of .nil pass0 (pa_cons (pv 2) pa_nil)))
      (pss_cons (ps_if (pt_cmpR op_isN (pv 3) pe_non (nomark _))
        (pss_one (ps_ret (pe_tup (pa_cons pe_str (pa_cons (pe_ix ix_tup (pe_call G_shortest_odd (hr.mono (by decide)) (by rfl) g_shortest_odd k_shortest_odd b_shortest_odd .nil pass0 (pa_cons (pv 2) pa_nil)) pe_int (fun _ _ => rfl)) pa_nil)))))
        pss_nil)
      (pss_one (ps_ret (pe_tup (pa_cons pe_str (pa_cons (pe_call G_places_turned (hr.mono (by decide)) (by rfl) g_places_turned k_places_turned b_places_turned .nil pass0 (pa_cons (pv 3) pa_nil)) pa_nil))))))))), ?_⟩
    refine ⟨v, rfl, u, rfl, v, u, n, m, ts, us, rfl, hW, hU, ok, hT, fun hf r H1 ll k1 hB => ?_, fun hf H1 k1 => qe hf H1 k1⟩
    replace q := q hf
    obtain ⟨ok, ok'⟩ := framed_ok hf ok
    obtain ⟨n, rfl⟩ : ∃ k : Nat, n = k := ⟨n.toNat, by have := ok.lo; omega⟩
    rw [Int.toNat_natCast] at q
    have okB := betw_webOk ok ll
    have hT1 : Tabs Ps H1 := k1.tab
    refine ⟨r, rfl, r, n, betw ts us, rfl, hB, okB, fun ss p H2 told cons s2 h2 => ?_, fun H2 odd s2 => ?_⟩
    · refine ⟨.ref p, rfl, rfl, _, rfl, ?_⟩
      refine ⟨.ref p, rfl, p, ss, rfl, h2, by have := told.len; have := ok.hi; omega, fun e H3 s3 h3 => ⟨by show 2 ≤ sizeLine; decide, fun z nz => ?_⟩⟩
      have e4 := same_new (o := .tup [.str "turned", .ref e]) nz
      exact q z _ ll (k1.trans (Kt.same hT1 ((s2.trans s3).trans e4))) (.inl ⟨ss, e, told, cons, upd_same, e4 _ _ h3⟩)
    · refine ⟨.non, rfl, rfl, _, rfl, ?_⟩
      refine ⟨r, rfl, r, n, betw ts us, rfl, hB.tk (Same.tk s2), okB, fun W H3 hw no s3 => absurd odd (odd_od hw no), fun W L s qs ns p rg ly a b rows H3 hw hs ho hl way exa en s3 hp hrg ha hb hly _ => ?_⟩
      refine ⟨p, _, 0, .ref rg, rfl, rfl, SqT.of hp, rfl, by show 2 ≤ sizeLine; decide, fun z nz => ?_⟩
      have e4 := same_new (o := .tup [.str "ring", .ref rg]) nz
      exact q z _ ll (k1.trans (Kt.same hT1 ((s2.trans s3).trans e4))) (.inr ⟨rg, odd, upd_same, W, L, s, qs, ns, a, b, hw, hs, ho, hl, way, exa, en, e4 _ _ hrg, ha.same e4, hb.same e4⟩)
end
/-! ### kinds are kept -/
theorem Same.kn {H H' : Hp} (s : Same H H') {v : V} (h : Kn H v) : Kn H' v := by
  cases v with
  | ref a =>
    rcases h with ⟨xs, h⟩ | ⟨xs, h⟩ | ⟨xs, h⟩
    · exact .inl ⟨xs, s _ _ h⟩
    · exact .inr (.inl ⟨xs, s _ _ h⟩)
    · exact .inr (.inr ⟨xs, s _ _ h⟩)
  | _ => exact h
/-- kinds are kept: tuples as they are, lists and dicts as such -/
structure Ks (H H' : Hp) : Prop where
  tup : ∀ a xs, H a = some (.tup xs) → H' a = some (.tup xs)
  lst : ∀ a xs, H a = some (.lst xs) → ∃ ys, H' a = some (.lst ys)
  dct : ∀ a xs, H a = some (.dK xs) → ∃ ys, H' a = some (.dK ys)
theorem Ks.trans {H H1 H2 : Hp} (a : Ks H H1) (b : Ks H1 H2) : Ks H H2 :=
  ⟨fun x xs h => b.tup _ _ (a.tup _ _ h), fun x xs h => by obtain ⟨ys, e⟩ := a.lst _ _ h; exact b.lst _ _ e, fun x xs h => by obtain ⟨ys, e⟩ := a.dct _ _ h; exact b.dct _ _ e⟩
theorem Same.ks {H H' : Hp} (s : Same H H') : Ks H H' := ⟨fun _ _ h => s _ _ h, fun _ _ h => ⟨_, s _ _ h⟩, fun _ _ h => ⟨_, s _ _ h⟩⟩
theorem Ks.mut {H : Hp} {a : Addr} {xs ys : List V} (h : H a = some (.lst xs)) : Ks H (upd H a (.lst ys)) := by
  refine ⟨fun b zs e => ?_, fun b zs e => ?_, fun b zs e => ?_⟩
  · rw [upd_ne (fun z => by rw [z, h] at e; cases e)]
    exact e
  · by_cases z : b = a
    · rw [z, upd_same]
      exact ⟨_, rfl⟩
    · rw [upd_ne z]
      exact ⟨_, e⟩
  · rw [upd_ne (fun z => by rw [z, h] at e; cases e)]
    exact ⟨_, e⟩
theorem Kp.ks {d : Addr} {b b' : Nat} {H H' : Hp} (k : Kp d d H H') (D : Well H d b) (D' : Well H' d b') : Ks H H' := by
  obtain ⟨g, st, i, e, _⟩ := D
  obtain ⟨g', st', i', e', _⟩ := D'
  refine ⟨fun a zs h => ?_, fun a zs h => ?_, fun a zs h => ?_⟩
  · have n : a ≠ d := fun z => by rw [z, e] at h; cases h
    exact k a _ n n h
  · by_cases z : a = d
    · rw [z]
      exact ⟨_, e'⟩
    · exact ⟨_, k a _ z z h⟩
  · have n : a ≠ d := fun z => by rw [z, e] at h; cases h
    exact ⟨_, k a _ n n h⟩
theorem Ks.kn {H H' : Hp} (s : Ks H H') {v : V} (h : Kn H v) : Kn H' v := by
  cases v with
  | ref a =>
    rcases h with ⟨xs, h⟩ | ⟨xs, h⟩ | ⟨xs, h⟩
    · exact .inl (s.lst _ _ h)
    · exact .inr (.inl ⟨xs, s.tup _ _ h⟩)
    · exact .inr (.inr (s.dct _ _ h))
  | _ => exact h
theorem Ks.parts {H H' : Hp} (s : Ks H H') {v : V} (h : Kn H v) : parts H' v = parts H v := by
  cases v with
  | ref a =>
    unfold FF.parts
    rcases h with ⟨xs, h⟩ | ⟨xs, h⟩ | ⟨xs, h⟩
    · obtain ⟨ys, e⟩ := s.lst _ _ h
      simp only [h, e]
    · simp only [h, s.tup _ _ h]
    · obtain ⟨ys, e⟩ := s.dct _ _ h
      simp only [h, e]
  | _ => rfl
theorem Kt.ks {Ps : List Addr} {H H' : Hp} (k : Kt Ps H H') (t : Tabs Ps H) : Ks H H' := ⟨fun _ _ h => k.tup t h, fun _ _ h => ⟨_, k.lst t h⟩, fun _ _ h => ⟨_, k.dct t h⟩⟩
theorem le1000 {n : Nat} (h : n ≤ 1000) : n ≤ sizeLine := Nat.le_of_lt (small1000 h)
/-! ### webs as data -/
theorem lay_tie (t : Tie) : (tieD t).canLay0 = true := by
  unfold tieD
  have h := (kind_ok t.foe).1
  simp only [PyData.canLay0, PyData.canLayAll0, Bool.true_and, Bool.and_true] at h ⊢
  exact h
theorem lay_ties : ∀ ts : List Tie, PyData.canLayAll0 (ts.map tieD) = true
  | [] => by simp [PyData.canLayAll0]
  | t :: ts => by rw [List.map_cons, PyData.canLayAll0, lay_tie t, lay_ties ts]; rfl
theorem lay_web (n : Int) (ts : List Tie) : (webD n ts).canLay0 = true := by
  unfold webD
  rw [PyData.canLay0, PyData.canLayAll0, PyData.canLayAll0, PyData.canLay0, PyData.canLay0, lay_ties, PyData.canLayAll0]
  rfl
theorem deep_ties : ∀ ts : List Tie, PyData.depthAll (ts.map tieD) ≤ 1
  | [] => by simp [PyData.depthAll]
  | t :: ts => by
    have h := deep_ties ts
    have g : (tieD t).depth = 1 := by simp [tieD, PyData.depth, PyData.depthAll]
    rw [List.map_cons, PyData.depthAll, g]
    omega
theorem shaped_web (n : Int) (ts : List Tie) : SeqAt.shaped (webD n ts) = true := by
  have h := deep_ties ts
  have d : (webD n ts).depth ≤ 3 := by
    simp only [webD, PyData.depth, PyData.depthAll]
    omega
  unfold SeqAt.shaped
  rw [lay_web]
  simp
  omega
/-! ### rows of numbers, in lists -/
def listD (xs : List Int) : PyData := .list (xs.map PyData.int)
theorem shaped_listD (xs : List Int) : SeqAt.shaped (listD xs) = true := by
  unfold SeqAt.shaped listD
  rw [PyData.canLay0, PyData.depth, lay_ints, deep_ints]
  rfl
theorem eqvAll_ints : ∀ xs ys : List Int, PyData.eqvAll (xs.map PyData.int) (ys.map PyData.int) = decide (xs = ys)
  | [], [] => by simp [PyData.eqvAll]
  | [], y :: ys => by simp [PyData.eqvAll]
  | x :: xs, [] => by simp [PyData.eqvAll]
  | x :: xs, y :: ys => by
    rw [List.map_cons, List.map_cons, PyData.eqvAll, eqvAll_ints xs ys, PyData.eqv]
    by_cases h1 : x = y <;> by_cases h2 : xs = ys <;> simp [h1, h2]
theorem eqv_listD (xs ys : List Int) : PyData.eqv (listD xs) (listD ys) = decide (xs = ys) := by
  unfold listD
  rw [PyData.eqv]
  exact eqvAll_ints xs ys
/-! ### k26: a ring looked at, its foes -/
theorem NoD.kt {Ps : List Addr} {H H' : Hp} {p : Addr} {xs : List V} (h : NoD H p xs) (k : Kt Ps H H') (t : Tabs Ps H) : NoD H' p xs := by
  obtain ⟨o, h1, h2⟩ := h
  exact ⟨o, h1, k.keep _ _ (t.out h2 fun _ z => by cases z) h2⟩
theorem NoD.ty {K : PySem.W.Frag} {H : Hp} {p : Addr} {xs : List V} (h : NoD H p xs) : ∃ t, TyX K H (.ref p) t ∧ PySem.W.kitOne K t (.type "tuple") = some true := by
  obtain ⟨o, _, h2⟩ := h
  exact ⟨_, .fTuple h2, kit_ty (r := true) (by decide +kernel)⟩
theorem shaped_two (xs ys : List Int) : SeqAt.shaped (.list [listD xs, listD ys]) = true := by
  have d : ∀ zs, (listD zs).depth = 1 := fun zs => by unfold listD; rw [PyData.depth, deep_ints]
  have l : ∀ zs, (listD zs).canLay0 = true := fun zs => by unfold listD; rw [PyData.canLay0]; exact lay_ints zs
  unfold SeqAt.shaped
  rw [PyData.canLay0, PyData.canLayAll0, PyData.canLayAll0, PyData.canLayAll0, l, l, PyData.depth, PyData.depthAll, PyData.depthAll, PyData.depthAll, d, d]
  rfl
def spNumbers26 : Sp := fun vs H Q _ => ∃ (a : Addr) (n : Int) (ns : List Int), vs = [.ref a, .int n] ∧ NoD H a (ns.map V.int) ∧ (∀ x ∈ ns, 0 ≤ x ∧ x < n) ∧ Q (.bl true) H
def spIsRing26 : Sp := fun vs H Q _ => ∃ (wv : V) (r a b : Addr) (n : Int) (ts cs : List Tie) (rs ms : List Int), vs = [wv, .ref r] ∧ WebAt H wv n ts ∧ WebOk n ts ∧ H r = some (.tup [.ref a, .ref b]) ∧ NoD H a (rs.map V.int) ∧ NoD H b (ms.map V.int) ∧ RingO cs rs ms ∧ cs.length = ts.length ∧ (∀ (i : Nat) (c t : Tie), cs[i]? = some c → ts[i]? = some t → c.one = t.one ∧ c.other = t.other) ∧ ∀ H', Same H H' → Q (.bl true) H'
def foeN (ts : List Tie) (ms : List Int) : Nat := (ms.filter fun e => (tieAt ts e).foe).length
def spFoes26 : Sp := fun vs H Q _ => ∃ (wv : V) (n : Int) (ts : List Tie) (r a b : Addr) (ms : List Int), vs = [wv, .ref r] ∧ WebAt H wv n ts ∧ H r = some (.tup [.ref a, .ref b]) ∧ NoD H b (ms.map V.int) ∧ (∀ m ∈ ms, 0 ≤ m ∧ m < (ts.length : Int)) ∧ ms.length ≤ 120 ∧ ∀ H', Same H H' → Q (.int (foeN ts ms : Nat)) H'
theorem tieAt_get {ts : List Tie} {i : Int} (h0 : 0 ≤ i) (h1 : i < ts.length) : ts[i.toNat]? = some (tieAt ts i) := by
  have h : i.toNat < ts.length := by omega
  unfold tieAt
  rw [List.getD_eq_getElem?_getD, List.getElem?_eq_getElem h]
  rfl
section
variable {P : Program} {w : World} {K : PySem.W.Frag} {mg : Str → Option Value} {base : Heap}
theorem ok_l_are_numbers {f : Addr} {fd : FuncData} (F : Fun K "_law_are_numbers" "_law_are_numbers" s_l_are_numbers f fd) (M : Free mg) : FnOk P w K mg base CX0 1 f fd ["_law_thing", "_law_many"] spNumbers26 := by
  refine F.ok sc_l_are_numbers (fun vs H Q E h => ?_) (fun cdv A outer s H vs Q E hr h => ?_)
  · obtain ⟨a, n, ns, rfl, _⟩ := h
    rfl
  · obtain ⟨a, n, ns, rfl, hN, bnd, q⟩ := h
    refine ⟨_, (pss_cons (ps_if (pt_not (pt_val (pe_callB call_isi (by rfl) M.isinstance (by decide +kernel) (pa_cons (pv 0) (pa_cons (pe_bltn (v := .ty "tuple") (by rfl) M.tuple (by decide +kernel) rfl) pa_nil)))))
        (pss_one (ps_ret pe_bl))
        pss_nil)
      (pss_cons (ps_for PassesOwn.never rfl (pi_tup (pv 0)) (pg_name (i := 2) sc_l_are_numbers.nd rfl (.inl rfl))
        (pss_one (ps_if (PW.pt (pw_or (pt_not (pt_val (pe_callB call_isi (by rfl) M.isinstance (by decide +kernel) (pa_cons (pv 2) (pa_cons (pe_bltn (v := .ty "int") (by rfl) M.int (by decide +kernel) rfl) pa_nil))))) (pw_or (pt_val (pe_callB call_isi (by rfl) M.isinstance (by decide +kernel) (pa_cons (pv 2) (pa_cons (pe_bltn (v := .ty "bool") (by rfl) M.bool (by decide +kernel) rfl) pa_nil)))) (pw_or1 (pt_not (pt_chain op_le op_lt pe_int (pv 2) (pv 1)))))))
          (pss_one (ps_ret pe_bl))
          pss_nil)))
      (pss_one (ps_ret pe_bl)))), ?_⟩
    obtain ⟨t1, h1, e1⟩ := hN.ty (K := K)
    refine ⟨.ref a, rfl, .ref a, _, t1, _, _, rfl, .ty "tuple", h1, e1, _, rfl, ?_⟩
    refine ⟨.ref a, rfl, a, rfl, ⟨_, hN.sq⟩, ?_⟩
    refine for_tup (xs := ns.map V.int) (fun i σ' H' => ∃ y : Option V, σ' = [some (.ref a), some (.int n), y] ∧ H' = H) ⟨_, rfl, rfl⟩ (fun i σ' H' _ h => by
      obtain ⟨_, _, rfl⟩ := h
      exact hN.sq) ?_ (fun σ' H' h => by
      obtain ⟨_, rfl, rfl⟩ := h
      exact q)
    rintro i x σ' H' ex ⟨y, rfl, rfl⟩
    rw [List.getElem?_map] at ex
    obtain ⟨z, ez, rfl⟩ := Option.map_eq_some_iff.mp ex
    obtain ⟨z0, z1⟩ := bnd z (List.mem_of_getElem? ez)
    obtain ⟨t2, h2, e2⟩ := kn_int (K := K) (H := H') (v := .int z) trivial
    obtain ⟨t3, h3, e3⟩ := kn_bool (K := K) (H := H') (v := .int z) trivial
    refine ⟨.int z, rfl, .int z, _, t2, _, _, rfl, .ty "int", h2, e2, _, rfl, ?_⟩
    refine ⟨.int z, rfl, .int z, _, t3, _, _, rfl, .ty "bool", h3, e3, _, rfl, ?_⟩
    refine ⟨.int z, rfl, 0, z, rfl, rfl, _, rfl, ?_⟩
    rw [decide_eq_true z0]
    refine ⟨.int n, rfl, z, n, rfl, rfl, _, rfl, ?_⟩
    rw [decide_eq_true z1]
    exact ⟨_, rfl, rfl⟩
theorem ok_l_foes {f : Addr} {fd : FuncData} (F : Fun K "_law_foes" "_law_foes" s_l_foes f fd) (M : Free mg) : FnOk P w K mg base CX0 1 f fd ["_law_web_here", "_law_ring"] spFoes26 := by
  refine F.ok sc_l_foes (fun vs H Q E h => ?_) (fun cdv A outer s H vs Q E hr h => ?_)
  · obtain ⟨wv, n, ts, r, a, b, ms, rfl, _⟩ := h
    rfl
  · obtain ⟨wv, n, ts, r, a, b, ms, rfl, hW, hr0, hb, bnd, few, q⟩ := h
    refine ⟨_, (pss_one (ps_ret (pe_callB call_len_seq (by rfl) M.len PySem.boot_len (pa_cons (pe_lc (own := [("_law_tie", 2)]) (g := (gName 2)) (te := tVar 2) rfl sc_l_foes.nd (pi_tup (pe_ix ix_tup (pv 1) pe_int (fun _ _ => rfl))) (blkOk_by (N := N_l_foes) (sc := defScope s_l_foes) (own := [("_law_tie", 2)]) (by decide +kernel)) (fun _ _ _ _ _ => (pg_name (i := 2) sc_l_foes.nd rfl (.inl rfl))) (fun _ _ _ _ _ => (pts_one (pt_cmpR op_eq (pe_ix (r := rIxT K) ix_tup (pe_ix (r := rIxT K) ix_tup (pe_ix (r := rIxT K) ix_tup (pv 0) pe_int (fun _ _ => rfl)) (pv 2) (fun _ _ => rfl)) pe_int (fun _ _ => rfl)) pe_str (nomark _)))) (fun _ _ _ _ _ => (pv 2))) pa_nil)))), ?_⟩
    obtain ⟨wa, wb, us, rfl, hwa, hwb, hp⟩ := hW
    refine ⟨.ref r, rfl, r, _, 1, .ref b, rfl, rfl, SqT.of hr0, rfl, b, rfl, ⟨_, hb.sq⟩, fun Z nZ => ?_⟩
    refine lc_tup (K := K) (xs := ms.map V.int) (fun j H' => H' Z = some (.lst (((ms.take j).filter fun e => (tieAt ts e).foe).map V.int)) ∧ Same H H') ⟨upd_same, same_new nZ⟩ (fun j H' _ h => (hb.same h.2).sq) ?_ ?_
    · rintro j x H1 ex ⟨hZ, s1⟩
      rw [List.getElem?_map] at ex
      obtain ⟨e, he, rfl⟩ := Option.map_eq_some_iff.mp ex
      obtain ⟨z0, z1⟩ := bnd e (List.mem_of_getElem? he)
      have hj := (List.getElem?_eq_some_iff.mp he).1
      obtain ⟨u, eu, cc, rfl, hcc⟩ := Paired.at' hp (tieAt_get z0 z1)
      refine ⟨rfl, .ref wa, rfl, wa, _, 1, .ref wb, rfl, rfl, SqT.of (s1 _ _ hwa), rfl, .int e, rfl, wb, us, e, .ref cc, rfl, rfl, SqT.of (s1 _ _ hwb), atI_of z0 eu, cc, _, 2, _, rfl, rfl, SqT.of (s1 _ _ hcc), rfl, rfl, _, rfl, ?_⟩
      have lf : ((ms.take j).filter fun e => (tieAt ts e).foe).length ≤ j := by
        have := List.length_filter_le (fun e => (tieAt ts e).foe) (ms.take j)
        rw [List.length_take] at this
        omega
      have st : (ms.take (j + 1)).filter (fun e => (tieAt ts e).foe) = (ms.take j).filter (fun e => (tieAt ts e).foe) ++ (if (tieAt ts e).foe = true then [e] else []) := by
        rw [List.take_add_one, he, List.filter_append]
        show _ ++ List.filter _ [e] = _
        rw [List.filter_cons, List.filter_nil]
      rw [st, List.map_append]
      cases hf : (tieAt ts e).foe with
      | true => exact ⟨.int e, rfl, _, hZ, by rw [List.length_map]; exact small1000 (by omega), upd_same, Same.mut s1 nZ⟩
      | false =>
        show H1 Z = some (.lst (_ ++ [])) ∧ _
        rw [List.append_nil]
        exact ⟨hZ, s1⟩
    · rintro H1 ⟨hZ, s1⟩
      rw [List.length_map, List.take_length] at hZ
      refine ⟨Z, _, rfl, .inl (SqL.of hZ), ?_⟩
      rw [List.length_map]
      exact q _ s1
theorem ok_l_is_ring {f : Addr} {fd : FuncData} (F : Fun K "_law_is_ring" "_law_is_ring" s_l_is_ring f fd) (M : Free mg) (D_l_are_numbers : Df P w K mg base 1 "_law_are_numbers" ["_law_thing", "_law_many"] spNumbers26) : FnOk P w K mg base CX0 2 f fd ["_law_web_here", "_law_thing"] spIsRing26 := by
  obtain ⟨f_l_are_numbers, fd_l_are_numbers, G_l_are_numbers, g_l_are_numbers, k_l_are_numbers, b_l_are_numbers⟩ := D_l_are_numbers
  refine F.ok sc_l_is_ring (fun vs H Q E h => ?_) (fun cdv A outer s H vs Q E hr h => ?_)
  · obtain ⟨wv, r, a, b, n, ts, cs, rs, ms, rfl, _⟩ := h
    rfl
  · obtain ⟨wv, r, a, b, n, ts, cs, rs, ms, rfl, hW, ok, hr0, ha, hb, ro, lc, ends, q⟩ := h
    refine ⟨_, (pss_cons (ps_if (PW.pt (pw_or (pt_not (pt_val (pe_callB call_isi (by rfl) M.isinstance (by decide +kernel) (pa_cons (pv 1) (pa_cons (pe_bltn (v := .ty "tuple") (by rfl) M.tuple (by decide +kernel) rfl) pa_nil))))) (pw_or (pt_cmpR op_ne (pe_callB call_len_seq (by rfl) M.len PySem.boot_len (pa_cons (pv 1) pa_nil)) pe_int (nomark _)) (pw_or1 (pt_not (pt_val (pe_call G_l_are_numbers (hr.mono (by decide)) (by rfl) g_l_are_numbers k_l_are_numbers b_l_are_numbers .nil pass0 (pa_cons (pe_ix ix_tup (pv 1) pe_int (fun _ _ => rfl)) (pa_cons (pe_ix ix_tup (pv 0) pe_int (fun _ _ => rfl)) pa_nil)))))))))
        (pss_one (ps_ret pe_bl))
        pss_nil)
      (pss_cons (ps_asg (pv 1) (pg_tup rfl (pgs_cons (pg_name (i := 2) sc_l_is_ring.nd rfl (.inl rfl)) (pgs_cons (pg_name (i := 3) sc_l_is_ring.nd rfl (.inl rfl)) pgs_nil))))
      (pss_cons (ps_if (PW.pt (pw_or (pt_not (pt_val (pe_call G_l_are_numbers (hr.mono (by decide)) (by rfl) g_l_are_numbers k_l_are_numbers b_l_are_numbers .nil pass0 (pa_cons (pv 3) (pa_cons (pe_callB call_len_seq (by rfl) M.len PySem.boot_len (pa_cons (pe_ix ix_tup (pv 0) pe_int (fun _ _ => rfl)) pa_nil)) pa_nil))))) (pw_or (pt_cmpR op_lt (pe_callB call_len_seq (by rfl) M.len PySem.boot_len (pa_cons (pv 2) pa_nil)) pe_int (nomark _)) (pw_or1 (pt_cmpR op_ne (pe_callB call_len_seq (by rfl) M.len PySem.boot_len (pa_cons (pv 2) pa_nil)) (pe_callB call_len_seq (by rfl) M.len PySem.boot_len (pa_cons (pv 3) pa_nil)) (nomark _))))))
        (pss_one (ps_ret pe_bl))
        pss_nil)
      (pss_cons (ps_for PassesOwn.never rfl (pi_range1 (by rfl) M.range (pa_cons (pe_callB call_len_seq (by rfl) M.len PySem.boot_len (pa_cons (pv 2) pa_nil)) pa_nil)) (pg_name (i := 4) sc_l_is_ring.nd rfl (.inl rfl))
        (pss_cons (ps_set (i := 5) sc_l_is_ring.nd rfl (.inl rfl) (pe_lst (pa_cons (pe_ix ix_tup (pv 2) (pv 4) (fun _ _ => rfl)) (pa_cons (pe_ix ix_tup (pv 2) (pe_op op_mod (pe_op op_add (pv 4) pe_int) (pe_callB call_len_seq (by rfl) M.len PySem.boot_len (pa_cons (pv 2) pa_nil))) (fun _ _ => rfl)) pa_nil))))
        (pss_cons (ps_if (PW.pt (pw_or (pt_cmpR op_ne (pe_bmT PySem.F.slot_tuple_count PySem.F.type_tuple_count mt_tcount (pv 2) (pa_cons (pe_ix ix_tup (pv 2) (pv 4) (fun _ _ => rfl)) pa_nil)) pe_int (nomark _)) (pw_or1 (pt_cmpR op_ne (pe_bmT PySem.F.slot_tuple_count PySem.F.type_tuple_count mt_tcount (pv 3) (pa_cons (pe_ix ix_tup (pv 3) (pv 4) (fun _ _ => rfl)) pa_nil)) pe_int (nomark _)))))
          (pss_one (ps_ret pe_bl))
          pss_nil)
        (pss_one (ps_if (pt_cmpR (op_notInD (room65 hr)) (pe_callTy call_list_of (by rfl) M.list (by decide +kernel) (pa_cons (pe_slice sl_tupU (pe_ix ix_tup (pe_ix ix_tup (pv 0) pe_int (fun _ _ => rfl)) (pe_ix ix_tup (pv 3) (pv 4) (fun _ _ => rfl)) (fun _ _ => rfl)) po_none (po_some pe_int)) pa_nil)) (pe_lst (pa_cons (pv 5) (pa_cons (pe_revL (pv 5)) pa_nil))) rfl)
          (pss_one (ps_ret pe_bl))
          pss_nil)))))
      (pss_one (ps_ret pe_bl)))))), ?_⟩
    obtain ⟨wa, wb, us, rfl, hwa, hwb, hp⟩ := id hW
    obtain ⟨t1, h1, e1⟩ := kn_tup (K := K) (H := H) (v := .ref r) (.inr (.inl ⟨_, hr0⟩))
    have er : isT H (.ref r) = true := by unfold isT; simp only [hr0]
    rw [er] at e1
    have lus : us.length = ts.length := Paired.length hp
    have l1 := ro.len
    have l2 := ro.two
    have l3 := ro.few
    have msb : ∀ m ∈ ms, 0 ≤ m ∧ m < (ts.length : Int) := fun m hm => by
      have := ro.mp m hm
      omega
    have jn : ∀ k : Nat, k < ms.length → ∃ x y m t, rs[k]? = some x ∧ rs[(k + 1) % rs.length]? = some y ∧ ms[k]? = some m ∧ ts[m.toNat]? = some t ∧ Jn t x y := fun k hk => by
      obtain ⟨x, y, m, c, e1, e2, e3, e4, j⟩ := ro.each k hk
      have ml := (List.getElem?_eq_some_iff.mp e4).1
      have et := List.getElem?_eq_getElem (show m.toNat < ts.length by omega)
      refine ⟨x, y, m, _, e1, e2, e3, et, ?_⟩
      obtain ⟨o1, o2⟩ := ends _ _ _ e4 et
      unfold Jn at j ⊢
      rw [← o1, ← o2]
      exact j
    have rsb : ∀ x ∈ rs, 0 ≤ x ∧ x < n := fun x hx => by
      refine ⟨ro.rp x hx, ?_⟩
      obtain ⟨k, hk⟩ := List.getElem?_of_mem hx
      have kl := (List.getElem?_eq_some_iff.mp hk).1
      obtain ⟨x', y, m, t, g1, _, _, g4, j⟩ := jn k (by omega)
      rw [hk] at g1
      cases g1
      have o := ok.ok t (List.mem_of_getElem? g4)
      rcases j with ⟨j1, j2⟩ | ⟨j1, j2⟩
      · rw [← j1]; exact o.2.1
      · rw [← j2]; exact o.2.2.2.1
    refine ⟨.ref r, rfl, .ref r, _, t1, _, _, rfl, .ty "tuple", h1, e1, _, rfl, ?_⟩
    refine ⟨.ref r, rfl, r, _, rfl, .inr (SqT.of hr0), rfl, _, rfl, ?_⟩
    refine ⟨.ref r, rfl, r, _, 0, .ref a, rfl, rfl, SqT.of hr0, rfl, .ref wa, rfl, wa, _, 0, .int n, rfl, rfl, SqT.of hwa, rfl, a, n, rs, rfl, ha, rsb, _, rfl, ?_⟩
    refine ⟨.ref r, rfl, r, _, rfl, SqT.of hr0, rfl, _, _, rfl, _, _, rfl, rfl, ?_⟩
    refine ⟨.ref b, rfl, .ref wa, rfl, wa, _, 1, .ref wb, rfl, rfl, SqT.of hwa, rfl, wb, us, rfl, .inr (SqT.of hwb), b, _, ms, rfl, hb, fun m hm => by rw [lus]; exact msb m hm, _, rfl, ?_⟩
    refine ⟨.ref a, rfl, a, _, rfl, .inr ha.sq, _, 2, rfl, rfl, _, rfl, ?_⟩
    rw [List.length_map, decide_eq_false (show ¬ ((rs.length : Nat) : Int) < 2 by omega)]
    refine ⟨.ref a, rfl, a, _, rfl, .inr ha.sq, .ref b, rfl, b, _, rfl, .inr hb.sq, rfl, _, rfl, ?_⟩
    rw [List.length_map, List.length_map, l1, decide_eq_true rfl]
    refine ⟨.ref a, rfl, a, _, rfl, .inr ha.sq, _, rfl, by omega, by rw [List.length_map]; omega, ?_⟩
    rw [List.length_map, Int.toNat_natCast]
    refine for_range (lo := 0) (n := rs.length) (fun k σ' H' => ∃ y4 y5 : Option V, σ' = [some (.ref wa), some (.ref r), some (.ref a), some (.ref b), y4, y5] ∧ Same H H') ⟨none, none, rfl, Same.refl _⟩ ?_ (fun σ' H' h => by
      obtain ⟨_, _, rfl, s⟩ := h
      exact q _ s)
    rintro k σ' H1 hk ⟨y4, y5, rfl, s1⟩
    rw [show (0 : Int) + (k : Nat) = k from by omega]
    obtain ⟨x, y, m, t, e1, e2, e3, e4, j⟩ := jn k (by omega)
    have ha1 := ha.same s1
    have hb1 := hb.same s1
    have at1 : ∀ {zs : List Int} {i : Nat} {z : Int}, zs[i]? = some z → atI (zs.map V.int) (i : Int) = some (.int z) := fun h => atI_nat (by rw [List.getElem?_map, h]; rfl)
    refine ⟨.ref a, rfl, .int k, rfl, a, _, k, .int x, rfl, rfl, ha1.sq, at1 e1, .ref a, rfl, .int k, rfl, k, 1, rfl, rfl, .ref a, rfl, a, _, rfl, .inr ha1.sq, _, _, rfl, rfl, by rw [List.length_map]; omega, a, _, ((k + 1) % rs.length : Nat), .int y, rfl, by rw [List.length_map]; rfl, ha1.sq, at1 e2, by show 2 ≤ sizeLine; decide, fun p np => ?_⟩
    have s2 := s1.trans (same_new (o := .lst [.int x, .int y]) np)
    have ha2 := ha.same s2
    have hb2 := hb.same s2
    have hp2 := upd_same (H := H1) (a := p) (o := .lst [.int x, .int y])
    generalize upd H1 p (.lst [.int x, .int y]) = H2 at s2 ha2 hb2 hp2
    refine ⟨.ref a, rfl, ⟨a, _, rfl, ha2⟩, .ref a, rfl, .int k, rfl, a, _, k, .int x, rfl, rfl, ha2.sq, at1 e1, a, rs, x, rfl, rfl, ha2.sq, rfl, _, rfl, ?_⟩
    rw [ro.rd.count, if_pos (List.mem_of_getElem? e1)]
    refine ⟨.ref b, rfl, ⟨b, _, rfl, hb2⟩, .ref b, rfl, .int k, rfl, b, _, k, .int m, rfl, rfl, hb2.sq, at1 e3, b, ms, m, rfl, rfl, hb2.sq, rfl, _, rfl, ?_⟩
    rw [ro.md.count, if_pos (List.mem_of_getElem? e3)]
    obtain ⟨m0, m1⟩ := msb m (List.mem_of_getElem? e3)
    obtain ⟨u, eu, c, rfl, hc⟩ := Paired.at' hp e4
    have hc2 := s2 _ _ hc
    refine ⟨.ref wa, rfl, wa, _, 1, .ref wb, rfl, rfl, SqT.of (s2 _ _ hwa), rfl, .ref b, rfl, .int k, rfl, b, _, k, .int m, rfl, rfl, hb2.sq, at1 e3, wb, us, m, .ref c, rfl, rfl, SqT.of (s2 _ _ hwb), atI_of m0 eu, 2, rfl, c, _, rfl, hc2, fun r1 H3 s3 h3 => ?_⟩
    have ec : cutV [V.int t.one, V.int t.other, V.str (kindS t.foe)] none (some 2) = [t.one, t.other].map V.int := rfl
    rw [ec] at h3
    refine ⟨r1, _, rfl, .inr (SqT.of h3), fun l nl => ?_⟩
    have s4 := s3.trans (same_new (o := .lst ([t.one, t.other].map V.int)) nl)
    have hp4 := s4 _ _ hp2
    refine ⟨.ref p, rfl, .ref p, rfl, p, _, rfl, SqL.of hp4, fun p' np' => ⟨by show 2 ≤ sizeLine; decide, fun L nL => ?_⟩⟩
    have e5 := same_new (o := .lst [V.int x, V.int y].reverse) np'
    have e6 := same_new (o := .lst [.ref p, .ref p']) nL
    have dl : ∀ {H' : Hp} {a : Addr} {zs : List Int}, H' a = some (.lst (zs.map V.int)) → Dp K H' (.ref a) (listD zs) := fun h => .lst (SqL.of h) (dp_ints _)
    refine ⟨listD [t.one, t.other], [listD [x, y], listD [y, x]], dl (e6 _ _ (e5 _ _ upd_same)), .lst (SqL.of upd_same) (.cons (dl (zs := [x, y]) (e6 _ _ (e5 _ _ hp4))) (.cons (dl (zs := [y, x]) (e6 _ _ upd_same)) .nil)), shaped_listD _, shaped_two _ _, _, rfl, ?_⟩
    have ea : ([listD [x, y], listD [y, x]].any fun z => PyData.eqv z (listD [t.one, t.other])) = true := by
      rw [List.any_cons, List.any_cons, eqv_listD, eqv_listD, Bool.or_eq_true]
      rcases j with ⟨j1, j2⟩ | ⟨j1, j2⟩
      · exact .inl (decide_eq_true (by rw [j1, j2]))
      · exact .inr (by rw [decide_eq_true (by rw [j1, j2])]; rfl)
    rw [ea]
    exact ⟨_, _, rfl, s2.trans (s4.trans (e5.trans e6))⟩
end
/-! ### sum of a tuple of ints -/
def rSumTI (K : PySem.W.Frag) : List V → Hp → VK → Prop := fun vs H Q => ∃ (a : Addr) (ns : List Int), vs = [V.ref a] ∧ SqT K H a (ns.map V.int) ∧ Q (.int ns.sum) H
theorem cr_sumTI {X : Cx} (hc : X.calm = true) : CallR X (.builtin "sum") (rSumTI X.K) := by
  intro pins s σ H vs us Q I r h
  obtain ⟨a, ns, rfl, hs, q⟩ := h
  obtain ⟨its, rv, hl, _⟩ := I.tuple hs
  rw [Vals.ref1 r]
  have hi := rv.ints
  obtain ⟨xs, e⟩ := hi.allInts.items
  have hn : numsOf (intItems xs).toList = ns := by rw [← e]; exact hi.numsOf
  rw [nums_intItems] at hn
  have hl : s.heap.IsTuple a its.toArray := hl
  rw [e] at hl
  refine PySem.W.ktm_sumG (I.ok.hd hc) hl fun h' tk t' hk => ?_
  rw [preSum_eq, List.take_of_length_le (by simp), hn]
  exact ⟨.int _, H, I.kept hk, ⟨_, rfl⟩, q⟩
/-! ### the law's own choice (mathematics) -/
theorem filter_less {α : Type} {p q : α → Bool} (h : ∀ x, q x = true → p x = true) : ∀ {l : List α} {x : α}, x ∈ l → p x = true → q x = false → (l.filter q).length < (l.filter p).length
  | [], x, hx, _, _ => by simp at hx
  | y :: l, x, hx, hp, hq => by
    have le : ∀ l : List α, (l.filter q).length ≤ (l.filter p).length := fun l => by
      induction l with
      | nil => simp
      | cons z l ih =>
        rw [List.filter_cons, List.filter_cons]
        by_cases hz : q z = true
        · rw [if_pos hz, if_pos (h z hz)]
          simpa using ih
        · rw [if_neg hz]
          split
          · rw [List.length_cons]; omega
          · exact ih
    rcases List.mem_cons.mp hx with e | e
    · subst e
      rw [List.filter_cons, List.filter_cons, hp, hq]
      have := le l
      simp only [if_true, Bool.false_eq_true, if_false, List.length_cons]
      omega
    · have ih := filter_less h e hp hq
      rw [List.filter_cons, List.filter_cons]
      by_cases hy : q y = true
      · rw [if_pos hy, if_pos (h y hy)]
        simp only [List.length_cons]
        omega
      · rw [if_neg hy]
        split
        · rw [List.length_cons]; omega
        · exact ih
/-- places that have no entry yet -/
def lackN (n : Nat) (kvs : List (Key × V)) : Nat := ((rng n).filter fun x => (valV kvs (Sum.inl x : Key)).isNone).length
theorem lack_le (n : Nat) (kvs : List (Key × V)) : lackN n kvs ≤ n := by
  unfold lackN
  have := List.length_filter_le (fun x => (valV kvs (Sum.inl x : Key)).isNone) (rng n)
  rw [rng_length] at this
  exact this
theorem lack_put {n : Nat} {kvs : List (Key × V)} {x : Int} {v : V} (h0 : 0 ≤ x) (h1 : x < n) (h : valV kvs (Sum.inl x : Key) = none) : lackN n (putK kvs (Sum.inl x) v) < lackN n kvs := by
  unfold lackN
  refine filter_less (fun y hy => ?_) (mem_rng.mpr ⟨h0, h1⟩) (by rw [h]; rfl) (by rw [valV_put, if_pos rfl]; rfl)
  rw [valV_put] at hy
  split at hy
  · cases hy
  · exact hy
theorem putK_le (c : List (Key × V)) (k : Key) (x : V) : (putK c k x).length ≤ c.length + 1 := by
  unfold putK
  split
  · rw [List.length_map]; omega
  · rw [List.length_append]; simp
structure ChI (cs : List Tie) (n : Nat) (kvs : List (Key × V)) (D : Int → Prop) : Prop where
  rg : ∀ (x : Int) (v : V), valV kvs (Sum.inl x : Key) = some v → (0 ≤ x ∧ x < n) ∧ ∃ b m, v = .bl b ∧ leader cs m ∧ RP cs m x b
  cl : ∀ (x : Int) (b : Bool), valV kvs (Sum.inl x : Key) = some (.bl b) → ¬ D x → ∀ y f, Adj cs x y f → valV kvs (Sum.inl y : Key) = some (.bl (b ^^ f))
  few : kvs.length + lackN n kvs ≤ n
theorem ChI.nil (cs : List Tie) (n : Nat) : ChI cs n [] (fun _ => False) := ⟨(fun x v h => by cases h), (fun x b h => by cases h), by have := lack_le n []; simpa using this⟩
theorem ChI.put {cs : List Tie} {n : Nat} {kvs : List (Key × V)} {D D' : Int → Prop} (h : ChI cs n kvs D) {x : Int} {b : Bool} {m : Int} (hx : 0 ≤ x ∧ x < n) (no : valV kvs (Sum.inl x : Key) = none) (lm : leader cs m) (r : RP cs m x b) (dx : D' x) (sub : ∀ y, D y → D' y) : ChI cs n (putK kvs (Sum.inl x) (.bl b)) D' := by
  refine ⟨fun y v e => ?_, fun y c e ny z f ad => ?_, ?_⟩
  · rw [valV_put] at e
    split at e
    · rename_i ey
      cases ey
      cases e
      exact ⟨hx, b, m, rfl, lm, r⟩
    · exact h.rg y v e
  · rw [valV_put] at e ⊢
    split at e
    · rename_i ey
      cases ey
      exact absurd dx ny
    · have g := h.cl y c e (fun d => ny (sub y d)) z f ad
      split
      · rename_i ez
        cases ez
        rw [no] at g
        cases g
      · exact g
  · have h1 := putK_le kvs (Sum.inl x : Key) (.bl b)
    have h2 := lack_put (v := .bl b) hx.1 hx.2 no
    have := h.few
    omega
theorem ChI.mono {cs : List Tie} {n : Nat} {kvs : List (Key × V)} {D D' : Int → Prop} (h : ChI cs n kvs D) (sub : ∀ y, D y → D' y) : ChI cs n kvs D' := ⟨h.rg, fun x b e nx => h.cl x b e (fun d => nx (sub x d)), h.few⟩
theorem ChI.walk {cs : List Tie} {n : Nat} {kvs : List (Key × V)} (h : ChI cs n kvs (fun _ => False)) {x y : Int} {b p : Bool} (e : valV kvs (Sum.inl x : Key) = some (.bl b)) (r : RP cs x y p) : valV kvs (Sum.inl y : Key) = some (.bl (b ^^ p)) := by
  induction r with
  | nil => rw [Bool.xor_false]; exact e
  | step _ ad ih =>
    rw [← Bool.xor_assoc]
    exact h.cl _ _ ih (fun f => f) _ _ ad
theorem ChI.lead {cs : List Tie} {n : Nat} (ok : ∀ t ∈ cs, TieOk n t) {kvs : List (Key × V)} (h : ChI cs n kvs (fun _ => False)) {s : Nat} (hs : s < n) (all : ∀ x : Int, 0 ≤ x → x < s → valV kvs (Sum.inl x : Key) ≠ none) (no : valV kvs (Sum.inl (s : Int) : Key) = none) : leader cs s := by
  rw [lead_iff ok ⟨by omega, by omega⟩]
  rintro ⟨x, h0, h1, p, r⟩
  cases e : valV kvs (Sum.inl x : Key) with
  | none => exact all x h0 h1 e
  | some v =>
    obtain ⟨_, b, m, rfl, _⟩ := h.rg x v e
    have := h.walk e r
    rw [no] at this
    cases this
theorem ChI.odd {cs : List Tie} {n : Nat} (ok : ∀ t ∈ cs, TieOk n t) {kvs : List (Key × V)} {D : Int → Prop} (h : ChI cs n kvs D) {x y : Int} {b c f : Bool} (ex : valV kvs (Sum.inl x : Key) = some (.bl b)) (ey : valV kvs (Sum.inl y : Key) = some (.bl c)) (ad : Adj cs x y f) (ne : c ≠ (b ^^ f)) : Odd cs n := by
  obtain ⟨hx, b', m, e1, lm, r⟩ := h.rg x _ ex
  cases e1
  obtain ⟨hy, c', m', e2, lm', r'⟩ := h.rg y _ ey
  cases e2
  have r2 := RP.step r ad
  have em : m = m' := leader_one lm lm' ⟨_, r2⟩ ⟨_, r'⟩
  subst em
  have rr := (r2.symm).trans r'
  have e : ((b ^^ f) ^^ c) = true := by
    cases b <;> cases f <;> cases c <;> first | rfl | exact absurd rfl ne
  rw [e] at rr
  exact ⟨y, hy, rr⟩
def chS (kvs : List (Key × V)) (x : Int) : Int := if valV kvs (Sum.inl x : Key) = some (.bl true) then 1 else 0
theorem ChI.told {cs : List Tie} {n : Nat} (ok : ∀ t ∈ cs, TieOk n t) {kvs : List (Key × V)} (h : ChI cs n kvs (fun _ => False)) (all : ∀ x : Int, 0 ≤ x → x < n → valV kvs (Sum.inl x : Key) ≠ none) : Told cs n ((rng n).map (chS kvs)) ∧ Cons ((rng n).map (chS kvs)) cs := by
  have at' : ∀ {x : Int}, 0 ≤ x → x < n → ∃ b m, valV kvs (Sum.inl x : Key) = some (.bl b) ∧ leader cs m ∧ RP cs m x b ∧ chS kvs x = sideI b := fun {x} h0 h1 => by
    cases e : valV kvs (Sum.inl x : Key) with
    | none => exact absurd e (all x h0 h1)
    | some v =>
      obtain ⟨_, b, m, rfl, lm, r⟩ := h.rg x v e
      refine ⟨b, m, rfl, lm, r, ?_⟩
      unfold chS
      rw [e]
      cases b
      · rw [if_neg (by simp)]; rfl
      · rw [if_pos rfl]; rfl
  have sdm : ∀ {i : Int}, 0 ≤ i → i < n → sd ((rng n).map (chS kvs)) i = chS kvs i := fun {i} h0 h1 => by
    unfold sd rng
    rw [List.getD_eq_getElem?_getD, List.map_map, List.getElem?_map, List.getElem?_range (by omega)]
    show chS kvs ((i.toNat : Nat) : Int) = chS kvs i
    rw [show ((i.toNat : Nat) : Int) = i from by omega]
  have tl : Told cs n ((rng n).map (chS kvs)) := by
    refine told_of (by rw [List.length_map, rng_length]) fun i x hx => ?_
    have hi : i < n := by
      have := (List.getElem?_eq_some_iff.mp hx).1
      rw [List.length_map, rng_length] at this
      exact this
    have e : x = chS kvs i := by
      unfold rng at hx
      rw [List.map_map, List.getElem?_map, List.getElem?_range hi] at hx
      exact (Option.some.inj hx).symm
    obtain ⟨b, m, _, lm, r, e2⟩ := at' (x := (i : Int)) (by omega) (by omega)
    exact ⟨m, b, lm, r, by rw [e, e2]⟩
  refine ⟨tl, fun t ht => ?_⟩
  have okt := ok t ht
  obtain ⟨b, m, eb, _, _, e2⟩ := at' okt.1 okt.2.1
  have ec := h.cl _ b eb (fun f => f) t.other t.foe ⟨t, ht, rfl, .inl ⟨rfl, rfl⟩⟩
  obtain ⟨c, m', ec', _, _, e3⟩ := at' okt.2.2.1 okt.2.2.2.1
  rw [ec] at ec'
  cases ec'
  unfold brk
  rw [sdm okt.1 okt.2.1, sdm okt.2.2.1 okt.2.2.2.1, e2, e3]
  cases b <;> cases t.foe <;> rfl
theorem onesTo_ch (kvs : List (Key × V)) (n k : Nat) (hk : k ≤ n) : onesTo ((rng n).map (chS kvs)) k = (rng k).filter fun x => decide (valV kvs (Sum.inl x : Key) = some (.bl true)) := by
  unfold onesTo
  refine List.filter_congr fun i hi => ?_
  have hi := mem_rng.mp hi
  have e : sd ((rng n).map (chS kvs)) i = chS kvs i := by
    unfold sd rng
    rw [List.getD_eq_getElem?_getD, List.map_map, List.getElem?_map, List.getElem?_range (by omega)]
    show chS kvs ((i.toNat : Nat) : Int) = chS kvs i
    rw [show ((i.toNat : Nat) : Int) = i from by omega]
  rw [e]
  unfold chS
  split
  · rename_i h
    rw [h]
    rfl
  · rename_i h
    rw [decide_eq_false h]
    rfl
/-! ### k26: another web of the frame -/
theorem framedI_snoc {ts us : List Tie} {i : Nat} {t u : Tie} (h : framedI (ts.take i) us = true) (hl : us.length = i) (et : ts[i]? = some t) (j : joinB t u.one u.other = true) : framedI (ts.take (i + 1)) (us ++ [u]) = true := by
  have hi : i < ts.length := (List.getElem?_eq_some_iff.mp et).1
  unfold framedI at h ⊢
  rw [List.take_add_one, et, List.zip_append (by rw [List.length_take]; omega), List.all_append, h]
  rw [Bool.true_and]
  show ([(t, u)].all fun p => joinB p.1 p.2.one p.2.other) = true
  simpa using j
theorem pick_kind {v : Int} (h0 : 0 ≤ v) (h1 : v < 2) : ∃ fo : Bool, atI [V.str "friend", V.str "foe"] v = some (.str (kindS fo)) := by
  have h01 : v = 0 ∨ v = 1 := by omega
  rcases h01 with e | e <;> subst e
  · exact ⟨false, rfl⟩
  · exact ⟨true, rfl⟩
def SameE (ts us : List Tie) : Prop := us.length = ts.length ∧ ∀ (i : Nat) (t u : Tie), ts[i]? = some t → us[i]? = some u → u.one = t.one ∧ u.other = t.other
theorem SameE.refl (ts : List Tie) : SameE ts ts := ⟨rfl, fun i t u h g => by rw [h] at g; cases g; exact ⟨rfl, rfl⟩⟩
theorem framed_mk {ts us : List Tie} (h : ∀ (i : Nat) (t u : Tie), ts[i]? = some t → us[i]? = some u → joinB t u.one u.other = true) : framedI ts us = true := by
  unfold framedI
  rw [List.all_eq_true]
  intro p hp
  obtain ⟨i, hi⟩ := List.getElem?_of_mem hp
  obtain ⟨h1, h2⟩ := List.getElem?_zip_eq_some.mp hi
  exact h i _ _ h1 h2
theorem framed_ends {ts us xs : List Tie} (h : framedI ts us = true) (e : SameE us xs) : framedI ts xs = true := framed_mk fun i t x et ex => by
  have il := (List.getElem?_eq_some_iff.mp ex).1
  have eu := List.getElem?_eq_getElem (show i < us.length by have := e.1; omega)
  obtain ⟨h1, h2⟩ := e.2 i _ _ eu ex
  rw [h1, h2]
  exact framed_at h et eu
theorem turn_ends (ps : List Int) (t : Tie) : (turnT ps t).one = t.one ∧ (turnT ps t).other = t.other := by
  unfold turnT
  split
  · exact ⟨rfl, rfl⟩
  · exact ⟨rfl, rfl⟩
theorem flips26 (b : Bool) : valV (mergeK [] [((Sum.inr "friend" : Key), V.str "foe"), (Sum.inr "foe", V.str "friend")]) (Sum.inr (kindS b)) = some (.str (kindS (!b))) := by
  cases b <;> decide
theorem tyL26 {K : PySem.W.Frag} {H : Hp} {L : Addr} {xs : List V} (h : H L = some (.lst xs)) : tyV K "list" (.ref L) H := .inl ⟨rfl, _, SqL.of h⟩
def spOther26 : Sp := fun vs H Q _ => ∃ (d : Addr) (b : Nat) (v : V) (p : Addr) (n : Int) (ts : List Tie) (ps : List Int), vs = [.ref d, v, .ref p] ∧ Well H d b ∧ b < 2 ^ 50 ∧ WebAt H v n ts ∧ ts.length ≤ 120 ∧ NoD H p (ps.map V.int) ∧ ps.Nodup ∧
  ∀ u us H', WebAt H' u n us → us.length = ts.length → framedI ts us = true → Well H' d (b + 120) → Kp d d H H' → Q u H'
def spWith26 : Sp := fun vs H Q _ => ∃ (d : Addr) (b : Nat) (v : V) (n : Int) (ts : List Tie), vs = [.ref d, v] ∧ Well H d b ∧ b < 2 ^ 50 ∧ WebAt H v n ts ∧ ts.length ≤ 120 ∧
  ∀ u us H', WebAt H' u n us → SameE ts us → Well H' d (b + 4) → Kp d d H H' → Q u H'
section
variable {P : Program} {w : World} {K : PySem.W.Frag} {mg : Str → Option Value} {base : Heap}
theorem ok_l_other {f : Addr} {fd : FuncData} (F : Fun K "_law_other" "_law_other" s_l_other f fd) (M : Free mg) (D_l_about : Df P w K mg base 1 "_law_about" ["_law_web_here", "_law_places_here"] spAbout) (D_l_draw : Df P w K mg base 1 "_law_draw" ["_law_well_here", "_law_most"] spDraw) : FnOk P w K mg base CX0 2 f fd ["_law_well_here", "_law_web_here", "_law_some"] spOther26 := by
  obtain ⟨f_l_about, fd_l_about, G_l_about, g_l_about, k_l_about, b_l_about⟩ := D_l_about
  obtain ⟨f_l_draw, fd_l_draw, G_l_draw, g_l_draw, k_l_draw, b_l_draw⟩ := D_l_draw
  refine F.ok sc_l_other (fun vs H Q E h => ?_) (fun cdv A outer s H vs Q E hr h => ?_)
  · obtain ⟨d, b, v, p, n, ts, ps, rfl, _⟩ := h
    rfl
  · obtain ⟨d, b, v, p, n, ts, ps, rfl, hD, hB, hW, few, hP, nd, q⟩ := h
    refine ⟨_, (pss_cons (ps_set (i := 3) sc_l_other.nd rfl (.inl rfl) (pe_lst pa_nil))
      (pss_cons (ps_for PassesOwn.never rfl (pi_tup (pe_ix ix_tup (pe_call G_l_about (hr.mono (by decide)) (by rfl) g_l_about k_l_about b_l_about .nil pass0 (pa_cons (pv 1) (pa_cons (pv 2) pa_nil))) pe_int (fun _ _ => rfl))) (pg_name (i := 4) sc_l_other.nd rfl (.inl rfl))
        (Evl.pss_cut (ps_if (pt_cmpR op_eq (pe_call G_l_draw (hr.mono (by decide)) (by rfl) g_l_draw k_l_draw b_l_draw .nil pass0 (pa_cons (pv 0) (pa_cons pe_int pa_nil))) pe_int (nomark _))
          (pss_one (ps_set (i := 4) sc_l_other.nd rfl (.inl rfl) (pe_tup (pa_cons (pe_ix ix_tup (pv 4) pe_int (fun _ _ => rfl)) (pa_cons (pe_ix ix_tup (pv 4) pe_int (fun _ _ => rfl)) (pa_cons (pe_ix ix_tup (pv 4) pe_int (fun _ _ => rfl)) pa_nil))))))
          pss_nil)
        (pss_one (ps_expr (pe_bm PySem.F.plainAttrs_list PySem.F.slot_list_append PySem.F.type_list_append mt_append (pv 3) (pa_cons (pv 4) pa_nil))))))
      (pss_one (ps_ret (pe_tup (pa_cons (pe_ix ix_tup (pv 1) pe_int (fun _ _ => rfl)) (pa_cons (pe_callTy call_tuple_of (by rfl) M.tuple (by decide +kernel) (pa_cons (pv 3) pa_nil)) pa_nil))))))), ?_⟩
    obtain ⟨wa, wb, us0, rfl, hwa, hwb, hp0⟩ := id hW
    refine ⟨Nat.zero_le _, fun Z nZ => ?_⟩
    have hZd := hD.ned nZ
    have s1 : Same H (upd H Z (.lst [])) := same_new nZ
    have hZ1 := upd_same (H := H) (a := Z) (o := .lst [])
    refine ⟨.ref wa, rfl, .ref p, rfl, .ref wa, p, n, ts, ps, rfl, hW.tk (Same.tk s1), few, hP.same s1, nd, fun u H2 s2 hU => ?_⟩
    have s12 := s1.trans s2
    obtain ⟨ua, ub, xs, rfl, hua, hub, hp⟩ := hU
    have l1 : xs.length = ts.length := by rw [Paired.length hp, List.length_map]
    have hD2 := hD.same s12
    refine ⟨ua, _, 1, .ref ub, rfl, rfl, SqT.of hua, rfl, ub, rfl, ⟨_, SqT.of hub⟩, ?_⟩
    refine for_tup (xs := xs) (fun i σ' H' => ∃ (y : Option V) (vs : List V) (us : List Tie), σ' = [some (.ref d), some (.ref wa), some (.ref p), some (.ref Z), y] ∧ H' Z = some (.lst vs) ∧ Paired (TieV H') vs us ∧ us.length = i ∧ framedI (ts.take i) us = true ∧ Well H' d (b + i) ∧ Kp d d H H' ∧ Kp d Z H2 H') ⟨none, [], [], rfl, s2 _ _ hZ1, .nil, rfl, rfl, hD2, Same.kp s12, fun _ _ _ _ h => h⟩ (fun i σ' H' _ h => by
      obtain ⟨y3, vs, us, _, _, _, _, _, _, _, k⟩ := h
      refine SqT.of (k _ _ (fun z => ?_) (fun z => ?_) hub)
      · obtain ⟨g, st, w0, e, _⟩ := hD2
        rw [z, e] at hub
        cases hub
      · rw [z, s2 _ _ hZ1] at hub
        cases hub) ?_ ?_
    · rintro i x σ' H1 ex ⟨y, vs, us, rfl, hZ, hv, hl, hf, D1, K1, K1'⟩
      obtain ⟨t2, et2, a, rfl, ha⟩ := Paired.at hp ex
      rw [List.getElem?_map] at et2
      obtain ⟨t, et, rfl⟩ := Option.map_eq_some_iff.mp et2
      have hi : i < xs.length := (List.getElem?_eq_some_iff.mp ex).1
      have ha1 : H1 a = some (.tup [.int (turnT ps t).one, .int (turnT ps t).other, .str (kindS (turnT ps t).foe)]) := K1' _ _ (fun z => by
        obtain ⟨g, st, w0, e, _⟩ := hD2
        rw [z, e] at ha
        cases ha) (fun z => by rw [z, s2 _ _ hZ1] at ha; cases ha) ha
      obtain ⟨t1, t2⟩ := turn_ends ps t
      refine ⟨fun σ' H' => ∃ (a' : Addr) (t' : Tie), σ' = [some (.ref d), some (.ref wa), some (.ref p), some (.ref Z), some (.ref a')] ∧ H' a' = some (.tup [.int t'.one, .int t'.other, .str (kindS t'.foe)]) ∧ joinB t t'.one t'.other = true ∧ H' Z = some (.lst vs) ∧ Paired (TieV H') vs us ∧ Well H' d (b + i + 1) ∧ Kp d d H H' ∧ Kp d Z H2 H', ?_, ?_⟩
      · refine ⟨.ref d, rfl, d, _, 2, rfl, D1, by omega, by decide, by decide, fun y H2' a2 b2 D2 K2 => ⟨rfl, _, rfl, ?_⟩⟩
        have ha2 := K2.tk D1 _ _ ha1
        have hZ2 := K2 _ _ hZd hZd hZ
        have hv2 := ties_tk (K2.tk D1) hv
        have K2' : Kp d Z H2 H2' := fun x o h1 h2 h3 => K2 _ _ h1 h1 (K1' _ _ h1 h2 h3)
        refine ite2 (fun _ => ?_) (fun _ => ?_)
        · refine ⟨.ref a, rfl, a, _, 1, _, rfl, rfl, SqT.of ha2, rfl, .ref a, rfl, a, _, 0, _, rfl, rfl, SqT.of ha2, rfl, .ref a, rfl, a, _, 2, _, rfl, rfl, SqT.of ha2, rfl, by show 3 ≤ sizeLine; decide, fun r nr => ?_⟩
          refine ⟨r, ⟨(turnT ps t).other, (turnT ps t).one, (turnT ps t).foe⟩, rfl, upd_same, ?_, same_new nr _ _ hZ2, ties_tk (Same.tk (same_new nr)) hv2, D2.new nr, (K1.trans K2).trans (Kp.new nr), fun x o h1 h2 h3 => same_new nr _ _ (K2' x o h1 h2 h3)⟩
          unfold joinB
          rw [t1, t2]
          simp
        · refine ⟨a, turnT ps t, rfl, ha2, ?_, hZ2, hv2, D2, K1.trans K2, K2'⟩
          rw [t1, t2]
          exact joinB_self t
      · rintro σ' H3 ⟨a', t', rfl, ha', hj, hZ2, hv2, D2, K2, K2'⟩
        have lv : vs.length = us.length := Paired.length hv2
        refine ⟨.ref Z, rfl, tyL26 hZ2, .ref a', rfl, Z, vs, _, rfl, rfl, hZ2, small1000 (by omega), ?_⟩
        exact ⟨_, vs ++ [.ref a'], us ++ [t'], rfl, upd_same, Paired.snoc (ties_tk (tk_lst hZ2) hv2) (show TieV _ _ t' from ⟨a', rfl, tk_lst hZ2 _ _ ha'⟩), by rw [List.length_append, hl]; rfl, framedI_snoc hf hl et hj, (D2.mut hZd).mono (by omega), K2.mut nZ, fun x o h1 h2 h3 => by
          rw [upd_ne h2]
          exact K2' x o h1 h2 h3⟩
    · rintro σ' H1 ⟨y, vs, us, rfl, hZ, hv, hl, hf, D1, K1, _⟩
      rw [l1, List.take_length] at hf
      refine ⟨.ref wa, rfl, wa, _, 0, .int n, rfl, rfl, SqT.of (K1.tk hD _ _ hwa), rfl, .ref Z, rfl, Z, vs, rfl, .inl ⟨SqL.of hZ, fun r nr => ⟨by show 2 ≤ sizeLine; decide, fun o no => ?_⟩⟩⟩
      have s4 : Same H1 _ := (same_new (o := .tup vs) nr).trans (same_new (o := .tup [.int n, .ref r]) no)
      exact q _ us _ ⟨o, r, vs, rfl, upd_same, same_new no _ _ upd_same, ties_tk (Same.tk s4) hv⟩ (by omega) hf ((D1.same s4).mono (by omega)) (K1.trans (Same.kp s4))
theorem ok_l_with_other_kinds {f : Addr} {fd : FuncData} (F : Fun K "_law_with_other_kinds" "_law_with_other_kinds" s_l_with_other_kinds f fd) (M : Free mg) (D_l_draw : Df P w K mg base 1 "_law_draw" ["_law_well_here", "_law_most"] spDraw) : FnOk P w K mg base CX0 2 f fd ["_law_well_here", "_law_web_here"] spWith26 := by
  obtain ⟨f_l_draw, fd_l_draw, G_l_draw, g_l_draw, k_l_draw, b_l_draw⟩ := D_l_draw
  refine F.ok sc_l_with_other_kinds (fun vs H Q E h => ?_) (fun cdv A outer s H vs Q E hr h => ?_)
  · obtain ⟨d, b, v, n, ts, rfl, _⟩ := h
    rfl
  · obtain ⟨d, b, v, n, ts, rfl, hD, hB, hW, few, q⟩ := h
    have hu := room1 hr
    refine ⟨_, (pss_cons (ps_set (i := 2) sc_l_with_other_kinds.nd rfl (.inl rfl) (pe_callTy call_list_of (by rfl) M.list (by decide +kernel) (pa_cons (pe_ix ix_tup (pv 1) pe_int (fun _ _ => rfl)) pa_nil)))
      (pss_cons (ps_for PassesOwn.never rfl (pi_range1 (by rfl) M.range (pa_cons (pe_op op_mul (pe_callTy call_int1 (by rfl) M.int (by decide +kernel) (pa_cons (pe_cmpR (op_neE hr.units0) (pv 2) (pe_lst pa_nil) (nomark _)) pa_nil)) (pe_op op_add pe_int (pe_call G_l_draw (hr.mono (by decide)) (by rfl) g_l_draw k_l_draw b_l_draw .nil pass0 (pa_cons (pv 0) (pa_cons pe_int pa_nil))))) pa_nil)) (pg_name (i := 3) sc_l_with_other_kinds.nd rfl (.inl rfl))
        (pss_cons (ps_set (i := 4) sc_l_with_other_kinds.nd rfl (.inl rfl) (pe_call G_l_draw (hr.mono (by decide)) (by rfl) g_l_draw k_l_draw b_l_draw .nil pass0 (pa_cons (pv 0) (pa_cons (pe_callB call_len_seq (by rfl) M.len PySem.boot_len (pa_cons (pv 2) pa_nil)) pa_nil))))
        (pss_one (ps_asg (pe_op op_catU (pe_slice sl_tupU (pe_ix ix_list (pv 2) (pv 4) (fun _ _ => rfl)) po_none (po_some pe_int)) (pe_tup (pa_cons (pe_dget hu (pe_disp (pps_cons pe_str pe_str (pps_cons pe_str pe_str pps_nil)) (by rfl) (by rfl) (fun z => by cases z) (by decide)) (pe_ix ix_tup (pe_ix ix_list (pv 2) (pv 4) (fun _ _ => rfl)) pe_int (fun _ _ => rfl)) (fun _ _ => rfl)) pa_nil))) (pg_sub (pv 2) (pv 4) set_list)))))
      (pss_one (ps_ret (pe_tup (pa_cons (pe_ix ix_tup (pv 1) pe_int (fun _ _ => rfl)) (pa_cons (pe_callTy call_tuple_of (by rfl) M.tuple (by decide +kernel) (pa_cons (pv 2) pa_nil)) pa_nil))))))), ?_⟩
    obtain ⟨wa, wb, us0, rfl, hwa, hwb, hp0⟩ := id hW
    have l0 : us0.length = ts.length := Paired.length hp0
    refine ⟨.ref wa, rfl, wa, _, 1, .ref wb, rfl, rfl, SqT.of hwa, rfl, wb, us0, rfl, .inr (SqT.of hwb), fun L nL => ?_⟩
    have s1 := same_new (o := .lst us0) nL
    have hLd := hD.ned nL
    have hL1 := upd_same (H := H) (a := L) (o := .lst us0)
    have D1 := hD.same s1
    refine ⟨.ref L, rfl, Nat.zero_le _, fun e ne => ⟨L, e, us0, rfl, rfl, SqL.of (same_new ne _ _ hL1), SqL.of upd_same, .inr ⟨_, rfl, ?_⟩⟩⟩
    have s2 := s1.trans (same_new (o := .lst []) ne)
    have hL2 := same_new (o := .lst []) ne _ _ hL1
    have D2 := D1.same (same_new (o := .lst []) ne)
    refine ⟨.ref d, rfl, d, b, 3, rfl, D2, by omega, by decide, by decide, fun y H3 a3 b3 D3 K3 => ⟨1, y, rfl, rfl, ?_⟩⟩
    have hp3 := ties_tk (K3.tk D2) (ties_tk (Same.tk s2) hp0)
    have hL3 := K3 _ _ hLd hLd hL2
    have K03 := (Same.kp (d := d) s2).trans K3
    obtain ⟨m, hm, m0, m3, mz⟩ : ∃ m : Int, m = (if (!us0.isEmpty) = true then 1 else 0) * (1 + y) ∧ 0 ≤ m ∧ m ≤ 3 ∧ (0 < m → 0 < us0.length) := by
      cases us0 with
      | nil => exact ⟨0, by simp, by omega, by omega, fun h => by omega⟩
      | cons a r => exact ⟨1 + y, by simp, by omega, by omega, fun _ => by simp⟩
    refine ⟨_, _, rfl, rfl, .inl (by split <;> exact ⟨by decide, by decide⟩), m, by rw [hm], by omega, by omega, ?_⟩
    refine for_range (lo := 0) (n := m.toNat) (fun i σ' H' => ∃ (y3 y4 : Option V) (vs : List V) (us : List Tie), σ' = [some (.ref d), some (.ref wa), some (.ref L), y3, y4] ∧ H' L = some (.lst vs) ∧ Paired (TieV H') vs us ∧ SameE ts us ∧ Well H' d (b + 1 + i) ∧ Kp d d H H') ⟨none, none, us0, ts, rfl, hL3, hp3, SameE.refl ts, D3, K03⟩ ?_ ?_
    · rintro i σ' H4 hi ⟨y3, y4, vs, us, rfl, hL, hv, se, D4, K4⟩
      have lv : vs.length = us.length := Paired.length hv
      have pos : 0 < us0.length := mz (by omega)
      have few' := se.1
      refine ⟨.ref d, rfl, .ref L, rfl, L, vs, rfl, .inl (SqL.of hL), d, _, vs.length, rfl, D4, by omega, by omega, by omega, fun z H5 a5 b5 D5 K5 => ?_⟩
      obtain ⟨j, rfl⟩ : ∃ j : Nat, z = j := ⟨z.toNat, by omega⟩
      have hL5 := K5 _ _ hLd hLd hL
      have hv5 := ties_tk (K5.tk D4) hv
      have jl : j < vs.length := by omega
      obtain ⟨t, et, c, ec, hc⟩ := Paired.at hv5 (List.getElem?_eq_getElem jl)
      have ev : vs[j]? = some (.ref c) := by rw [List.getElem?_eq_getElem jl, ec]
      have ixj : ixN vs.length (j : Int) = some j := by
        unfold ixN
        rw [if_pos (by omega), if_pos (by omega)]
        rfl
      refine ⟨.ref L, rfl, .int j, rfl, L, vs, j, .ref c, rfl, rfl, SqL.of hL5, atI_nat ev, 2, rfl, c, _, rfl, hc, fun r H6 s6 h6 => ?_⟩
      have ec2 : cutV [V.int t.one, V.int t.other, V.str (kindS t.foe)] none (some 2) = [V.int t.one, V.int t.other] := rfl
      rw [ec2] at h6
      refine fun B nB => ⟨upd_same, [((Sum.inr "friend" : Key), V.str "foe"), (Sum.inr "foe", V.str "friend")], rfl, by decide, ?_⟩
      rw [upd_upd]
      have hk := flips26 t.foe
      generalize mergeK [] [((Sum.inr "friend" : Key), V.str "foe"), (Sum.inr "foe", V.str "friend")] = kvs at hk ⊢
      have s7 : Same H6 (upd H6 B (.dK kvs)) := same_new nB
      have hB7 : (upd H6 B (.dK kvs)) B = some (.dK kvs) := upd_same
      have s57 := s6.trans s7
      refine ⟨.ref L, rfl, .int j, rfl, L, vs, j, .ref c, rfl, rfl, SqL.of (s57 _ _ hL5), atI_nat ev, c, _, 2, _, rfl, rfl, SqT.of (s57 _ _ hc), rfl, B, .str (kindS (!t.foe)), rfl, ?_, by show 1 ≤ sizeLine; decide, fun o no => ?_⟩
      · rw [← hk]
        exact DGet.k (k := Sum.inr (kindS t.foe)) hB7
      have e8 := same_new (o := .tup [.str (kindS (!t.foe))]) no
      refine ⟨r, o, _, _, rfl, rfl, e8 _ _ (s7 _ _ h6), upd_same, by show 3 ≤ 100000; decide, fun r5 H9 s9 h9 => ?_⟩
      have s59 := (s57.trans e8).trans s9
      have hL9 := s59 _ _ hL5
      refine ⟨.ref L, rfl, .int j, rfl, L, vs, j, j, rfl, rfl, hL9, ixj, ?_⟩
      refine ⟨_, _, vs.set j (.ref r5), us.set j ⟨t.one, t.other, !t.foe⟩, rfl, upd_same, paired_set (ties_tk (tk_lst hL9) (ties_tk (Same.tk s59) hv5)) ⟨r5, rfl, tk_lst hL9 _ _ h9⟩, ⟨by rw [List.length_set]; exact se.1, fun k u w eu ew => ?_⟩, ((D5.same s59).mut hLd).mono (by omega), ((K4.trans K5).trans (Same.kp s59)).mut nL⟩
      by_cases ek : k = j
      · subst ek
        rw [List.getElem?_set_self (by omega)] at ew
        cases ew
        obtain ⟨h1, h2⟩ := se.2 _ _ _ eu et
        exact ⟨h1, h2⟩
      · rw [List.getElem?_set_ne (fun z => ek z.symm)] at ew
        exact se.2 _ _ _ eu ew
    · rintro σ' H4 ⟨y3, y4, vs, us, rfl, hL, hv, se, D4, K4⟩
      refine ⟨.ref wa, rfl, wa, _, 0, .int n, rfl, rfl, SqT.of (K4.tk hD _ _ hwa), rfl, .ref L, rfl, L, vs, rfl, .inl ⟨SqL.of hL, fun r nr => ⟨by show 2 ≤ sizeLine; decide, fun o no => ?_⟩⟩⟩
      have s4 : Same H4 _ := (same_new (o := .tup vs) nr).trans (same_new (o := .tup [.int n, .ref r]) no)
      exact q _ us _ ⟨o, r, vs, rfl, upd_same, same_new no _ _ upd_same, ties_tk (Same.tk s4) hv⟩ se ((D4.same s4).mono (by omega)) (K4.trans (Same.kp s4))
end
/-! ### k26: the law's own choice -/
def spChoice : Sp := fun vs H Q _ => ∃ (v u : V) (n : Nat) (ts us : List Tie), vs = [v, u] ∧ WebAt H v n ts ∧ WebAt H u n us ∧ us.length = ts.length ∧ WebOk n ts ∧
  (∀ ss r H', Told (betw ts us) n ss → Cons ss (betw ts us) → Same H H' → H' r = some (.tup ((onesTo ss n).map V.int)) → Q (.ref r) H') ∧ (∀ H', Odd (betw ts us) n → Same H H' → Q .non H')
theorem ne_due (b : Bool) (f g : Bool) : (!decide (V.bl b = V.bl (!decide (V.str (kindS f) = V.str (kindS g))))) = (b ^^ (f ^^ g)) := by cases b <;> cases f <;> cases g <;> decide
section
variable {P : Program} {w : World} {K : PySem.W.Frag} {mg : Str → Option Value} {base : Heap}
set_option maxHeartbeats 2000000 in
theorem ok_l_choice {f : Addr} {fd : FuncData} (F : Fun K "_law_choice" "_law_choice" s_l_choice f fd) (M : Free mg) (m_zip : mg "zip" = none) : FnOk P w K mg base CX0 1 f fd ["_law_one", "_law_other_here"] spChoice := by
  refine F.ok sc_l_choice (fun vs H Q E h => ?_) (fun cdv A outer s H vs Q E hr h => ?_)
  · obtain ⟨v, u, n, ts, us, rfl, _⟩ := h
    rfl
  · obtain ⟨v, u, n, ts, us, rfl, hW, hU, ll, ok, q, qn⟩ := h
    have hu := room1 hr
    refine ⟨_, (pss_cons (ps_set (i := 2) sc_l_choice.nd rfl (.inr rfl) pe_dnewK)
      (pss_cons (ps_for PassesOwn.never rfl (pi_range1 (by rfl) M.range (pa_cons (pe_ix ix_tup (pv 0) pe_int (fun _ _ => rfl)) pa_nil)) (pg_name (i := 3) sc_l_choice.nd rfl (.inl rfl))
        (pss_cons (ps_set (i := 4) sc_l_choice.nd rfl (.inl rfl) (pe_lst pa_nil))
        (Evl.pss_cut (ps_if (pt_cmp (pc_dnotin hu (pv 3) (pv 2)))
          (pss_cons (ps_dput hu (pv 2) (pv 3) pe_bl rfl)
          (pss_one (ps_expr (pe_bm PySem.F.plainAttrs_list PySem.F.slot_list_append PySem.F.type_list_append mt_append (pv 4) (pa_cons (pv 3) pa_nil)))))
          pss_nil)
        (pss_one (ps_while PassesOwn.never (pt_cmpR (op_neE hr.units0) (pv 4) (pe_lst pa_nil) (nomark _))
          (pss_cons (ps_set (i := 5) sc_l_choice.nd rfl (.inl rfl) (pe_bm0 PySem.F.plainAttrs_list PySem.F.slot_list_pop PySem.F.type_list_pop mt_pop (pv 4)))
          (pss_one (ps_for PassesOwn.never rfl (RZ.pi_zipA (by rfl) m_zip (pa_cons (pe_ix ix_tup (pv 0) pe_int (fun _ _ => rfl)) (pa_cons (pe_ix ix_tup (pv 1) pe_int (fun _ _ => rfl)) pa_nil))) (pg_tup rfl (pgs_cons (pg_name (i := 6) sc_l_choice.nd rfl (.inl rfl)) (pgs_cons (pg_name (i := 7) sc_l_choice.nd rfl (.inl rfl)) pgs_nil)))
            (pss_one (ps_if (pt_cmpR op_in_seq (pv 5) (pe_slice sl_tupU (pv 6) po_none (po_some pe_int)) rfl)
              (pss_cons (ps_set (i := 8) sc_l_choice.nd rfl (.inl rfl) (pe_op op_sub (pe_callB (cr_sumTI rfl) (by rfl) M.sum (by decide +kernel) (pa_cons (pe_slice sl_tupU (pv 6) po_none (po_some pe_int)) pa_nil)) (pv 5)))
              (pss_cons (ps_set (i := 9) sc_l_choice.nd rfl (.inl rfl) (pe_cmpR op_ne (pe_dget hu (pv 2) (pv 5) (fun _ _ => rfl)) (pe_cmpR op_ne (pe_ix ix_tup (pv 6) pe_int (fun _ _ => rfl)) (pe_ix ix_tup (pv 7) pe_int (fun _ _ => rfl)) (nomark _)) (nomark _)))
              (pss_cons (ps_if (pt_cmpR op_ne (pe_dget2 hu (pv 2) (pv 8) (pv 9) ⟨rfl, rfl, rfl, rfl⟩) (pv 9) (nomark _))
                (pss_one (ps_ret pe_non))
                pss_nil)
              (pss_one (ps_if (pt_cmp (pc_dnotin hu (pv 8) (pv 2)))
                (pss_cons (ps_dput hu (pv 2) (pv 8) (pv 9) rfl)
                (pss_one (ps_expr (pe_bm PySem.F.plainAttrs_list PySem.F.slot_list_append PySem.F.type_list_append mt_append (pv 4) (pa_cons (pv 8) pa_nil)))))
                pss_nil)))))
              pss_nil))))))))))
      (pss_one (ps_ret (pe_callTy call_tuple_of (by rfl) M.tuple (by decide +kernel) (pa_cons (pe_lc (own := [("_law_place", 10)]) (g := (gName 10)) (te := tVar 10) rfl sc_l_choice.nd (pi_range1 (by rfl) M.range (pa_cons (pe_ix ix_tup (pv 0) pe_int (fun _ _ => rfl)) pa_nil)) (blkOk_by (N := N_l_choice) (sc := defScope s_l_choice) (own := [("_law_place", 10)]) (by decide +kernel)) (fun _ _ _ _ _ => (pg_name (i := 10) sc_l_choice.nd rfl (.inl rfl))) (fun _ _ _ _ _ => (pts_one (pt_val (pe_dget hu (pv 2) (pv 10) (fun _ _ => rfl))))) (fun _ _ _ _ _ => (pv 10))) pa_nil)))))), ?_⟩
    obtain ⟨wa, wb, xs, rfl, hwa, hwb, hp⟩ := hW
    obtain ⟨va, vb, ys, rfl, hva, hvb, hp'⟩ := hU
    have lx : xs.length = ts.length := Paired.length hp
    have ly : ys.length = us.length := Paired.length hp'
    have n1 := ok.lo
    have n40 := ok.hi
    have few := ok.few
    have okc : ∀ t ∈ betw ts us, TieOk n t := betw_ok ok.ok
    generalize hcs : betw ts us = cs at q qn okc
    refine fun D nD => ?_
    have sD := same_new (o := .dK []) nD
    refine ⟨.ref wa, rfl, wa, _, 0, .int n, rfl, rfl, SqT.of (sD _ _ hwa), rfl, n, rfl, by omega, by omega, ?_⟩
    rw [Int.toNat_natCast]
    refine for_range (lo := 0) (n := n) (fun i σ' H' => ∃ (y3 y4 y5 y6 y7 y8 y9 : Option V) (kvs : List (Key × V)), σ' = [some (.ref wa), some (.ref va), some (.ref D), y3, y4, y5, y6, y7, y8, y9, none] ∧ H' D = some (.dK kvs) ∧ ChI cs n kvs (fun _ => False) ∧ (∀ x : Int, 0 ≤ x → x < (i : Int) → valV kvs (Sum.inl x : Key) ≠ none) ∧ Same H H') ⟨none, none, none, none, none, none, none, [], rfl, upd_same, ChI.nil cs n, fun x h0 h1 => by omega, sD⟩ ?_ ?_
    · rintro i σ' H1 hi ⟨y3, y4, y5, y6, y7, y8, y9, kvs, rfl, hD, ch, all, s1⟩
      rw [show (0 : Int) + (i : Nat) = i from by omega]
      refine ⟨Nat.zero_le _, fun C nC => ?_⟩
      have nC0 : H C = none := s1.free nC
      have hD2 := same_new (o := .lst []) nC _ _ hD
      have hC2 := upd_same (H := H1) (a := C) (o := .lst [])
      have s2 := s1.trans (same_new (o := .lst []) nC)
      have hCD : C ≠ D := fun z => by rw [z, hD] at nC; cases nC
      generalize upd H1 C (.lst []) = H2 at hD2 hC2 s2
      refine ⟨fun σ' H' => ∃ (kvs : List (Key × V)) (come : List Int), σ' = [some (.ref wa), some (.ref va), some (.ref D), some (.int i), some (.ref C), y5, y6, y7, y8, y9, none] ∧ H' D = some (.dK kvs) ∧ H' C = some (.lst (come.map V.int)) ∧ ChI cs n kvs (· ∈ come) ∧ come.length + lackN n kvs ≤ n ∧ (∀ x ∈ come, valV kvs (Sum.inl x : Key) ≠ none) ∧ (∀ x : Int, 0 ≤ x → x < ((i + 1 : Nat) : Int) → valV kvs (Sum.inl x : Key) ≠ none) ∧ Same H H', ?_, ?_⟩
      · refine ⟨.int i, rfl, .ref D, rfl, D, _, rfl, DGet.k (k := Sum.inl (i : Int)) hD2, _, rfl, ?_⟩
        cases e : valV kvs (Sum.inl (i : Int) : Key) with
        | some v =>
          refine ⟨kvs, [], rfl, hD2, hC2, ch.mono (fun _ h => h.elim), by have := lack_le n kvs; simpa using this, fun x hx => by simp at hx, fun x h0 h1 => ?_, s2⟩
          by_cases ex : x = (i : Int)
          · rw [ex, e]; simp
          · exact all x h0 (by omega)
        | none =>
          have lm := ch.lead okc hi all e
          have fw := ch.few
          refine ⟨.ref D, rfl, .int i, rfl, D, _, rfl, DPut.k (k := Sum.inl (i : Int)) hD2 (small1000 (show kvs.length ≤ 1000 by omega)), ?_⟩
          have hC3 : (upd H2 D (.dK (putK kvs (Sum.inl (i : Int)) (.bl false)))) C = some (.lst []) := by rw [upd_ne hCD]; exact hC2
          refine ⟨.ref C, rfl, .inl ⟨rfl, _, SqL.of hC3⟩, .int i, rfl, C, _, _, rfl, rfl, hC3, by show 0 < sizeLine; decide, ?_⟩
          have lp := lack_put (n := n) (v := .bl false) (x := (i : Int)) (by omega) (by omega) e
          refine ⟨putK kvs (Sum.inl (i : Int)) (.bl false), [(i : Int)], rfl, by rw [upd_ne (Ne.symm hCD)]; exact upd_same, by rw [upd_same]; rfl, ch.put ⟨by omega, by omega⟩ e lm .nil (by simp) (fun _ h => h.elim), by simp only [List.length_cons, List.length_nil]; have := lack_le n kvs; omega, fun x hx => ?_, fun x h0 h1 => ?_, ?_⟩
          · rw [List.mem_singleton.mp hx, valV_put, if_pos rfl]
            simp
          · rw [valV_put]
            split
            · simp
            · rename_i ne
              exact all x h0 (by
                have : x ≠ (i : Int) := fun z => ne (by rw [z])
                omega)
          · refine Same.mut (fun b o eb => ?_) nC0
            rw [upd_ne (fun z => by rw [z, nD] at eb; cases eb)]
            exact s2 _ _ eb
      clear hD2 hC2 s2 hD ch all s1
      rintro σ' H3 ⟨kvs, come, rfl, hD3, hC3, ch3, few3, key3, all3, s3⟩
      refine ⟨fun m σ' H' => ∃ (y5 y6 y7 y8 y9 : Option V) (kvs : List (Key × V)) (come : List Int), σ' = [some (.ref wa), some (.ref va), some (.ref D), some (.int i), some (.ref C), y5, y6, y7, y8, y9, none] ∧ H' D = some (.dK kvs) ∧ H' C = some (.lst (come.map V.int)) ∧ ChI cs n kvs (· ∈ come) ∧ come.length + lackN n kvs ≤ n ∧ (∀ x ∈ come, valV kvs (Sum.inl x : Key) ≠ none) ∧ (∀ x : Int, 0 ≤ x → x < ((i + 1 : Nat) : Int) → valV kvs (Sum.inl x : Key) ≠ none) ∧ Same H H' ∧ m = 2 * lackN n kvs + come.length, ⟨_, _, _, _, _, _, kvs, come, rfl, hD3, hC3, ch3, few3, key3, all3, s3, rfl⟩, ?_⟩
      clear hD3 hC3 ch3 few3 key3 all3 s3
      rintro m σ' H4 ⟨y5, y6, y7, y8, y9, kvs, come, rfl, hD4, hC4, ch4, few4, key4, all4, s4, hm⟩
      refine ⟨.ref C, rfl, Nat.zero_le _, fun e1 ne1 => ⟨C, e1, _, rfl, rfl, SqL.of (same_new ne1 _ _ hC4), SqL.of upd_same, _, rfl, ?_⟩⟩
      have hD5 := same_new (o := .lst []) ne1 _ _ hD4
      have hC5 := same_new (o := .lst []) ne1 _ _ hC4
      have s5 := s4.trans (same_new (o := .lst []) ne1)
      generalize upd H4 e1 (.lst []) = H5 at hD5 hC5 s5
      clear hD4 hC4 s4 ne1
      refine ite2 (fun hb => ?_) (fun hb => ?_)
      · cases hwl : come with
        | nil => rw [hwl] at hb; cases hb
        | cons z zs =>
        obtain ⟨wl, p, ep⟩ : ∃ (wl : List Int) (p : Int), z :: zs = wl ++ [p] := ⟨(z :: zs).dropLast, (z :: zs).getLast (by simp), (List.dropLast_concat_getLast (by simp)).symm⟩
        rw [hwl, ep] at hC5 ch4 few4 key4 hm
        have e3 : ((wl ++ [p]).map V.int).dropLast = wl.map V.int := by simp
        obtain ⟨bh, eh⟩ : ∃ b, valV kvs (Sum.inl p : Key) = some (.bl b) := by
          cases e : valV kvs (Sum.inl p : Key) with
          | none => exact absurd e (key4 p (by simp))
          | some v =>
            obtain ⟨_, b, m, rfl, _⟩ := ch4.rg p v e
            exact ⟨b, rfl⟩
        refine ⟨fun σ' H' => ∃ m', m' < m ∧ ∃ (y5 y6 y7 y8 y9 : Option V) (kvs : List (Key × V)) (come : List Int), σ' = [some (.ref wa), some (.ref va), some (.ref D), some (.int i), some (.ref C), y5, y6, y7, y8, y9, none] ∧ H' D = some (.dK kvs) ∧ H' C = some (.lst (come.map V.int)) ∧ ChI cs n kvs (· ∈ come) ∧ come.length + lackN n kvs ≤ n ∧ (∀ x ∈ come, valV kvs (Sum.inl x : Key) ≠ none) ∧ (∀ x : Int, 0 ≤ x → x < ((i + 1 : Nat) : Int) → valV kvs (Sum.inl x : Key) ≠ none) ∧ Same H H' ∧ m' = 2 * lackN n kvs + come.length, fun _ _ h => h, ?_⟩
        refine ⟨.ref C, rfl, .inl ⟨rfl, _, SqL.of hC5⟩, C, _, .int p, rfl, rfl, hC5, by simp, ?_⟩
        rw [e3]
        have hD6 : (upd H5 C (.lst (wl.map V.int))) D = some (.dK kvs) := by rw [upd_ne (Ne.symm hCD)]; exact hD5
        have hC6 : (upd H5 C (.lst (wl.map V.int))) C = some (.lst (wl.map V.int)) := upd_same
        have s6 : Same H (upd H5 C (.lst (wl.map V.int))) := Same.mut s5 nC0
        generalize upd H5 C (.lst (wl.map V.int)) = H6 at hD6 hC6 s6
        rw [List.length_append] at few4 hm
        simp only [List.length_cons, List.length_nil] at few4 hm
        refine ⟨.ref wa, rfl, wa, _, 1, .ref wb, rfl, rfl, SqT.of (s6 _ _ hwa), rfl, .ref va, rfl, va, _, 1, .ref vb, rfl, rfl, SqT.of (s6 _ _ hva), rfl, wb, vb, xs, ys, rfl, .inr ⟨SqT.of (s6 _ _ hwb), SqT.of (s6 _ _ hvb), ?_⟩⟩
        refine for_it (walk_zipT (xs := xs) (ys := ys) (n := xs.length) (by omega)) (fun j σ' H' => ∃ (y6 y7 y8 y9 : Option V) (kvs : List (Key × V)) (wl : List Int), σ' = [some (.ref wa), some (.ref va), some (.ref D), some (.int i), some (.ref C), some (.int p), y6, y7, y8, y9, none] ∧ H' D = some (.dK kvs) ∧ H' C = some (.lst (wl.map V.int)) ∧ ChI cs n kvs (fun x => x ∈ wl ∨ x = p) ∧ wl.length + 1 + lackN n kvs ≤ n ∧ (∀ x ∈ wl, valV kvs (Sum.inl x : Key) ≠ none) ∧ (∀ x : Int, 0 ≤ x → x < ((i + 1 : Nat) : Int) → valV kvs (Sum.inl x : Key) ≠ none) ∧ Same H H' ∧ 2 * lackN n kvs + wl.length < m ∧ valV kvs (Sum.inl p : Key) = some (.bl bh) ∧ ∀ (k : Nat) (c : Tie) (y : Int), k < j → cs[k]? = some c → ((c.one = p ∧ c.other = y) ∨ (c.one = y ∧ c.other = p)) → valV kvs (Sum.inl y : Key) = some (.bl (bh ^^ c.foe))) ⟨_, _, _, _, kvs, wl, rfl, hD6, hC6, ch4.mono (fun x hx => by
          rcases List.mem_append.mp hx with h | h
          · exact .inl h
          · exact .inr (List.mem_singleton.mp h)), by omega, fun x hx => key4 x (List.mem_append_left _ hx), all4, s6, by omega, eh, fun k c y hk => absurd hk (Nat.not_lt_zero _)⟩ (fun j σ' H' _ h => by
          obtain ⟨_, _, _, _, _, _, _, _, _, _, _, _, _, s7, _⟩ := h
          exact ⟨SqT.of (s7 _ _ hwb), SqT.of (s7 _ _ hvb)⟩) ?_ ?_
        · clear hD6 hC6 s6 hD5 hC5 s5 ch4 few4 key4 all4 eh hm
          rintro j x σ' H7 H8 hj ⟨y6, y7, y8, y9, kvs, wl, rfl, hD7, hC7, ch, fw, key, all, s7, lt, eh, cl⟩ ⟨T, x1, y1, rfl, nT, rfl, gx, gy⟩
          obtain ⟨t, et, a, rfl, ha⟩ := Paired.at hp gx
          obtain ⟨u, eu, b, rfl, hb⟩ := Paired.at hp' gy
          have ec : cs[j]? = some (xorT (t, u)) := by rw [← hcs]; exact betw_get et eu
          have okt := ok.ok t (List.mem_of_getElem? et)
          have s8 := s7.trans (same_new (o := .tup [.ref a, .ref b]) nT)
          have hD8 := same_new (o := .tup [.ref a, .ref b]) nT _ _ hD7
          have hC8 := same_new (o := .tup [.ref a, .ref b]) nT _ _ hC7
          have ha8 := s8 _ _ ha
          have hb8 := s8 _ _ hb
          refine ⟨T, _, rfl, SqT.of upd_same, rfl, _, _, rfl, _, _, rfl, rfl, ?_⟩
          generalize upd H7 T (.tup [.ref a, .ref b]) = H8 at hD8 hC8 s8 ha8 hb8
          clear hD7 hC7 s7
          have ec2 : cutV [V.int t.one, V.int t.other, V.str (kindS t.foe)] none (some 2) = [t.one, t.other].map V.int := rfl
          refine ⟨.int p, rfl, .ref a, rfl, 2, rfl, a, _, rfl, ha8, fun r H9 s9 h9 => ?_⟩
          rw [ec2] at h9
          refine ⟨r, _, rfl, .inr (SqT.of h9), rfl, flat_ints _, _, rfl, ?_⟩
          have s89 := s8.trans s9
          have hD9 := s9 _ _ hD8
          have hC9 := s9 _ _ hC8
          rw [show inV (.int p) ([t.one, t.other].map V.int) = (t.one == p || t.other == p) from in_two p _ _]
          -- the other end
          have step : ∀ {kvs' : List (Key × V)}, (∀ (k : Nat) (c : Tie) (y : Int), k < j → cs[k]? = some c → ((c.one = p ∧ c.other = y) ∨ (c.one = y ∧ c.other = p)) → valV kvs' (Sum.inl y : Key) = some (.bl (bh ^^ c.foe))) → (∀ y : Int, ((t.one = p ∧ t.other = y) ∨ (t.one = y ∧ t.other = p)) → valV kvs' (Sum.inl y : Key) = some (.bl (bh ^^ (t.foe ^^ u.foe)))) → ∀ (k : Nat) (c : Tie) (y : Int), k < j + 1 → cs[k]? = some c → ((c.one = p ∧ c.other = y) ∨ (c.one = y ∧ c.other = p)) → valV kvs' (Sum.inl y : Key) = some (.bl (bh ^^ c.foe)) := fun old new k c y hk e1 e2 => by
            by_cases ek : k = j
            · subst ek
              rw [ec] at e1
              cases e1
              exact new y e2
            · exact old k c y (by omega) e1 e2
          cases hin : (t.one == p || t.other == p) with
          | false =>
            rw [Bool.or_eq_false_iff, beq_eq_false_iff_ne, beq_eq_false_iff_ne] at hin
            refine ⟨_, _, _, _, kvs, wl, rfl, hD9, hC9, ch, fw, key, all, s89, lt, eh, step cl fun y h => ?_⟩
            rcases h with ⟨h1, _⟩ | ⟨_, h2⟩
            · exact absurd h1 hin.1
            · exact absurd h2 hin.2
          | true =>
            rw [Bool.or_eq_true, beq_iff_eq, beq_iff_eq] at hin
            refine ⟨.ref a, rfl, 2, rfl, a, _, rfl, s9 _ _ ha8, fun r2 H10 s10 h10 => ?_⟩
            rw [ec2] at h10
            have s90 := s89.trans s10
            have hD10 := s10 _ _ hD9
            have hC10 := s10 _ _ hC9
            have ha10 := s10 _ _ (s9 _ _ ha8)
            have hb10 := s10 _ _ (s9 _ _ hb8)
            obtain ⟨y, ey, jy, hy⟩ : ∃ y : Int, [t.one, t.other].sum - p = y ∧ ((t.one = p ∧ t.other = y) ∨ (t.one = y ∧ t.other = p)) ∧ (0 ≤ y ∧ y < n) := by
              have es : [t.one, t.other].sum = t.one + t.other := by simp
              rcases hin with h | h
              · exact ⟨t.other, by rw [es]; omega, .inl ⟨h, rfl⟩, okt.2.2.1, okt.2.2.2.1⟩
              · exact ⟨t.one, by rw [es]; omega, .inr ⟨rfl, h⟩, okt.1, okt.2.1⟩
            have uy : ∀ y', ((t.one = p ∧ t.other = y') ∨ (t.one = y' ∧ t.other = p)) → y' = y := fun y' h => by
              have ne := okt.2.2.2.2
              rcases h with ⟨h1, h2⟩ | ⟨h1, h2⟩ <;> rcases jy with ⟨g1, g2⟩ | ⟨g1, g2⟩ <;> omega
            have ady : Adj cs p y (t.foe ^^ u.foe) := ⟨xorT (t, u), List.mem_of_getElem? ec, rfl, jy⟩
            refine ⟨r2, _, rfl, SqT.of h10, .int p, rfl, _, p, rfl, rfl, ?_⟩
            show (tSeq _ _ : L2.TS) _ [some (.ref wa), some (.ref va), some (.ref D), some (.int i), some (.ref C), some (.int p), some (.ref a), some (.ref b), some (.int ([t.one, t.other].sum - p)), y9, none] H10
            rw [ey]
            have gp : DGet H10 D (.int p) (some (.bl bh)) := by
              rw [← eh]
              exact DGet.k (k := Sum.inl p) hD10
            refine ⟨.ref D, rfl, .int p, rfl, D, .bl bh, rfl, gp, .ref a, rfl, a, _, 2, _, rfl, rfl, SqT.of ha10, rfl, .ref b, rfl, b, _, 2, _, rfl, rfl, SqT.of hb10, rfl, rfl, rfl, ?_⟩
            rw [ne_due]
            generalize hdue : (bh ^^ (t.foe ^^ u.foe)) = due
            have gy' := DGet.k (k := (Sum.inl y : Key)) hD10
            have gl := ch.few
            cases e : valV kvs (Sum.inl y : Key) with
            | some v =>
              obtain ⟨_, c, mm, rfl, _⟩ := ch.rg y v e
              rw [e] at gy'
              refine ⟨.ref D, rfl, D, rfl, .inl ⟨_, .inl hD10⟩, .int y, rfl, .bl due, rfl, _, gy', .bl due, rfl, rfl, _, rfl, ?_⟩
              by_cases ecd : c = due
              · subst ecd
                have e1 : (!decide ((some (V.bl c)).getD (.bl c) = V.bl c)) = false := by cases c <;> rfl
                rw [e1]
                refine ⟨.int y, rfl, .ref D, rfl, D, _, rfl, gy', _, rfl, ?_⟩
                refine ⟨_, _, _, _, kvs, wl, rfl, hD10, hC10, ch, fw, key, all, s90, lt, eh, step cl fun y' h => ?_⟩
                rw [uy y' h, e, hdue]
              · have e1 : (!decide ((some (V.bl c)).getD (.bl due) = V.bl due)) = true := by cases c <;> cases due <;> first | rfl | exact absurd rfl ecd
                rw [e1]
                exact qn _ (ch.odd okc eh e ady (by rw [hdue]; exact ecd)) s90
            | none =>
              rw [e] at gy'
              refine ⟨.ref D, rfl, D, rfl, .inl ⟨_, .inl hD10⟩, .int y, rfl, .bl due, rfl, _, gy', .bl due, rfl, rfl, _, rfl, ?_⟩
              have e1 : (!decide ((none : Option V).getD (.bl due) = V.bl due)) = false := by cases due <;> rfl
              rw [e1]
              refine ⟨.int y, rfl, .ref D, rfl, D, _, rfl, gy', _, rfl, ?_⟩
              obtain ⟨_, b0, mm, eb0, lm, rp0⟩ := ch.rg p _ eh
              cases eb0
              have rpy := RP.step rp0 ady
              rw [hdue] at rpy
              have lp := lack_put (n := n) (v := .bl due) hy.1 hy.2 e
              refine ⟨.bl due, rfl, .ref D, rfl, .int y, rfl, D, _, rfl, DPut.k (k := Sum.inl y) hD10 (small1000 (show kvs.length ≤ 1000 by omega)), ?_⟩
              have hC11 : (upd H10 D (.dK (putK kvs (Sum.inl y) (.bl due)))) C = some (.lst (wl.map V.int)) := by rw [upd_ne hCD]; exact hC10
              have yp : y ≠ p := fun z => by rw [z, eh] at e; cases e
              have hput : ∀ z : Int, valV kvs (Sum.inl z : Key) ≠ none → valV (putK kvs (Sum.inl y) (.bl due)) (Sum.inl z : Key) ≠ none := fun z hz => by
                rw [valV_put]
                split
                · simp
                · exact hz
              refine ⟨.ref C, rfl, .inl ⟨rfl, _, SqL.of hC11⟩, .int y, rfl, C, _, _, rfl, rfl, hC11, by rw [List.length_map]; exact small1000 (by omega), ?_⟩
              refine ⟨_, _, _, _, putK kvs (Sum.inl y) (.bl due), wl ++ [y], rfl, by rw [upd_ne (Ne.symm hCD)]; exact upd_same, by rw [upd_same, List.map_append]; rfl, ch.put hy e lm rpy (.inl (by simp)) (fun z h => ?_), by rw [List.length_append]; simp only [List.length_cons, List.length_nil]; omega, fun z hz => ?_, fun z h0 h1 => hput z (all z h0 h1), Same.mut (fun b' o' eb' => ?_) nC0, by rw [List.length_append]; simp only [List.length_cons, List.length_nil]; omega, ?_, step (fun k c y' hk e2 e3 => ?_) fun y' h => ?_⟩
              · rcases h with h | h
                · exact .inl (List.mem_append_left _ h)
                · exact .inr h
              · rcases List.mem_append.mp hz with h | h
                · exact hput z (key z h)
                · rw [List.mem_singleton.mp h, valV_put, if_pos rfl]
                  simp
              · rw [upd_ne (fun z => by rw [z, nD] at eb'; cases eb')]
                exact s90 _ _ eb'
              · rw [valV_put, if_neg (fun z => yp (by cases z; rfl))]
                exact eh
              · have g := cl k c y' hk e2 e3
                rw [valV_put]
                split
                · rename_i z
                  rw [z, e] at g
                  cases g
                · exact g
              · rw [uy y' h, valV_put, if_pos rfl, hdue]
        · rintro σ' H7 ⟨y6, y7, y8, y9, kvs, wl, rfl, hD7, hC7, ch, fw, key, all, s7, lt, eh, cl⟩
          refine ⟨_, lt, _, _, _, _, _, kvs, wl, rfl, hD7, hC7, ⟨ch.rg, fun x b e nx y f ad => ?_, ch.few⟩, by omega, key, all, s7, rfl⟩
          by_cases ex : x = p
          · subst ex
            rw [eh] at e
            cases e
            obtain ⟨c, hc, rfl, jc⟩ := ad
            obtain ⟨k, hk⟩ := List.getElem?_of_mem hc
            have kl : k < cs.length := (List.getElem?_eq_some_iff.mp hk).1
            have lcs : cs.length = ts.length := by rw [← hcs]; exact betw_len ll
            exact cl k c y (by omega) hk jc
          · exact ch.cl x b e (fun h => h.elim nx ex) y f ad
      · have hwl : come = [] := by
          cases come with
          | nil => rfl
          | cons z zs => exact absurd rfl hb
        subst hwl
        exact ⟨_, _, _, _, _, _, _, kvs, rfl, hD5, ch4.mono (fun _ h => by simp at h), all4, s5⟩
    · rintro σ' H1 ⟨y3, y4, y5, y6, y7, y8, y9, kvs, rfl, hD, ch, all, s1⟩
      obtain ⟨tl, cons⟩ := ch.told okc all
      refine ⟨.ref wa, rfl, wa, _, 0, .int n, rfl, rfl, SqT.of (s1 _ _ hwa), rfl, n, rfl, by omega, by omega, fun Z nZ => ?_⟩
      rw [Int.toNat_natCast]
      have hD2 := same_new (o := .lst []) nZ _ _ hD
      refine lc_range (lo := 0) (n := n) (fun j H' => H' Z = some (.lst ((onesTo ((rng n).map (chS kvs)) j).map V.int)) ∧ H' D = some (.dK kvs) ∧ Same H1 H') ⟨upd_same, hD2, same_new nZ⟩ ?_ ?_
      · rintro j H2 hj ⟨hZ, hD3, s2⟩
        rw [show (0 : Int) + (j : Nat) = j from by omega]
        have lo := onesTo_len ((rng n).map (chS kvs)) j
        obtain ⟨b, eb⟩ : ∃ b, valV kvs (Sum.inl (j : Int) : Key) = some (.bl b) := by
          cases e : valV kvs (Sum.inl (j : Int) : Key) with
          | none => exact absurd e (all j (by omega) (by omega))
          | some v =>
            obtain ⟨_, b, m, rfl, _⟩ := ch.rg _ v e
            exact ⟨b, rfl⟩
        have gj : DGet H2 D (.int j) (some (.bl b)) := by
          rw [← eb]
          exact DGet.k (k := Sum.inl (j : Int)) hD3
        refine ⟨rfl, .ref D, rfl, .int j, rfl, D, .bl b, rfl, gj, b, rfl, ?_⟩
        have sdj : sd ((rng n).map (chS kvs)) (j : Int) = chS kvs j := by
          unfold sd rng
          rw [List.getD_eq_getElem?_getD, List.map_map, List.getElem?_map, List.getElem?_range (by omega)]
          rfl
        have st : onesTo ((rng n).map (chS kvs)) (j + 1) = onesTo ((rng n).map (chS kvs)) j ++ (if b = true then [(j : Int)] else []) := by
          rw [onesTo_succ, sdj]
          unfold chS
          rw [eb]
          cases b
          · rw [if_neg (by simp)]; rfl
          · rw [if_pos rfl]; rfl
        rw [st, List.map_append]
        have nZD : Z ≠ D := fun z => by rw [z, hD] at nZ; cases nZ
        cases b with
        | true => exact ⟨.int j, rfl, _, hZ, by rw [List.length_map]; exact small1000 (by omega), upd_same, by rw [upd_ne (Ne.symm nZD)]; exact hD3, Same.mut s2 nZ⟩
        | false =>
          simp only [Bool.false_eq_true, if_false, List.map_nil, List.append_nil]
          exact ⟨hZ, hD3, s2⟩
      · rintro H2 ⟨hZ, _, s2⟩
        refine ⟨Z, _, rfl, .inl ⟨SqL.of hZ, fun r nr => ?_⟩⟩
        exact q _ r _ tl cons ((s1.trans s2).trans (same_new nr)) upd_same
end
/-! ### k26: right, law -/
theorem rpk_least {n : Nat} {ts : List Tie} (ok : ∀ t ∈ ts, TieOk n t) {L : Nat} (h : ∀ p : Nat, p < n → ∀ k, RPk ts p k p true → L ≤ k) (x : Int) (k : Nat) (r : RPk ts x k x true) : L ≤ k := by
  rcases rpk_in ok r with ⟨_, _, e⟩ | ⟨hx, _⟩
  · cases e
  · have e : ((x.toNat : Nat) : Int) = x := by omega
    rw [← e] at r
    exact h x.toNat (by omega) k r
theorem way_few {n : Nat} {ts : List Tie} (ok : ∀ t ∈ ts, TieOk n t) {s : Nat} (hs : s < n) {e : Int} {qs ns : List Int} (way : Way (dN ts) e (2 * (s : Int)) qs ns) : ns.length ≤ 2 * n := by
  have h := pigeon (2 * n) qs way.nodup fun x hx => by
    obtain ⟨i, hi⟩ := List.getElem?_of_mem hx
    cases i with
    | zero =>
      rw [way.head] at hi
      obtain rfl := Option.some.inj hi
      omega
    | succ i =>
      have hil := (List.getElem?_eq_some_iff.mp hi).1
      have lq := way.len
      obtain ⟨x', y, m, h1, h2, h3, h4⟩ := way.each i (by omega)
      rw [hi] at h2
      obtain rfl := Option.some.inj h2
      have := dN_in ok h4
      omega
  have lq := way.len
  omega
theorem passNever {X : Cx} (σ : L2.St) : PassesAt (L2.CX X.prog X.w) X σ (fun _ _ _ => False) := fun _ _ _ e s' I c => by
  obtain ⟨a, B, H', cls, d, _, _, _, _, _, _, _, h⟩ := c
  exact h.elim
theorem betw_self (ts : List Tie) : ∀ t ∈ betw ts ts, t.foe = false := fun t ht => by
  obtain ⟨p, hp, rfl⟩ := List.mem_map.mp ht
  obtain ⟨i, hi⟩ := List.getElem?_of_mem hp
  obtain ⟨h1, h2⟩ := List.getElem?_zip_eq_some.mp hi
  have e : p.1 = p.2 := Option.some.inj (h1.symm.trans h2)
  show (p.1.foe ^^ p.2.foe) = false
  rw [e, Bool.xor_self]
theorem rp_friends {ts : List Tie} (h : ∀ t ∈ ts, t.foe = false) {a b : Int} {p : Bool} (r : RP ts a b p) : p = false := by
  induction r with
  | nil => rfl
  | step _ ad ih =>
    obtain ⟨t, ht, rfl, _⟩ := ad
    rw [ih, h t ht]
    rfl
theorem told_self {n : Nat} {ts : List Tie} {H : Hp} {r : Addr} (h : ToldT n (betw ts ts) H r) : ∃ e, H r = some (.tup [.str "turned", .ref e]) ∧ H e = some (.tup []) := by
  have fr := betw_self ts
  rcases h with ⟨ss, e, told, _, h1, h2⟩ | ⟨rg, odd, _, _⟩
  · refine ⟨e, h1, ?_⟩
    have e0 : onesTo ss ss.length = [] := by
      unfold onesTo
      rw [List.filter_eq_nil_iff]
      intro i hi
      have hi := mem_rng.mp hi
      obtain ⟨m, _, rp⟩ := told.each i hi.1 (by have := told.len; omega)
      have := rp_friends fr rp
      unfold one? at this
      rw [this]
      exact Bool.false_ne_true
    rw [e0] at h2
    exact h2
  · obtain ⟨x, _, rp⟩ := odd
    have := rp_friends fr rp
    cases this
theorem foe_two {ts us : List Tie} (ll : us.length = ts.length) : ∀ {ms : List Int}, (∀ m ∈ ms, 0 ≤ m ∧ m < ((betw ts us).length : Int)) → ((foeN ts ms + foeN us ms : Nat) : Int) % 2 = foeS (betw ts us) ms % 2
  | [], _ => rfl
  | m :: ms, h => by
    have ih := foe_two ll (ms := ms) fun x hx => h x (List.mem_cons_of_mem _ hx)
    obtain ⟨m0, m1⟩ := h m (by simp)
    rw [betw_len ll] at m1
    have et := List.getElem?_eq_getElem (show m.toNat < ts.length by omega)
    have eu := List.getElem?_eq_getElem (show m.toNat < us.length by omega)
    have ec := betw_get et eu
    have a1 : tieAt ts m = ts[m.toNat] := by unfold tieAt; rw [List.getD_eq_getElem?_getD, et]; rfl
    have a2 : tieAt us m = us[m.toNat] := by unfold tieAt; rw [List.getD_eq_getElem?_getD, eu]; rfl
    have s1 : foeN ts (m :: ms) = (if (tieAt ts m).foe = true then 1 else 0) + foeN ts ms := by
      unfold foeN
      rw [List.filter_cons]
      split
      · rw [List.length_cons]; omega
      · omega
    have s2 : foeN us (m :: ms) = (if (tieAt us m).foe = true then 1 else 0) + foeN us ms := by
      unfold foeN
      rw [List.filter_cons]
      split
      · rw [List.length_cons]; omega
      · omega
    have s3 : foeS (betw ts us) (m :: ms) = bI ((tieAt ts m).foe ^^ (tieAt us m).foe) + foeS (betw ts us) ms := by
      show bI (tieN (betw ts us) m.toNat).foe + _ = _
      rw [tieN_of ec, a1, a2]
      rfl
    rw [s1, s2, s3]
    cases (tieAt ts m).foe <;> cases (tieAt us m).foe <;> simp [bI] <;> omega
theorem ring_short {n : Nat} {cs : List Tie} (ok : WebOk n cs) {H : Hp} {rg : Addr} (h : ShortR n cs H rg) : ∃ (a b : Addr) (rs ms : List Int), H rg = some (.tup [.ref a, .ref b]) ∧ NoD H a (rs.map V.int) ∧ NoD H b (ms.map V.int) ∧ RingO cs rs ms := by
  obtain ⟨W, L, s, qs, ns, a, b, wks, hs, ho, hl, way, exa, en, h1, h2, h3⟩ := h
  refine ⟨a, b, _, _, h1, h2, h3, ring_of ok.ok way (fun x k rr => ?_) (by have := way_few ok.ok hs way; have := ok.hi; omega) (by omega)⟩
  rw [en]
  refine rpk_least ok.ok (fun p hp k r => ?_) x k rr
  cases e : odL (W p) p with
  | none => exact absurd r ((odL_none (wks p hp)).mp e k)
  | some L' =>
    have := ((odL_some (wks p hp)).mp e).2 k r
    have := hl p L' hp e
    omega
theorem told_bin {n : Nat} {cs : List Tie} {ss : List Int} (ok : ∀ t ∈ cs, TieOk n t) (h : Told cs n ss) (c : Cons ss cs) : ¬ Odd cs n := cons_no_odd h.bin (by rw [h.len]; exact ok) c
def spRight26 (Ps : List Addr) : Sp := fun vs H Q _ => ∃ (v u : V) (n : Nat) (ts us : List Tie), vs = [v, u] ∧ WebAt H v n ts ∧ WebAt H u n us ∧ WebOk n ts ∧ us.length = ts.length ∧ framedI ts us = true ∧ Tabs Ps H ∧ ∀ H', Kt Ps H H' → Q (.bl true) H'
def spLaw (K : PySem.W.Frag) (Ps : List Addr) : Sp := fun vs H Q _ => ∃ (a : Addr) (ns : List Int), vs = [.ref a] ∧ SqL K H a (ns.map V.int) ∧ ns.length ≤ 63 ∧ Tabs Ps H ∧ ∀ H', Q (.bl true) H'
theorem framed_both {n : Int} {ts us : List Tie} (ll : us.length = ts.length) (h : framedI ts us = true) : framedB n ts n us = true := by
  unfold framedB
  rw [decide_eq_true rfl, decide_eq_true ll.symm, h]
  rfl
theorem lk_pair {H : Hp} {a b e f : Addr} {z : Str} {xs : List Int} (h1 : H a = some (.tup [.str z, .ref e])) (h2 : H e = some (.tup (xs.map V.int))) (g1 : H b = some (.tup [.str z, .ref f])) (g2 : H f = some (.tup (xs.map V.int))) (few : xs.length ≤ 900) : Lk H 3 (.ref a) (.ref b) := by
  refine .inr (.inr ⟨a, b, _, _, rfl, rfl, h1, g1, rfl, by show 2 ≤ 900; decide, fun i x y e1 e2 => ?_⟩)
  match i with
  | 0 => simp at e1 e2; subst e1 e2; exact Lk.str
  | 1 =>
    simp at e1 e2
    subst e1 e2
    refine .inr (.inr ⟨e, f, _, _, rfl, rfl, h2, g2, rfl, by rw [List.length_map]; exact few, fun i x y e1 e2 => ?_⟩)
    rw [e1] at e2
    cases e2
    rw [List.getElem?_map] at e1
    obtain ⟨q, _, rfl⟩ := Option.map_eq_some_iff.mp e1
    exact Lk.int
  | i + 2 => simp at e1
section
variable {P : Program} {w : World} {K : PySem.W.Frag} {mg : Str → Option Value} {base : Heap}
theorem ok_l_right {f : Addr} {fd : FuncData} {Ps : List Addr} {D : Addr} (F : Fun K "_law_right" "_law_right" s_l_right f fd) (M : Free mg) (D_l_choice : Df P w K mg base 1 "_law_choice" ["_law_one", "_law_other_here"] spChoice) (D_told_turning : DfX P w K mg base 5 "told_turning" ["one", "other"] (spToldT Ps D)) (D_l_same : Df P w K mg base 4 "_law_same" ["_law_found", "_law_due"] (spSame 4)) (D_l_foes : Df P w K mg base 1 "_law_foes" ["_law_web_here", "_law_ring"] spFoes26) (D_l_is_ring : Df P w K mg base 2 "_law_is_ring" ["_law_web_here", "_law_thing"] spIsRing26) : FnOk P w K mg base CX0 6 f fd ["_law_one", "_law_other_here"] (spRight26 Ps) := by
  obtain ⟨f_l_choice, fd_l_choice, G_l_choice, g_l_choice, k_l_choice, b_l_choice⟩ := D_l_choice
  obtain ⟨f_told_turning, fd_told_turning, G_told_turning, g_told_turning, k_told_turning, b_told_turning⟩ := D_told_turning
  obtain ⟨f_l_same, fd_l_same, G_l_same, g_l_same, k_l_same, b_l_same⟩ := D_l_same
  obtain ⟨f_l_foes, fd_l_foes, G_l_foes, g_l_foes, k_l_foes, b_l_foes⟩ := D_l_foes
  obtain ⟨f_l_is_ring, fd_l_is_ring, G_l_is_ring, g_l_is_ring, k_l_is_ring, b_l_is_ring⟩ := D_l_is_ring
  refine F.ok sc_l_right (fun vs H Q E h => ?_) (fun cdv A outer s H vs Q E hr h => ?_)
  · obtain ⟨v, u, n, ts, us, rfl, _⟩ := h
    rfl
  · obtain ⟨v, u, n, ts, us, rfl, hW, hU, ok, ll, fr, hT, q⟩ := h
    refine ⟨_, (pss_cons (ps_set (i := 2) sc_l_right.nd rfl (.inl rfl) (pe_call G_l_choice (hr.mono (by decide)) (by rfl) g_l_choice k_l_choice b_l_choice .nil pass0 (pa_cons (pv 0) (pa_cons (pv 1) pa_nil))))
      (pss_cons (ps_set (i := 3) sc_l_right.nd rfl (.inl rfl) (pe_callS G_told_turning (hr.mono (by decide)) (by rfl) g_told_turning k_told_turning b_told_turning (fun σ => passNever σ) (pa_cons (pv 0) (pa_cons (pv 1) pa_nil))))
      (pss_cons (ps_if (pt_cmpR op_notN (pv 2) pe_non (nomark _))
        (pss_one (ps_ret (pe_call G_l_same (hr.mono (by decide)) (by rfl) g_l_same k_l_same b_l_same .nil pass0 (pa_cons (pv 3) (pa_cons (pe_tup (pa_cons pe_str (pa_cons (pv 2) pa_nil))) pa_nil)))))
        pss_nil)
      (pss_cons (ps_if (PW.pt (pw_or (pt_not (pt_val (pe_callB call_isi (by rfl) M.isinstance (by decide +kernel) (pa_cons (pv 3) (pa_cons (pe_bltn (v := .ty "tuple") (by rfl) M.tuple (by decide +kernel) rfl) pa_nil))))) (pw_or (pt_cmpR op_ne (pe_callB call_len_seq (by rfl) M.len PySem.boot_len (pa_cons (pv 3) pa_nil)) pe_int (nomark _)) (pw_or (pt_not (pt_val (pe_callB call_isi (by rfl) M.isinstance (by decide +kernel) (pa_cons (pe_ix ix_tup (pv 3) pe_int (fun _ _ => rfl)) (pa_cons (pe_bltn (v := .ty "str") (by rfl) M.str (by decide +kernel) rfl) pa_nil))))) (pw_or1 (pt_cmpR op_ne (pe_ix ix_tup (pv 3) pe_int (fun _ _ => rfl)) pe_str (nomark _)))))))
        (pss_one (ps_ret pe_bl))
        pss_nil)
      (pss_one (ps_ret (pe_and (pe_call G_l_is_ring (hr.mono (by decide)) (by rfl) g_l_is_ring k_l_is_ring b_l_is_ring .nil pass0 (pa_cons (pv 0) (pa_cons (pe_ix ix_tup (pv 3) pe_int (fun _ _ => rfl)) pa_nil))) (pe_one (pe_cmpR op_eq (pe_op op_mod (pe_op op_add (pe_call G_l_foes (hr.mono (by decide)) (by rfl) g_l_foes k_l_foes b_l_foes .nil pass0 (pa_cons (pv 0) (pa_cons (pe_ix ix_tup (pv 3) pe_int (fun _ _ => rfl)) pa_nil))) (pe_call G_l_foes (hr.mono (by decide)) (by rfl) g_l_foes k_l_foes b_l_foes .nil pass0 (pa_cons (pv 1) (pa_cons (pe_ix ix_tup (pv 3) pe_int (fun _ _ => rfl)) pa_nil)))) pe_int) pe_int (nomark _)))))))))), ?_⟩
    have fb := framed_both (n := n) ll fr
    have okc := betw_webOk ok ll
    refine ⟨v, rfl, u, rfl, v, u, n, ts, us, rfl, hW, hU, ll, ok, fun ss r H1 tl cons s1 hr1 => ?_, fun H1 odd s1 => ?_⟩
    · have hT1 := hT.same s1
      refine ⟨v, rfl, u, rfl, v, u, n, n, ts, us, rfl, hW.tk (Same.tk s1), hU.tk (Same.tk s1), .inl ok, hT1, fun _ f H2 _ k2 told => ?_, fun z _ _ => by rw [fb] at z; cases z⟩
      rw [Int.toNat_natCast] at told
      have hr2 := k2.tup hT1 hr1
      refine ⟨.ref r, rfl, rfl, _, rfl, ite2 (fun _ => ?_) (fun z => absurd rfl z)⟩
      refine ⟨.ref f, rfl, .ref r, rfl, by show 2 ≤ sizeLine; decide, fun z nz => ?_⟩
      have e3 := same_new (o := .tup [.str "turned", .ref r]) nz
      rcases told with ⟨ss', e, tl', cons', h1, h2⟩ | ⟨rg, odd, _, _⟩
      · have es := told_unique okc.ok tl tl' cons
        subst es
        rw [tl.len] at h2
        have lo := onesTo_len ss n
        have := ok.hi
        refine ⟨.ref f, .ref z, rfl, lk_pair (e3 _ _ h1) (e3 _ _ h2) upd_same (e3 _ _ hr2) (by omega), fun H3 s3 => ?_⟩
        exact q _ ((Kt.same hT s1).trans (k2.trans (Kt.same k2.tab (e3.trans s3))))
      · exact absurd odd (told_bin okc.ok tl cons)
    · have hT1 := hT.same s1
      refine ⟨v, rfl, u, rfl, v, u, n, n, ts, us, rfl, hW.tk (Same.tk s1), hU.tk (Same.tk s1), .inl ok, hT1, fun _ f H2 _ k2 told => ?_, fun z _ _ => by rw [fb] at z; cases z⟩
      rw [Int.toNat_natCast] at told
      refine ⟨.non, rfl, rfl, _, rfl, ite2 (fun z => absurd z (by decide)) (fun _ => ?_)⟩
      rcases told with ⟨ss', e, tl', cons', h1, h2⟩ | ⟨rg, _, h1, short⟩
      · exact absurd odd (told_bin okc.ok tl' cons')
      · obtain ⟨a, b, rs, ms, g1, g2, g3, ro⟩ := ring_short okc short
        obtain ⟨t1, i1, j1⟩ := kn_tup (K := K) (H := H2) (v := .ref f) (.inr (.inl ⟨_, h1⟩))
        rw [isT_of h1] at j1
        obtain ⟨t2, i2, j2⟩ := kn_str (K := K) (H := H2) (v := .str "ring") trivial
        have k02 : Kt Ps H H2 := (Kt.same hT s1).trans k2
        have hW2 := hW.tk (k02.tk hT)
        have hU2 := hU.tk (k02.tk hT)
        refine ⟨.ref f, rfl, .ref f, _, t1, _, _, rfl, .ty "tuple", i1, j1, _, rfl, ?_⟩
        refine ⟨.ref f, rfl, f, _, rfl, .inr (SqT.of h1), rfl, _, rfl, ?_⟩
        refine ⟨.ref f, rfl, f, _, 0, .str "ring", rfl, rfl, SqT.of h1, rfl, .str "ring", _, t2, _, _, rfl, .ty "str", i2, j2, _, rfl, ?_⟩
        refine ⟨.ref f, rfl, f, _, 0, .str "ring", rfl, rfl, SqT.of h1, rfl, rfl, _, rfl, ?_⟩
        refine ite2 (fun z => absurd z (by decide)) (fun _ => ?_)
        refine ⟨v, rfl, .ref f, rfl, f, _, 1, .ref rg, rfl, rfl, SqT.of h1, rfl, v, rg, a, b, n, ts, betw ts us, rs, ms, rfl, hW2, ok, g1, g2, g3, ro, betw_len ll, fun i c t ec et => ?_, fun H3 s3 => ⟨_, rfl, ?_⟩⟩
        · have il := (List.getElem?_eq_some_iff.mp et).1
          have ec' := betw_get et (List.getElem?_eq_getElem (show i < us.length by omega))
          rw [ec] at ec'
          cases ec'
          exact ⟨rfl, rfl⟩
        · have few := ro.few
          have mp := ro.mp
          rw [betw_len ll] at mp
          have h13 := s3 _ _ h1
          refine ⟨v, rfl, .ref f, rfl, f, _, 1, .ref rg, rfl, rfl, SqT.of h13, rfl, v, n, ts, rg, a, b, ms, rfl, hW2.tk (Same.tk s3), s3 _ _ g1, g3.same s3, mp, by omega, fun H4 s4 => ?_⟩
          have s34 := s3.trans s4
          refine ⟨u, rfl, .ref f, rfl, f, _, 1, .ref rg, rfl, rfl, SqT.of (s4 _ _ h13), rfl, u, n, us, rg, a, b, ms, rfl, hU2.tk (Same.tk s34), s34 _ _ g1, g3.same s34, fun m hm => by rw [ll]; exact mp m hm, by omega, fun H5 s5 => ?_⟩
          refine ⟨_, _, rfl, rfl, _, 2, rfl, rfl, (show (0 : Int) < 2 by decide), rfl, ?_⟩
          have par := foe_two ll (ms := ms) ro.mp
          rw [ro.odd] at par
          have fin : decide (V.int ((((foeN ts ms : Nat) : Int) + ((foeN us ms : Nat) : Int)) % 2) = V.int 1) = true := decide_eq_true (by
            rw [show (((foeN ts ms : Nat) : Int) + ((foeN us ms : Nat) : Int)) % 2 = 1 from by push_cast at par; exact par])
          have done : Q (.bl true) H5 := q _ (k02.trans (Kt.same k2.tab (s34.trans s5)))
          rw [← fin] at done
          exact done
theorem ok_law {f : Addr} {fd : FuncData} {Ps : List Addr} {D : Addr} (F : Fun K "law" "law" s_law f fd) (M : Free mg) (D_l_well : Df P w K mg base 1 "_law_well" ["_law_script", "_law_k"] (spWell K)) (D_l_web : Df P w K mg base 2 "_law_web" ["_law_well_here"] spWeb) (D_l_places : Df P w K mg base 2 "_law_places" ["_law_well_here", "_law_many"] spPlaces) (D_l_other : Df P w K mg base 2 "_law_other" ["_law_well_here", "_law_web_here", "_law_some"] spOther26) (D_l_draw : Df P w K mg base 1 "_law_draw" ["_law_well_here", "_law_most"] spDraw) (D_l_with_other_kinds : Df P w K mg base 2 "_law_with_other_kinds" ["_law_well_here", "_law_web_here"] spWith26) (D_l_right : Df P w K mg base 6 "_law_right" ["_law_one", "_law_other_here"] (spRight26 Ps)) (D_told_turning : DfX P w K mg base 5 "told_turning" ["one", "other"] (spToldT Ps D)) (D_l_same : Df P w K mg base 4 "_law_same" ["_law_found", "_law_due"] (spSame 4)) : FnOk P w K mg base CX0 7 f fd ["_law_script"] (spLaw K Ps) := by
  obtain ⟨f_l_well, fd_l_well, G_l_well, g_l_well, k_l_well, b_l_well⟩ := D_l_well
  obtain ⟨f_l_web, fd_l_web, G_l_web, g_l_web, k_l_web, b_l_web⟩ := D_l_web
  obtain ⟨f_l_places, fd_l_places, G_l_places, g_l_places, k_l_places, b_l_places⟩ := D_l_places
  obtain ⟨f_l_other, fd_l_other, G_l_other, g_l_other, k_l_other, b_l_other⟩ := D_l_other
  obtain ⟨f_l_draw, fd_l_draw, G_l_draw, g_l_draw, k_l_draw, b_l_draw⟩ := D_l_draw
  obtain ⟨f_l_with_other_kinds, fd_l_with_other_kinds, G_l_with_other_kinds, g_l_with_other_kinds, k_l_with_other_kinds, b_l_with_other_kinds⟩ := D_l_with_other_kinds
  obtain ⟨f_l_right, fd_l_right, G_l_right, g_l_right, k_l_right, b_l_right⟩ := D_l_right
  obtain ⟨f_told_turning, fd_told_turning, G_told_turning, g_told_turning, k_told_turning, b_told_turning⟩ := D_told_turning
  obtain ⟨f_l_same, fd_l_same, G_l_same, g_l_same, k_l_same, b_l_same⟩ := D_l_same
  refine F.ok sc_law (fun vs H Q E h => ?_) (fun cdv A outer s H vs Q E hr h => ?_)
  · obtain ⟨sc, ns, rfl, _⟩ := h
    rfl
  · obtain ⟨sc, ns, rfl, hS, few63, hT, q⟩ := h
    refine ⟨_, (pss_cons (ps_for PassesOwn.never rfl (pi_range1 (by rfl) M.range (pa_cons pe_int pa_nil)) (pg_name (i := 1) sc_law.nd rfl (.inl rfl))
        (pss_cons (ps_set (i := 2) sc_law.nd rfl (.inl rfl) (pe_call G_l_well (hr.mono (by decide)) (by rfl) g_l_well k_l_well b_l_well .nil pass0 (pa_cons (pv 0) (pa_cons (pv 1) pa_nil))))
        (pss_cons (ps_set (i := 3) sc_law.nd rfl (.inl rfl) (pe_call G_l_web (hr.mono (by decide)) (by rfl) g_l_web k_l_web b_l_web .nil pass0 (pa_cons (pv 2) pa_nil)))
        (pss_cons (ps_for PassesOwn.never rfl (pi_range1 (by rfl) M.range (pa_cons pe_int pa_nil)) (pg_name (i := 4) sc_law.nd rfl (.inl rfl))
          (pss_cons (ps_set (i := 5) sc_law.nd rfl (.inl rfl) (pe_call G_l_other (hr.mono (by decide)) (by rfl) g_l_other k_l_other b_l_other .nil pass0 (pa_cons (pv 2) (pa_cons (pv 3) (pa_cons (pe_call G_l_places (hr.mono (by decide)) (by rfl) g_l_places k_l_places b_l_places .nil pass0 (pa_cons (pv 2) (pa_cons (pe_ix ix_tup (pv 3) pe_int (fun _ _ => rfl)) pa_nil))) pa_nil)))))
          (Evl.pss_cut (ps_if (pt_cmpR op_eq (pe_call G_l_draw (hr.mono (by decide)) (by rfl) g_l_draw k_l_draw b_l_draw .nil pass0 (pa_cons (pv 2) (pa_cons pe_int pa_nil))) pe_int (nomark _))
            (pss_one (ps_set (i := 5) sc_law.nd rfl (.inl rfl) (pe_call G_l_with_other_kinds (hr.mono (by decide)) (by rfl) g_l_with_other_kinds k_l_with_other_kinds b_l_with_other_kinds .nil pass0 (pa_cons (pv 2) (pa_cons (pv 5) pa_nil)))))
            pss_nil)
          (pss_one (ps_if (PW.pt (pw_or (pt_not (pt_val (pe_call G_l_right (hr.mono (by decide)) (by rfl) g_l_right k_l_right b_l_right .nil pass0 (pa_cons (pv 3) (pa_cons (pv 5) pa_nil))))) (pw_or1 (pt_not (pt_val (pe_call G_l_right (hr.mono (by decide)) (by rfl) g_l_right k_l_right b_l_right .nil pass0 (pa_cons (pv 5) (pa_cons (pv 3) pa_nil))))))))
            (pss_one (ps_ret pe_bl))
            pss_nil)))))
        (pss_one (ps_if (pt_not (pt_val (pe_call G_l_same (hr.mono (by decide)) (by rfl) g_l_same k_l_same b_l_same .nil pass0 (pa_cons (pe_callS G_told_turning (hr.mono (by decide)) (by rfl) g_told_turning k_told_turning b_told_turning (fun σ => passNever σ) (pa_cons (pv 3) (pa_cons (pv 3) pa_nil))) (pa_cons (pe_tup (pa_cons pe_str (pa_cons (pe_tup pa_nil) pa_nil))) pa_nil)))))
          (pss_one (ps_ret pe_bl))
          pss_nil))))))
      (pss_one (ps_ret pe_bl))), ?_⟩
    refine ⟨2, rfl, by decide, by decide, ?_⟩
    refine for_range (lo := 0) (n := 2) (fun i σ' H' => ∃ y1 y2 y3 y4 y5 : Option V, σ' = [some (.ref sc), y1, y2, y3, y4, y5] ∧ SqL K H' sc (ns.map V.int) ∧ Tabs Ps H') ⟨none, none, none, none, none, rfl, hS, hT⟩ ?_ (fun σ' H' h => by
      obtain ⟨_, _, _, _, _, rfl, _⟩ := h
      exact q _)
    rintro i σ' H1 hi ⟨y1, y2, y3, y4, y5, rfl, hS1, hT1⟩
    rw [show (0 : Int) + (i : Nat) = i from by omega]
    refine ⟨.ref sc, rfl, .int i, rfl, sc, ns, i, rfl, hS1, by omega, fun d H2 s2 nd D2 => ?_⟩
    have hS2 := Scr.mk' hS1 nd s2
    have hT2 := hT1.same s2
    refine ⟨.ref d, rfl, d, 3, rfl, D2, by decide, fun wv nI ts H3 hW ok D3 K3 => ?_⟩
    obtain ⟨n, rfl⟩ : ∃ n : Nat, nI = n := ⟨nI.toNat, by have := ok.lo; omega⟩
    have hS3 := hS2.kp K3
    have hT3 := hT2.kp K3 D2
    clear hS2 hT2 hS1 hT1 K3 D2 s2 nd
    have n1 := ok.lo
    have n2 := ok.hi
    have few := ok.few
    refine ⟨4, rfl, by decide, by decide, ?_⟩
    refine for_range (lo := 0) (n := 4) (fun j σ' H' => ∃ y4 y5 : Option V, σ' = [some (.ref sc), some (.int i), some (.ref d), some wv, y4, y5] ∧ Scr K H' sc d (ns.map V.int) ∧ Tabs Ps H' ∧ WebAt H' wv n ts ∧ Well H' d (1003 + 300 * j)) ⟨_, _, rfl, hS3, hT3, hW, D3⟩ ?_ ?_
    · clear hS3 hT3 hW D3
      rintro j σ' H4 hj ⟨y4, y5, rfl, hS4, hT4, hW4, D4⟩
      obtain ⟨wa, wb, rfl, hwa⟩ : ∃ wa wb, wv = .ref wa ∧ H4 wa = some (.tup [.int n, .ref wb]) := by
        obtain ⟨a, b, us, e, h, _⟩ := id hW4
        exact ⟨a, b, e, h⟩
      refine ⟨.ref d, rfl, .ref wa, rfl, .ref d, rfl, .ref wa, rfl, wa, _, 0, .int n, rfl, rfl, SqT.of hwa, rfl, d, _, n, rfl, D4, by omega, n1, n2, fun p ps H5 hP pw rg l40 D5 K5 => ?_⟩
      have hW5 := hW4.tk (K5.tk D4)
      refine ⟨d, _, .ref wa, p, n, ts, ps, rfl, D5, by omega, hW5, few, hP, rising_nodup pw, fun ov us H6 hO lu fr D6 K6 => ?_⟩
      have hT6 := (hT4.kp K5 D4).kp K6 D5
      have hW6 := hW5.tk (K6.tk D5)
      have hS6 := (hS4.kp K5).kp K6
      refine ⟨fun σ' H' => ∃ (ov : V) (us : List Tie), σ' = [some (.ref sc), some (.int i), some (.ref d), some (.ref wa), some (.int (0 + (j : Nat))), some ov] ∧ Scr K H' sc d (ns.map V.int) ∧ Tabs Ps H' ∧ WebAt H' (.ref wa) n ts ∧ Well H' d (1003 + 300 * j + 240) ∧ WebAt H' ov n us ∧ us.length = ts.length ∧ framedI ts us = true, ?_, ?_⟩
      · refine ⟨.ref d, rfl, d, _, 2, rfl, D6, by omega, by decide, by decide, fun y H7 a7 b7 D7 K7 => ⟨rfl, _, rfl, ite2 (fun _ => ?_) (fun _ => ?_)⟩⟩
        · refine ⟨.ref d, rfl, ov, rfl, d, _, ov, n, us, rfl, D7, by omega, hO.tk (K7.tk D6), by omega, fun xv xs H8 hX se D8 K8 => ?_⟩
          exact ⟨xv, xs, rfl, (hS6.kp K7).kp K8, (hT6.kp K7 D6).kp K8 D7, hW6.tk ((K7.tk D6).trans (K8.tk D7)), D8.mono (by omega), hX, by have := se.1; omega, framed_ends fr se⟩
        · exact ⟨ov, us, rfl, hS6.kp K7, hT6.kp K7 D6, hW6.tk (K7.tk D6), D7.mono (by omega), hO.tk (K7.tk D6), lu, fr⟩
      clear hS6 hT6 hW6 hO lu fr D6 K6 hW5 hP pw rg l40 D5 K5 hwa hS4 hT4 hW4 D4
      rintro σ' H7 ⟨ov, us, rfl, hS7, hT7, hW7, D7, hO7, lu, fr⟩
      have fb := framed_both (n := n) lu fr
      have fb2 : framedB n us n ts = true := by rw [framedB_comm]; exact fb
      have oku := (framed_ok fb (.inl ok)).2
      refine ⟨.ref wa, rfl, ov, rfl, .ref wa, ov, n, ts, us, rfl, hW7, hO7, ok, lu, fr, hT7, fun H8 k8 => ⟨true, rfl, ?_⟩⟩
      refine ⟨ov, rfl, .ref wa, rfl, ov, .ref wa, n, us, ts, rfl, hO7.tk (k8.tk hT7), hW7.tk (k8.tk hT7), oku, lu.symm, (framed_len fb2).2.2, k8.tab, fun H9 k9 => ⟨true, rfl, ?_⟩⟩
      have k79 := k8.trans k9
      exact ⟨_, _, rfl, hS7.kt hT7 k79, k79.tab, hW7.tk (k79.tk hT7), (k79.well hT7 D7).mono (by omega)⟩
    · clear hS3 hT3 hW D3
      rintro σ' H4 ⟨y4, y5, rfl, hS4, hT4, hW4, D4⟩
      refine ⟨wv, rfl, wv, rfl, wv, wv, n, n, ts, ts, rfl, hW4, hW4, .inl ok, hT4, fun _ r H5 _ k5 told => ?_, fun z _ _ => by rw [framedB_self] at z; cases z⟩
      obtain ⟨e, hr, he⟩ := told_self told
      refine ⟨by show 0 ≤ sizeLine; decide, fun p np => ⟨by show 2 ≤ sizeLine; decide, fun p' np' => ?_⟩⟩
      have f1 := same_new (o := .tup []) np
      have f2 := same_new (o := .tup [.str "turned", .ref p]) np'
      have f12 := f1.trans f2
      refine ⟨.ref r, .ref p', rfl, lk_pair (xs := []) (f12 _ _ hr) (f12 _ _ he) upd_same (f2 _ _ upd_same) (by decide), fun H6 s6 => ⟨true, rfl, ?_⟩⟩
      have k46 := k5.trans (Kt.same k5.tab (f12.trans s6))
      exact ⟨_, _, _, _, _, rfl, (hS4.kt hT4 k46).sq, k46.tab⟩
end
/-! ### the end of a law whose defs hold generator expressions: their tables are empty behind the top -/
theorem walk_tabs {l : PySem.W.OpenLaw} {n k : Nat} {q : Program} {loose : List Str} {XP : (Str → Option Value) → Heap → Prop} {YP : World → Heap → Prop} {d : DefRec} {K : Params → PySem.W.Frag} {x : Str}
    (hn : l.most = some n) (hn2 : n ≤ sizeLine) (hdf : d.params.defaults = []) (hr : Room k callerA) (hY : ∀ (w : World) (h : Heap), YP w h → (K w.params).In h)
    (F : ∀ (w : World) (mg : Str → Option Value) (fa : Addr) (h : Heap), (K w.params).In h → h.Ns mainGlobals mg → mg d.name = some (.ref fa) →
      (∀ (y : Str) (fy : Addr), ((recsOf q).any fun e => e.name == y) = true → mg y = some (.ref fy) → LamX.OwnTab (K w.params) fy h) → LamX.LawAtS l w (K w.params) CX0 k n x mg fa h) :
    PySem.W.WalkO q loose XP YP l.row.toRowW d [] (fun f vs => PySem.call f vs) := by
  refine Att.attach_callB hn hdf fun w s₀ s₁ mg mb fa o pm cd doc a vs ns G Y ho hd hcd hmg hobj hints hlen hbits hg => ?_
  have KX := hY w _ Y
  have tabs : ∀ (y : Str) (fy : Addr), ((recsOf q).any fun e => e.name == y) = true → mg y = some (.ref fy) → LamX.OwnTab (K w.params) fy s₁.heap := fun y fy hy hm c P o1 fd1 e dd vs1 sl k1 k2 k3 k4 k5 => by
    obtain ⟨dL, hmem, hnm⟩ := List.any_eq_true.mp hy
    have hnm : dL.name = y := beq_iff_eq.mp hnm
    obtain ⟨a', o', fd', c', P', h1, h2, h3, h4, h5, h6⟩ := G.T.tab dL hmem
    rw [hnm, hm] at h1
    cases h1
    rw [KX _ _ k1] at h2
    cases h2
    rw [k2] at h3
    cases h3
    rw [k3] at h4
    cases h4
    obtain ⟨⟨oc, vc, e1, _, e3, e4⟩, hP⟩ := h6
    rw [KX _ _ k4] at e1
    cases e1
    cases e3
    rw [k5] at e4
    cases e4
    exact hP
  obtain ⟨fd, cs, sp, hT, nT, C, hb, hsp, hF⟩ := F w mg fa _ KX G.T.g hmg tabs
  exact LamX.law_callTs KX G.T.g G.T.b G.T.builtins G.T.nolimit hg hT nT C G.T.bmain hobj hints (Nat.le_trans hlen hn2) hr hF hb (fun H hH hS => hsp H a ns hlen hbits hH hS) fun H e s' z => z
/-- where a def stands, and where its code object does -/
structure At (K : PySem.W.Frag) (x : Str) (st : Stmt) (f : Addr) : Prop where
  ns : PySem.W.nsIn K mainGlobals x = some (some (.ref f))
  ex : ∃ (oc : Value) (od : Option Addr) (kV doc pm : Value) (an : Option Addr) (cdv ct : Value) (osl : Array (Option Value)),
    K.lookup f = some ⟨oc, od, .func (PySem.W.fnOf x x (defArgs st) (defBody st) (defScope st) .none kV doc pm an cdv ct), osl⟩ ∧ PySem.W.codeIn K cdv x = true
  kp : PySem.W.keepIn K (.ref f) = true
theorem at_mk {K : PySem.W.Frag} {x : Str} {st : Stmt} {f : Addr} {oc : Value} {od an : Option Addr} {osl : Array (Option Value)} {kV doc pm cdv ct : Value} (a : PySem.W.nsIn K mainGlobals x = some (some (.ref f)))
    (l : K.lookup f = some ⟨oc, od, .func (PySem.W.fnOf x x (defArgs st) (defBody st) (defScope st) .none kV doc pm an cdv ct), osl⟩) (c : PySem.W.codeIn K cdv x = true) (k : PySem.W.keepIn K (.ref f) = true) : At K x st f := ⟨a, ⟨oc, od, kV, doc, pm, an, cdv, ct, osl, l, c⟩, k⟩
theorem At.fn {K : PySem.W.Frag} {x : Str} {st : Stmt} {f : Addr} (h : At K x st f) : ∃ fd, Fun K x x st f fd := by
  obtain ⟨oc, od, kV, doc, pm, an, cdv, ct, osl, l, c⟩ := h.ex
  exact ⟨_, fun_mk l c h.kp⟩
structure AtC (K : PySem.W.Frag) (x : Str) (st : Stmt) (f c Pt : Addr) : Prop where
  ns : PySem.W.nsIn K mainGlobals x = some (some (.ref f))
  ex : ∃ (oc : Value) (od : Option Addr) (kV doc pm : Value) (an : Option Addr) (ct : Value) (osl : Array (Option Value)),
    K.lookup f = some ⟨oc, od, .func (PySem.W.fnOf x x (defArgs st) (defBody st) (defScope st) .none kV doc pm an (.ref c) ct), osl⟩ ∧ PySem.W.codeIn K (.ref c) x = true
  kp : PySem.W.keepIn K (.ref f) = true
  co : ∃ (dd : Option Addr) (vs : Array Value) (sl : Array (Option Value)) (file : Str) (tf : Tok) (flags : Int) (tg : Tok) (inF : Bool) (text : Int) (tt : Tok), K.lookup c = some ⟨.type "code", dd, .fields vs, sl⟩ ∧ vs[11]? = some (.ref Pt) ∧ vs.getD 11 .none = .ref Pt ∧ vs.getD 18 .none = .str file tf ∧
    vs.getD 7 .none = .int flags tg ∧ vs.getD 9 .none = .bool inF ∧ vs.getD 10 .none = .int text tt ∧ c ≠ Pt
  nP : K.lookup Pt = none
theorem atC_mk {K : PySem.W.Frag} {x : Str} {st : Stmt} {f c Pt : Addr} {oc : Value} {od an dd : Option Addr} {osl sl : Array (Option Value)} {kV doc pm ct : Value} {vs : Array Value} {file : Str} {tf tg tt : Tok} {flags text : Int} {inF : Bool} (a : PySem.W.nsIn K mainGlobals x = some (some (.ref f)))
    (l : K.lookup f = some ⟨oc, od, .func (PySem.W.fnOf x x (defArgs st) (defBody st) (defScope st) .none kV doc pm an (.ref c) ct), osl⟩) (cc : PySem.W.codeIn K (.ref c) x = true) (k : PySem.W.keepIn K (.ref f) = true)
    (lc : K.lookup c = some ⟨.type "code", dd, .fields vs, sl⟩) (v11 : vs[11]? = some (.ref Pt)) (w11 : vs.getD 11 .none = .ref Pt) (v18 : vs.getD 18 .none = .str file tf) (v7 : vs.getD 7 .none = .int flags tg) (v9 : vs.getD 9 .none = .bool inF) (v10 : vs.getD 10 .none = .int text tt) (ne : c ≠ Pt)
    (nP : K.lookup Pt = none) : AtC K x st f c Pt := ⟨a, ⟨oc, od, kV, doc, pm, an, ct, osl, l, cc⟩, k, ⟨dd, vs, sl, file, tf, flags, tg, inF, text, tt, lc, v11, w11, v18, v7, v9, v10, ne⟩, nP⟩
theorem AtC.fn {K : PySem.W.Frag} {x : Str} {st : Stmt} {f c Pt : Addr} (h : AtC K x st f c Pt) : ∃ fd, FunC K x x st f fd c := by
  obtain ⟨oc, od, kV, doc, pm, an, ct, osl, l, cc⟩ := h.ex
  exact ⟨_, ⟨oc, od, kV, doc, pm, an, ct, osl, rfl, l, cc⟩, h.kp⟩
theorem AtC.hd {K : PySem.W.Frag} {h : Heap} {x : Str} {st : Stmt} {f c Pt : Addr} (a : AtC K x st f c Pt) (X : K.In h) : PySem.W.CodeHd h c Pt := by
  obtain ⟨dd, vs, sl, file, tf, flags, tg, inF, text, tt, lc, v11, w11, v18, v7, v9, v10, ne⟩ := a.co
  exact ⟨_, vs, file, tf, flags, tg, inF, text, tt, X _ _ lc, rfl, rfl, v11, w11, v18, v7, v9, v10, ne⟩
theorem AtC.tab {K : PySem.W.Frag} {h : Heap} {x : Str} {st : Stmt} {f c Pt : Addr} (a : AtC K x st f c Pt) (o : LamX.OwnTab K f h) : h.get? Pt = some { cls := .none, data := .fields #[] } := by
  obtain ⟨oc, od, kV, doc, pm, an, ct, osl, l, cc⟩ := a.ex
  obtain ⟨dd, vs, sl, file, tf, flags, tg, inF, text, tt, lc, v11, w11, v18, v7, v9, v10, ne⟩ := a.co
  exact o c Pt _ _ _ _ _ _ l rfl rfl lc v11
section
variable {P : Program} {w : World} {K : PySem.W.Frag} {mg : Str → Option Value} {base : Heap}
theorem Df.of {x : Str} {st : Stmt} {f : Addr} {fd : FuncData} {k : Nat} {ps : List Str} {sp : Sp} (g : mg x = some (.ref f)) (F : Fun K x x st f fd) (G : FnOk P w K mg base CX0 k f fd ps sp)
    (h : ∀ (kV doc pm : Value) (an : Option Addr) (cdv ct : Value) (us : List Value), us.length = ps.length → bindArgs (PySem.W.fnOf x x (defArgs st) (defBody st) (defScope st) .none kV doc pm an cdv ct) ⟨us, []⟩ = pure (ps.zip us)) : Df P w K mg base k x ps sp :=
  ⟨f, fd, G, g, F.kp, F.binds h⟩
end
/-! ### what the top has written -/
section
variable {P : Program} {w : World} {K : PySem.W.Frag} {mg : Str → Option Value} {base : Heap}
set_option maxHeartbeats 0 in
theorem law_at {l : PySem.W.OpenLaw} {w : World} {K : PySem.W.Frag} {h : Heap} {mg : Str → Option Value} {fa f0 f1 f2 f3 f4 f5 f6 f7 f8 f9 f10 f11 f12 f13 f14 f15 f16 f17 f18 f19 f20 f21 f22 f23 f24 f25 f26 f27 f28 f29 f30 f31 c14 P14 eW e_NoFrame : Addr} (X : K.In h) (G : h.Ns mainGlobals mg) (hfa : mg "law" = some (.ref fa))
    (t14 : ∀ (fy : Addr), mg "are_framed" = some (.ref fy) → LamX.OwnTab K fy h)
    (a0 : At K "joins" s_joins f0)
    (a1 : At K "ties_around" s_ties_around f1)
    (a2 : At K "walk_from" s_walk_from f2)
    (a3 : At K "way_to" s_way_to f3)
    (a4 : At K "doubled" s_doubled f4)
    (a5 : At K "halved" s_halved f5)
    (a6 : At K "row_of" s_row_of f6)
    (a7 : At K "shortest_odd" s_shortest_odd f7)
    (a8 : At K "neighbours" s_neighbours f8)
    (a9 : At K "sides_from" s_sides_from f9)
    (a10 : At K "breaks" s_breaks f10)
    (a11 : At K "broken_by" s_broken_by f11)
    (a12 : At K "sides_of" s_sides_of f12)
    (a13 : At K "places_turned" s_places_turned f13)
    (a14 : AtC K "are_framed" s_are_framed f14 c14 P14)
    (a15 : At K "kinds_of" s_kinds_of f15)
    (a16 : At K "web_between" s_web_between f16)
    (a17 : At K "told_turning" s_told_turning f17)
    (a18 : At K "_law_well" s_l_well f18)
    (a19 : At K "_law_draw" s_l_draw f19)
    (a20 : At K "_law_web" s_l_web f20)
    (a21 : At K "_law_places" s_l_places f21)
    (a22 : At K "_law_about" s_l_about f22)
    (a23 : At K "_law_same" s_l_same f23)
    (a24 : At K "_law_are_numbers" s_l_are_numbers f24)
    (a25 : At K "_law_is_ring" s_l_is_ring f25)
    (a26 : At K "_law_foes" s_l_foes f26)
    (a27 : At K "_law_other" s_l_other f27)
    (a28 : At K "_law_with_other_kinds" s_l_with_other_kinds f28)
    (a29 : At K "_law_choice" s_l_choice f29)
    (a30 : At K "_law_right" s_l_right f30)
    (a31 : At K "law" s_law f31)
    (z0 : PySem.W.nsIn K mainGlobals "len" = some none)
    (z1 : PySem.W.nsIn K mainGlobals "int" = some none)
    (z2 : PySem.W.nsIn K mainGlobals "bool" = some none)
    (z3 : PySem.W.nsIn K mainGlobals "str" = some none)
    (z4 : PySem.W.nsIn K mainGlobals "list" = some none)
    (z5 : PySem.W.nsIn K mainGlobals "tuple" = some none)
    (z6 : PySem.W.nsIn K mainGlobals "range" = some none)
    (z7 : PySem.W.nsIn K mainGlobals "isinstance" = some none)
    (z8 : PySem.W.nsIn K mainGlobals "sum" = some none)
    (z9 : PySem.W.nsIn K mainGlobals "all" = some none)
    (z10 : PySem.W.nsIn K mainGlobals "enumerate" = some none)
    (z11 : PySem.W.nsIn K mainGlobals "min" = some none)
    (z12 : PySem.W.nsIn K mainGlobals "zip" = some none)
    (e0 : ErrK K "NoFrame" e_NoFrame eW)
    (k0_0 : KitK K e_NoFrame "NoFrame" e_NoFrame true)
    (v0 : PySem.W.kitOne K (.ref e_NoFrame) (.type "ValueError") = some true) :
    LamX.LawAtS l w K CX0 7 63 "_law_script" mg fa h := by
  have efa := hfa.symm.trans (PySem.W.mg_of X G a31.ns)
  cases efa
  have M : Free mg := ⟨PySem.W.mg_none_of X G z0, PySem.W.mg_none_of X G z1, PySem.W.mg_none_of X G z2, PySem.W.mg_none_of X G z3, PySem.W.mg_none_of X G z4, PySem.W.mg_none_of X G z5, PySem.W.mg_none_of X G z6, PySem.W.mg_none_of X G z7, PySem.W.mg_none_of X G z8⟩
  have m_all := PySem.W.mg_none_of X G z9
  have m_enumerate := PySem.W.mg_none_of X G z10
  have m_min := PySem.W.mg_none_of X G z11
  have m_zip := PySem.W.mg_none_of X G z12
  obtain ⟨d0, F0⟩ := a0.fn
  obtain ⟨d1, F1⟩ := a1.fn
  obtain ⟨d2, F2⟩ := a2.fn
  obtain ⟨d3, F3⟩ := a3.fn
  obtain ⟨d4, F4⟩ := a4.fn
  obtain ⟨d5, F5⟩ := a5.fn
  obtain ⟨d6, F6⟩ := a6.fn
  obtain ⟨d7, F7⟩ := a7.fn
  obtain ⟨d8, F8⟩ := a8.fn
  obtain ⟨d9, F9⟩ := a9.fn
  obtain ⟨d10, F10⟩ := a10.fn
  obtain ⟨d11, F11⟩ := a11.fn
  obtain ⟨d12, F12⟩ := a12.fn
  obtain ⟨d13, F13⟩ := a13.fn
  obtain ⟨d14, F14⟩ := a14.fn
  obtain ⟨d15, F15⟩ := a15.fn
  obtain ⟨d16, F16⟩ := a16.fn
  obtain ⟨d17, F17⟩ := a17.fn
  obtain ⟨d18, F18⟩ := a18.fn
  obtain ⟨d19, F19⟩ := a19.fn
  obtain ⟨d20, F20⟩ := a20.fn
  obtain ⟨d21, F21⟩ := a21.fn
  obtain ⟨d22, F22⟩ := a22.fn
  obtain ⟨d23, F23⟩ := a23.fn
  obtain ⟨d24, F24⟩ := a24.fn
  obtain ⟨d25, F25⟩ := a25.fn
  obtain ⟨d26, F26⟩ := a26.fn
  obtain ⟨d27, F27⟩ := a27.fn
  obtain ⟨d28, F28⟩ := a28.fn
  obtain ⟨d29, F29⟩ := a29.fn
  obtain ⟨d30, F30⟩ := a30.fn
  obtain ⟨d31, F31⟩ := a31.fn
  have g0 := PySem.W.mg_of X G a0.ns
  have g1 := PySem.W.mg_of X G a1.ns
  have g2 := PySem.W.mg_of X G a2.ns
  have g3 := PySem.W.mg_of X G a3.ns
  have g4 := PySem.W.mg_of X G a4.ns
  have g5 := PySem.W.mg_of X G a5.ns
  have g6 := PySem.W.mg_of X G a6.ns
  have g7 := PySem.W.mg_of X G a7.ns
  have g8 := PySem.W.mg_of X G a8.ns
  have g9 := PySem.W.mg_of X G a9.ns
  have g10 := PySem.W.mg_of X G a10.ns
  have g11 := PySem.W.mg_of X G a11.ns
  have g12 := PySem.W.mg_of X G a12.ns
  have g13 := PySem.W.mg_of X G a13.ns
  have g14 := PySem.W.mg_of X G a14.ns
  have g15 := PySem.W.mg_of X G a15.ns
  have g16 := PySem.W.mg_of X G a16.ns
  have g17 := PySem.W.mg_of X G a17.ns
  have g18 := PySem.W.mg_of X G a18.ns
  have g19 := PySem.W.mg_of X G a19.ns
  have g20 := PySem.W.mg_of X G a20.ns
  have g21 := PySem.W.mg_of X G a21.ns
  have g22 := PySem.W.mg_of X G a22.ns
  have g23 := PySem.W.mg_of X G a23.ns
  have g24 := PySem.W.mg_of X G a24.ns
  have g25 := PySem.W.mg_of X G a25.ns
  have g26 := PySem.W.mg_of X G a26.ns
  have g27 := PySem.W.mg_of X G a27.ns
  have g28 := PySem.W.mg_of X G a28.ns
  have g29 := PySem.W.mg_of X G a29.ns
  have g30 := PySem.W.mg_of X G a30.ns
  have hb0 : ∀ (s : Shared) (u : Value), BindsTo s d31 ⟨[u], []⟩ [("_law_script", u)] := by
    obtain ⟨oc, od, kV, doc, pm, an, cdv, ct, osl, rfl, _⟩ := F31.ex
    exact fun s u => .of_eq rfl
  refine ⟨d31, [(c14, P14)], (spLaw K [P14]), (List.forall_mem_cons.mpr ⟨a14.tab (t14 _ g14), (fun p hp => by simp at hp)⟩), (List.forall_mem_cons.mpr ⟨a14.nP, (fun p hp => by simp at hp)⟩), (List.forall_mem_cons.mpr ⟨a14.hd X, (fun p hp => by simp at hp)⟩), hb0, fun H a ns hl _ hT hS => ⟨a, ns, rfl, hS, hl, (List.forall_mem_cons.mpr ⟨⟨#[], hT (c14, P14) (by simp), by trivial⟩, (fun p hp => by simp at hp)⟩), fun _ => rfl⟩, fun base KB GB TB => ?_⟩
  have tb14 := TB (c14, P14) (by simp)
  have D0 : Df l.prog w K mg base 1 "joins" ["tie", "one", "other"] spJoins := .of g0 F0 (ok_joins F0 ) fun _ _ _ _ _ _ us hl => match us, hl with | [_, _, _], _ => rfl
  have D1 : Df l.prog w K mg base 1 "ties_around" ["web", "numbers"] spAround := .of g1 F1 (ok_ties_around F1 ) fun _ _ _ _ _ _ us hl => match us, hl with | [_, _], _ => rfl
  have D2 : Df l.prog w K mg base 1 "walk_from" ["start", "around"] spWalkFrom := .of g2 F2 (ok_walk_from F2 ) fun _ _ _ _ _ _ us hl => match us, hl with | [_, _], _ => rfl
  have D3 : Df l.prog w K mg base 1 "way_to" ["end", "walk"] spWayTo := .of g3 F3 (ok_way_to F3 M) fun _ _ _ _ _ _ us hl => match us, hl with | [_, _], _ => rfl
  have D4 : Df l.prog w K mg base 1 "doubled" ["web"] spDoubled := .of g4 F4 (ok_doubled F4 M) fun _ _ _ _ _ _ us hl => match us, hl with | [_], _ => rfl
  have D5 : Df l.prog w K mg base 1 "halved" ["way"] spHalved := .of g5 F5 (ok_halved F5 M) fun _ _ _ _ _ _ us hl => match us, hl with | [_], _ => rfl
  have D6 : Df l.prog w K mg base 1 "row_of" ["many", "walk", "far"] spRowOf := .of g6 F6 (ok_row_of F6 M) fun _ _ _ _ _ _ us hl => match us, hl with | [_, _, _], _ => rfl
  have D7 : Df l.prog w K mg base 2 "shortest_odd" ["web"] spShort := .of g7 F7 (ok_shortest_odd F7 M m_enumerate m_min D4 D1 D2 D3 D5 D6) fun _ _ _ _ _ _ us hl => match us, hl with | [_], _ => rfl
  have D8 : Df l.prog w K mg base 1 "neighbours" ["web"] spNeighbours := .of g8 F8 (ok_neighbours F8 M) fun _ _ _ _ _ _ us hl => match us, hl with | [_], _ => rfl
  have D9 : Df l.prog w K mg base 1 "sides_from" ["start", "around"] spSidesFrom := .of g9 F9 (ok_sides_from F9 M) fun _ _ _ _ _ _ us hl => match us, hl with | [_, _], _ => rfl
  have D10 : Df l.prog w K mg base 1 "breaks" ["sides", "tie"] spBreaks := .of g10 F10 (ok_breaks F10 ) fun _ _ _ _ _ _ us hl => match us, hl with | [_, _], _ => rfl
  have D11 : Df l.prog w K mg base 2 "broken_by" ["web", "sides"] spBroken := .of g11 F11 (ok_broken_by F11 M m_enumerate D10) fun _ _ _ _ _ _ us hl => match us, hl with | [_, _], _ => rfl
  have D12 : Df l.prog w K mg base 3 "sides_of" ["web"] spFixed := .of g12 F12 (ok_sides_of F12 M D8 D9 D11) fun _ _ _ _ _ _ us hl => match us, hl with | [_], _ => rfl
  have D13 : Df l.prog w K mg base 1 "places_turned" ["sides"] spOnes := .of g13 F13 (ok_places_turned F13 M m_enumerate) fun _ _ _ _ _ _ us hl => match us, hl with | [_], _ => rfl
  have D14 : Df l.prog w K mg base 3 "are_framed" ["one", "other"] (spFramed [P14]) := .of g14 F14.fn (ok_are_framed F14 ⟨tb14.code, tb14.bm, tb14.gP⟩ (show P14 ∈ [P14] by simp) M m_all m_zip D0) fun _ _ _ _ _ _ us hl => match us, hl with | [_, _], _ => rfl
  have D15 : Df l.prog w K mg base 1 "kinds_of" ["web"] spKinds := .of g15 F15 (ok_kinds_of F15 ) fun _ _ _ _ _ _ us hl => match us, hl with | [_], _ => rfl
  have D16 : DfX l.prog w K mg base 4 "web_between" ["one", "other"] (spBetw [P14] e_NoFrame) := .of g16 F16 (ok_web_between F16 M m_zip (e0.ref X G) D14 D15) fun _ _ _ _ _ _ us hl => match us, hl with | [_, _], _ => rfl
  have D17 : DfX l.prog w K mg base 5 "told_turning" ["one", "other"] (spToldT [P14] e_NoFrame) := .of g17 F17 (ok_told_turning (e0.ref X G) F17 D16 D12 D7 D13) fun _ _ _ _ _ _ us hl => match us, hl with | [_, _], _ => rfl
  have D18 : Df l.prog w K mg base 1 "_law_well" ["_law_script", "_law_k"] (spWell K) := .of g18 F18 (ok_l_well F18 M) fun _ _ _ _ _ _ us hl => match us, hl with | [_, _], _ => rfl
  have D19 : Df l.prog w K mg base 1 "_law_draw" ["_law_well_here", "_law_most"] spDraw := .of g19 F19 (ok_l_draw F19 ) fun _ _ _ _ _ _ us hl => match us, hl with | [_, _], _ => rfl
  have D20 : Df l.prog w K mg base 2 "_law_web" ["_law_well_here"] spWeb := .of g20 F20 (ok_l_web F20 M D19) fun _ _ _ _ _ _ us hl => match us, hl with | [_], _ => rfl
  have D21 : Df l.prog w K mg base 2 "_law_places" ["_law_well_here", "_law_many"] spPlaces := .of g21 F21 (ok_l_places F21 M D19) fun _ _ _ _ _ _ us hl => match us, hl with | [_, _], _ => rfl
  have D22 : Df l.prog w K mg base 1 "_law_about" ["_law_web_here", "_law_places_here"] spAbout := .of g22 F22 (ok_l_about F22 M) fun _ _ _ _ _ _ us hl => match us, hl with | [_, _], _ => rfl
  have D23 : Df l.prog w K mg base 4 "_law_same" ["_law_found", "_law_due"] (spSame 4) := .of g23 F23 (ok_l_same F23 M m_all m_zip g23 (F23.binds fun _ _ _ _ _ _ us hl => match us, hl with | [_, _], _ => rfl) 4) fun _ _ _ _ _ _ us hl => match us, hl with | [_, _], _ => rfl
  have D24 : Df l.prog w K mg base 1 "_law_are_numbers" ["_law_thing", "_law_many"] spNumbers26 := .of g24 F24 (ok_l_are_numbers F24 M) fun _ _ _ _ _ _ us hl => match us, hl with | [_, _], _ => rfl
  have D25 : Df l.prog w K mg base 2 "_law_is_ring" ["_law_web_here", "_law_thing"] spIsRing26 := .of g25 F25 (ok_l_is_ring F25 M D24) fun _ _ _ _ _ _ us hl => match us, hl with | [_, _], _ => rfl
  have D26 : Df l.prog w K mg base 1 "_law_foes" ["_law_web_here", "_law_ring"] spFoes26 := .of g26 F26 (ok_l_foes F26 M) fun _ _ _ _ _ _ us hl => match us, hl with | [_, _], _ => rfl
  have D27 : Df l.prog w K mg base 2 "_law_other" ["_law_well_here", "_law_web_here", "_law_some"] spOther26 := .of g27 F27 (ok_l_other F27 M D22 D19) fun _ _ _ _ _ _ us hl => match us, hl with | [_, _, _], _ => rfl
  have D28 : Df l.prog w K mg base 2 "_law_with_other_kinds" ["_law_well_here", "_law_web_here"] spWith26 := .of g28 F28 (ok_l_with_other_kinds F28 M D19) fun _ _ _ _ _ _ us hl => match us, hl with | [_, _], _ => rfl
  have D29 : Df l.prog w K mg base 1 "_law_choice" ["_law_one", "_law_other_here"] spChoice := .of g29 F29 (ok_l_choice F29 M m_zip) fun _ _ _ _ _ _ us hl => match us, hl with | [_, _], _ => rfl
  have D30 : Df l.prog w K mg base 6 "_law_right" ["_law_one", "_law_other_here"] (spRight26 [P14]) := .of g30 F30 (ok_l_right F30 M D29 D17 D23 D26 D25) fun _ _ _ _ _ _ us hl => match us, hl with | [_, _], _ => rfl
  exact ok_law F31 M D18 D20 D21 D27 D19 D28 D30 D17 D23
end
end FF
open PySem PySem.W PyProof.Rows
set_option maxRecDepth 100000 in
set_option maxHeartbeats 0 in
theorem PySem.Challenge.cw_friendfoe_k26_turned_or_parted_holds : PySem.Challenge.rw_friendfoe_k26_turned_or_parted.Holds := by
  w_on; o_law; k_head; (case hw => w_witness2)
  k_fill
  refine FF.walk_tabs (l := PySem.Challenge.rw_friendfoe_k26_turned_or_parted) (n := 63) (k := 7) (x := "_law_script") rfl (by decide) rfl ⟨rfl, by decide, by decide⟩ (fun w h Y => PySem.W.kIn_of Y) ?F
  case F =>
    intro w mg fa h KX G hmg tabs
    refine' FF.law_at KX G hmg (fun fy => tabs "are_framed" fy ?r14) ?a0 ?a1 ?a2 ?a3 ?a4 ?a5 ?a6 ?a7 ?a8 ?a9 ?a10 ?a11 ?a12 ?a13 ?a14 ?a15 ?a16 ?a17 ?a18 ?a19 ?a20 ?a21 ?a22 ?a23 ?a24 ?a25 ?a26 ?a27 ?a28 ?a29 ?a30 ?a31 ?z0 ?z1 ?z2 ?z3 ?z4 ?z5 ?z6 ?z7 ?z8 ?z9 ?z10 ?z11 ?z12 ?e0 ?k0_0 ?v0
    (case r14 => rfl)
    (case a0 => refine' FF.at_mk ?p1 ?p2 ?p3 ?p4; (case p1 => k_is); (case p2 => k_is); (case p3 => k_is); (case p4 => k_is))
    (case a1 => refine' FF.at_mk ?p1 ?p2 ?p3 ?p4; (case p1 => k_is); (case p2 => k_is); (case p3 => k_is); (case p4 => k_is))
    (case a2 => refine' FF.at_mk ?p1 ?p2 ?p3 ?p4; (case p1 => k_is); (case p2 => k_is); (case p3 => k_is); (case p4 => k_is))
    (case a3 => refine' FF.at_mk ?p1 ?p2 ?p3 ?p4; (case p1 => k_is); (case p2 => k_is); (case p3 => k_is); (case p4 => k_is))
    (case a4 => refine' FF.at_mk ?p1 ?p2 ?p3 ?p4; (case p1 => k_is); (case p2 => k_is); (case p3 => k_is); (case p4 => k_is))
    (case a5 => refine' FF.at_mk ?p1 ?p2 ?p3 ?p4; (case p1 => k_is); (case p2 => k_is); (case p3 => k_is); (case p4 => k_is))
    (case a6 => refine' FF.at_mk ?p1 ?p2 ?p3 ?p4; (case p1 => k_is); (case p2 => k_is); (case p3 => k_is); (case p4 => k_is))
    (case a7 => refine' FF.at_mk ?p1 ?p2 ?p3 ?p4; (case p1 => k_is); (case p2 => k_is); (case p3 => k_is); (case p4 => k_is))
    (case a8 => refine' FF.at_mk ?p1 ?p2 ?p3 ?p4; (case p1 => k_is); (case p2 => k_is); (case p3 => k_is); (case p4 => k_is))
    (case a9 => refine' FF.at_mk ?p1 ?p2 ?p3 ?p4; (case p1 => k_is); (case p2 => k_is); (case p3 => k_is); (case p4 => k_is))
    (case a10 => refine' FF.at_mk ?p1 ?p2 ?p3 ?p4; (case p1 => k_is); (case p2 => k_is); (case p3 => k_is); (case p4 => k_is))
    (case a11 => refine' FF.at_mk ?p1 ?p2 ?p3 ?p4; (case p1 => k_is); (case p2 => k_is); (case p3 => k_is); (case p4 => k_is))
    (case a12 => refine' FF.at_mk ?p1 ?p2 ?p3 ?p4; (case p1 => k_is); (case p2 => k_is); (case p3 => k_is); (case p4 => k_is))
    (case a13 => refine' FF.at_mk ?p1 ?p2 ?p3 ?p4; (case p1 => k_is); (case p2 => k_is); (case p3 => k_is); (case p4 => k_is))
    (case a14 => refine' FF.atC_mk ?p1 ?p2 ?p3 ?p4 ?p5 ?p6 ?p7 ?p8 ?p9 ?p10 ?p11 ?p12 ?p13; (case p1 => k_is); (case p2 => k_is); (case p3 => k_is); (case p4 => k_is); (case p5 => k_is); (case p6 => rfl); (case p7 => rfl); (case p8 => rfl); (case p9 => rfl); (case p10 => rfl); (case p11 => rfl); (case p12 => decide); (case p13 => rfl))
    (case a15 => refine' FF.at_mk ?p1 ?p2 ?p3 ?p4; (case p1 => k_is); (case p2 => k_is); (case p3 => k_is); (case p4 => k_is))
    (case a16 => refine' FF.at_mk ?p1 ?p2 ?p3 ?p4; (case p1 => k_is); (case p2 => k_is); (case p3 => k_is); (case p4 => k_is))
    (case a17 => refine' FF.at_mk ?p1 ?p2 ?p3 ?p4; (case p1 => k_is); (case p2 => k_is); (case p3 => k_is); (case p4 => k_is))
    (case a18 => refine' FF.at_mk ?p1 ?p2 ?p3 ?p4; (case p1 => k_is); (case p2 => k_is); (case p3 => k_is); (case p4 => k_is))
    (case a19 => refine' FF.at_mk ?p1 ?p2 ?p3 ?p4; (case p1 => k_is); (case p2 => k_is); (case p3 => k_is); (case p4 => k_is))
    (case a20 => refine' FF.at_mk ?p1 ?p2 ?p3 ?p4; (case p1 => k_is); (case p2 => k_is); (case p3 => k_is); (case p4 => k_is))
    (case a21 => refine' FF.at_mk ?p1 ?p2 ?p3 ?p4; (case p1 => k_is); (case p2 => k_is); (case p3 => k_is); (case p4 => k_is))
    (case a22 => refine' FF.at_mk ?p1 ?p2 ?p3 ?p4; (case p1 => k_is); (case p2 => k_is); (case p3 => k_is); (case p4 => k_is))
    (case a23 => refine' FF.at_mk ?p1 ?p2 ?p3 ?p4; (case p1 => k_is); (case p2 => k_is); (case p3 => k_is); (case p4 => k_is))
    (case a24 => refine' FF.at_mk ?p1 ?p2 ?p3 ?p4; (case p1 => k_is); (case p2 => k_is); (case p3 => k_is); (case p4 => k_is))
    (case a25 => refine' FF.at_mk ?p1 ?p2 ?p3 ?p4; (case p1 => k_is); (case p2 => k_is); (case p3 => k_is); (case p4 => k_is))
    (case a26 => refine' FF.at_mk ?p1 ?p2 ?p3 ?p4; (case p1 => k_is); (case p2 => k_is); (case p3 => k_is); (case p4 => k_is))
    (case a27 => refine' FF.at_mk ?p1 ?p2 ?p3 ?p4; (case p1 => k_is); (case p2 => k_is); (case p3 => k_is); (case p4 => k_is))
    (case a28 => refine' FF.at_mk ?p1 ?p2 ?p3 ?p4; (case p1 => k_is); (case p2 => k_is); (case p3 => k_is); (case p4 => k_is))
    (case a29 => refine' FF.at_mk ?p1 ?p2 ?p3 ?p4; (case p1 => k_is); (case p2 => k_is); (case p3 => k_is); (case p4 => k_is))
    (case a30 => refine' FF.at_mk ?p1 ?p2 ?p3 ?p4; (case p1 => k_is); (case p2 => k_is); (case p3 => k_is); (case p4 => k_is))
    (case a31 => refine' FF.at_mk ?p1 ?p2 ?p3 ?p4; (case p1 => k_is); (case p2 => k_is); (case p3 => k_is); (case p4 => k_is))
    (case z0 => k_is)
    (case z1 => k_is)
    (case z2 => k_is)
    (case z3 => k_is)
    (case z4 => k_is)
    (case z5 => k_is)
    (case z6 => k_is)
    (case z7 => k_is)
    (case z8 => k_is)
    (case z9 => k_is)
    (case z10 => k_is)
    (case z11 => k_is)
    (case z12 => k_is)
    (case e0 => refine' FF.errK_mk ?q1 ?q2 ?q3 ?q4 ?q5 ?q6 ?q7 ?q8 ?q9 ?q10 ?q11 ?q12 ?q13 ?q14 ?q15 ?q16 ?q17; (case q1 => first | k_is | rfl | kernel_rfl); (case q2 => first | k_is | rfl | kernel_rfl); (case q3 => first | k_is | rfl | kernel_rfl); (case q4 => first | k_is | rfl | kernel_rfl); (case q5 => first | k_is | rfl | kernel_rfl); (case q6 => first | k_is | rfl | kernel_rfl); (case q7 => first | k_is | rfl | kernel_rfl); (case q8 => first | k_is | rfl | kernel_rfl); (case q9 => first | k_is | rfl | kernel_rfl); (case q10 => first | k_is | rfl | kernel_rfl); (case q11 => first | k_is | rfl | kernel_rfl); (case q12 => first | k_is | rfl | kernel_rfl); (case q13 => first | k_is | rfl | kernel_rfl); (case q14 => first | k_is | rfl | kernel_rfl); (case q15 => first | k_is | rfl | kernel_rfl); (case q16 => first | k_is | rfl | kernel_rfl); (case q17 => first | k_is | rfl | kernel_rfl))
    (case k0_0 => refine' FF.kitK_mk ?q1 ?q2; (case q1 => k_is); (case q2 => first | k_is | rfl | kernel_rfl))
    (case v0 => first | k_is | rfl | kernel_rfl)
