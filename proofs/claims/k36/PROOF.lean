import PyProof.Rows.All
import Wide.All
import OpenK.AllK
import Wide.FinOn
import HandS.ForMost
import HandS.IsInst
import HandS.TupAny
import HandS.TupLe
import HandS.Wide
import HandS.Style
import HandS.SortInts
import HandS.Conv
import HandS.More
import HandS.EndTab
import HandS.EndOwn
import HandS.AnyAll
import HandS.GenOver
import HandS.Evl
import HandS.Walk
import HandS.NoneIn
import HandS.Zip
import HandS.DictComp
import HandS.SetFor
import KE.GoesEnum
import HandS.TupMul
import HandS.Strs
import KE.DataMinMax
import HandS.ForExc
import HandS.ExcIs
import PySem.Challenge.RW_friendfoe_k36_what_is_a_mend
set_option Elab.async false
set_option linter.all false
set_option maxRecDepth 100000
namespace FF
open PySem PySem.Spec PyProof.Rows L2
/-! ### heaps: what is kept -/
/-- all that is tracked, but at d and c, is as it was -/
def Kp (d c : Addr) (H H' : Hp) : Prop := ∀ b o, b ≠ d → b ≠ c → H b = some o → H' b = some o
theorem Kp.refl {d c : Addr} {H : Hp} : Kp d c H H := fun _ _ _ _ h => h
theorem Kp.trans {d c : Addr} {H H1 H2 : Hp} (a : Kp d c H H1) (b : Kp d c H1 H2) : Kp d c H H2 := fun x o h1 h2 h => b x o h1 h2 (a x o h1 h2 h)
theorem Kp.at_d {d c : Addr} {H : Hp} {o : HO} : Kp d c H (upd H d o) := fun b u h1 _ h => by rw [upd_ne h1]; exact h
theorem Kp.at_c {d c : Addr} {H : Hp} {o : HO} : Kp d c H (upd H c o) := fun b u _ h2 h => by rw [upd_ne h2]; exact h
theorem Kp.new {d c p : Addr} {H : Hp} {o : HO} (hp : H p = none) : Kp d c H (upd H p o) := fun b u _ _ h => by rw [upd_ne (ne_of_none h hp)]; exact h
theorem same_new {H : Hp} {p : Addr} {o : HO} (h : H p = none) : Same H (upd H p o) := fun b x e => by
  rw [upd_ne (ne_of_none e h)]
  exact e
theorem Same.kp {d c : Addr} {H H' : Hp} (s : Same H H') : Kp d c H H' := fun b o _ _ h => s b o h
/-! ### defs as they are called -/
def Df (P : Program) (w : World) (K : PySem.W.Frag) (mg : Str → Option Value) (base : Heap) (k : Nat) (x : Str) (ps : List Str) (sp : Sp) : Prop :=
  ∃ (f : Addr) (fd : FuncData), FnOk P w K mg base CX0 k f fd ps sp ∧ mg x = some (.ref f) ∧ PySem.W.keepIn K (.ref f) = true ∧ Binds K fd ps []
/-- built-in names that the module has not taken -/
structure Free (mg : Str → Option Value) : Prop where
  len : mg "len" = none
  int : mg "int" = none
  bool : mg "bool" = none
  str : mg "str" = none
  list : mg "list" = none
  tuple : mg "tuple" = none
  range : mg "range" = none
  isinstance : mg "isinstance" = none
  sum : mg "sum" = none
theorem mod_rng {a m : Int} (h : 0 < m) : 0 ≤ a % m ∧ a % m < m := ⟨Int.emod_nonneg a (by omega), Int.emod_lt_of_pos a h⟩
/-! ### the deck: a dict -/
def dkv (c : Addr) (n st : Int) : List (Key × V) := [(Sum.inr "cells", V.ref c), (Sum.inr "at", .int n), (Sum.inr "seed", .int st)]
structure Deck (H : Hp) (d c : Addr) : Prop where
  ex : ∃ (cells : List Int) (st n : Int), H d = some (.dK (dkv c n st)) ∧ H c = some (.lst (cells.map V.int)) ∧ cells.length ≤ 63 ∧ 0 ≤ n ∧ n ≤ cells.length ∧ 0 ≤ st ∧ st < 2147483647
theorem Deck.ne {H : Hp} {d c : Addr} (h : Deck H d c) : d ≠ c := by
  obtain ⟨cells, st, n, h1, h2, _⟩ := h
  exact ne_of h1 h2 (by intro z; cases z)
theorem Deck.same {H H' : Hp} {d c : Addr} (h : Deck H d c) (s : Same H H') : Deck H' d c := by
  obtain ⟨cells, st, n, h1, h2, h3⟩ := h
  exact ⟨cells, st, n, s _ _ h1, s _ _ h2, h3⟩
theorem dkv_at (c : Addr) (n st : Int) : valV (dkv c n st) (Sum.inr "at") = some (.int n) := rfl
theorem dkv_cells (c : Addr) (n st : Int) : valV (dkv c n st) (Sum.inr "cells") = some (.ref c) := rfl
theorem dkv_seed (c : Addr) (n st : Int) : valV (dkv c n st) (Sum.inr "seed") = some (.int st) := rfl
theorem dkv_putAt (c : Addr) (n st m : Int) : putK (dkv c n st) (Sum.inr "at") (.int m) = dkv c m st := rfl
theorem dkv_putSeed (c : Addr) (n st m : Int) : putK (dkv c n st) (Sum.inr "seed") (.int m) = dkv c n m := rfl
theorem dkv_new (c : Addr) (n st : Int) : mergeK [] (dkv c n st) = dkv c n st := rfl
/-- a draw below m: any number from 0 on, less than m -/
def spDraw : Sp := fun vs H Q _ => ∃ (d c : Addr) (m : Int), vs = [.ref d, .int m] ∧ Deck H d c ∧ 0 < m ∧ m.natAbs < 2 ^ 120 ∧
  ∀ v H', 0 ≤ v → v < m → Deck H' d c → Kp d c H H' → Q (.int v) H'
/-! ### a generator expression's own frame -/
/-- the context of a generator's turns: its frame cenv stands over the def's -/
abbrev gX (X : Cx) (s : Shared) (H : Hp) (A' : Around) (cenv : Env) (fp : List Addr) : Cx :=
  { X with A := A', s_0 := s, H_0 := H, env := cenv, outer := X.stack, stack := cenv :: X.stack, ex := fp, fn := fun _ => false, pn := [], xe := fun _ _ => False }
/-- what is asked of the expression's own scope -/
structure GnOk (scope : Scope) : Prop where
  co : scope.isCoroutine = false
  nocell : ∀ y ∈ scope.names, y.2 ≠ .cell
  dot : scope.names.lookup (".0" : Str) = some NameKind.local
section
variable {X : Cx} {pins : List (Addr × Obj)} {σ : L2.St} {H : Hp} {s : Shared}
theorem gen_start {scope : Scope} {own : List (Str × Nat)} {fp : List Addr} {A' : Around} {code : Value} {m0 : Str → Option Value} {h5 : Heap} {g5 : Array GenState} {t5 : Nat} {a : Addr} {go : Obj}
    (I : Inv X pins σ H s) (ok : BlkOk X.N X.env.scope scope own) (gk : GnOk scope) (hN : X.N.Nodup) (hfp : ∀ b ∈ fp, FpOk X pins H b ∧ b < s.heap.objs.size)
    (hA : A'.handled = none) (hF : A'.frames = some (genEnv scope (cloFrom X.env.cells scope.names []) s.heap.objs.size code builtinsNs X.env :: X.stack))
    (kp : ∀ b o, s.heap.get? b = some o → h5.get? b = some o) (hn : h5.Ns s.heap.objs.size m0) (hm0 : ∀ x, x ≠ (".0" : Str) → m0 x = none) (hdN : (".0" : Str) ∉ X.N) (hb5 : AllBare g5)
    (ha : s.heap.objs.size < a) (hgo : h5.get? a = some go) (hgd : ∀ v, go.data ≠ .cell v) :
    Inv (gX X s H A' (genEnv scope (cloFrom X.env.cells scope.names []) s.heap.objs.size code builtinsNs X.env) fp) [(a, go)] (wipe σ (own.map (·.2))) H { s with heap := h5, gens := g5, toks := t5 } := by
  have hfree : ∀ y ∈ scope.names, y.2 = .free → ∃ c, X.env.cells.lookup y.1 = some c := fun y hy e =>
    (ok.free y hy e).elim (fun k => I.ok.has _ (.inl k)) fun k => I.ok.has _ (.inr k)
  have cm : ∀ {y c}, (y, c) ∈ cloFrom X.env.cells scope.names [] → X.env.cells.lookup y = some c ∧ c < s.heap.objs.size := fun {y c} q => by
    rcases cloFrom_mem q with q | ⟨h1, e1⟩
    · cases q
    · obtain ⟨c1, hc1⟩ := hfree _ h1 rfl
      rw [hc1] at e1
      cases e1
      obtain ⟨w1, z1⟩ := I.cell _ _ hc1
      exact ⟨hc1, z1.lt⟩
  have cl : ∀ {y c}, (cloFrom X.env.cells scope.names []).lookup y = some c → X.env.cells.lookup y = some c ∧ c < s.heap.objs.size := fun {y c} e => cm (PySem.mem_of_lookup e)
  have look : ∀ {y}, scope.names.lookup y = some .free → ∃ c, (cloFrom X.env.cells scope.names []).lookup y = some c := fun {y} e =>
    mem_lookup (cloFrom_has (cells := X.env.cells) (acc := []) (PySem.mem_of_lookup e))
  generalize hce : genEnv scope (cloFrom X.env.cells scope.names []) s.heap.objs.size code builtinsNs X.env = ce at hF
  have cL : ce.locals = s.heap.objs.size := by rw [← hce]; rfl
  have cC : ce.cells = cloFrom X.env.cells scope.names [] := by rw [← hce]; rfl
  have cS : ce.scope = scope := by rw [← hce]; rfl
  have cF : ce.frame = some ce.locals := by rw [← hce]; rfl
  have okG : (gX X s H A' ce fp).Ok := by
    refine ⟨I.ok.mod, ?_, ?_, ?_, ?_, fun y z c e1 e2 => ?_, fun y hy => ?_, fun y c z e => ?_, fun _ => hA, hF, .inr ⟨rfl, cF⟩, fun b hb => ⟨?_, fun y c e z => ?_⟩, I.bs, Nat.le_trans I.ok.bsz I.sz, fun b o e hb => ?_, fun b hb z => ?_, I.stack, I.stkFree⟩
    · show ce.scope.kind = _
      rw [cS]
      exact ok.kind
    · show ce.globals = _
      rw [← hce]
      exact I.ok.glob
    · show ce.builtins = _
      rw [← hce]
      rfl
    · show s.heap.objs.size ≤ ce.locals
      rw [cL]
      exact Nat.le_refl _
    · have e1 : ce.cells.lookup y = some c := e1
      have e2 : ce.cells.lookup z = some c := e2
      rw [cC] at e1 e2
      exact I.ok.inj y z c (cl e1).1 (cl e2).1
    · show ∃ c, ce.cells.lookup y = some c
      rw [cC]
      have hy : scope.names.lookup y = some .cell ∨ scope.names.lookup y = some .free := by
        have hy' : ce.scope.names.lookup y = some .cell ∨ ce.scope.names.lookup y = some .free := hy
        rw [cS] at hy'
        exact hy'
      rcases hy with k | k
      · exact absurd rfl (gk.nocell _ (PySem.mem_of_lookup k))
      · exact look k
    · exact absurd (show false = true from z) Bool.false_ne_true
    · show b ≠ ce.locals
      rw [cL]
      exact Nat.ne_of_lt (hfp b hb).2
    · have e : ce.cells.lookup y = some c := e
      rw [cC] at e
      exact (hfp b hb).1.2.2.2.2.1 y c (cl e).1 z
    · rcases (hfp b hb).1.2.2.2.1 with q | q
      · exact I.ok.noex b o e q
      · exact absurd (Nat.lt_of_lt_of_le (Heap.lt_size e) (Nat.le_trans I.ok.bsz q)) (Nat.lt_irrefl _)
    · rcases List.mem_cons.mp (I.stkSub b z) with q | q
      · exact (hfp b hb).1.2.1 q
      · exact (hfp b hb).1.2.2.1 q
  refine ⟨okG, rfl, hb5, Un.kept kp, ⟨m0, ?_, fun i y av e1 e2 e3 => ?_⟩, fun y c e => ?_, ?_, fun y c e => ?_, fun p hp => ?_, I.hok.kept kp, by rw [wipe_length]; exact I.len⟩
  · show Heap.Ns _ ce.locals _
    rw [cL]
    exact hn
  · obtain ⟨e2, hne⟩ := wipe_some e2
    have e3 : Vis ce.scope y := e3
    rw [cS] at e3
    have hfr : scope.names.lookup y = some .free := by
      have no : ∀ k, scope.names.lookup y = some k → ¬ (k = .local ∨ k = .cell) := fun k hk hh => by
        rcases ok.own _ (PySem.mem_of_lookup hk) hh with q | q
        · obtain ⟨p, hp, hpy⟩ := List.mem_map.mp q
          have e4 := ok.ix p hp
          have hpy : p.1 = y := hpy
          rw [hpy] at e4
          exact hne (List.mem_map.mpr ⟨p, hp, nodup_ix hN e4 e1⟩)
        · exact q (List.mem_of_getElem? e1)
      rcases e3 with e3 | e3 | e3
      · exact absurd (.inl rfl) (no _ e3)
      · exact absurd (.inr rfl) (no _ e3)
      · exact e3
    obtain ⟨m, _, hl⟩ := I.loc
    have hvis : Vis X.env.scope y := (ok.free _ (PySem.mem_of_lookup hfr) rfl).elim (fun k => .inr (.inl k)) fun k => .inr (.inr k)
    obtain ⟨w1, r1, q1⟩ := hl i y av e1 e2 hvis
    obtain ⟨c, hc⟩ := look hfr
    refine ⟨w1, r1, .inr ⟨.inr (by show ce.scope.names.lookup y = _; rw [cS]; exact hfr), c, by show ce.cells.lookup y = _; rw [cC]; exact hc, ?_⟩⟩
    rcases q1 with ⟨k, _⟩ | ⟨_, c', e', z⟩
    · have k : X.env.scope.names.lookup y = some .local := k
      rcases ok.free _ (PySem.mem_of_lookup hfr) rfl with k' | k' <;> (have k' : X.env.scope.names.lookup y = _ := k'; rw [k'] at k; cases k)
    · rw [(cl hc).1] at e'
      cases e'
      exact z.keeps kp
  · have e : ce.cells.lookup y = some c := e
    rw [cC] at e
    obtain ⟨w1, z1⟩ := I.cell y c (cl e).1
    exact ⟨w1, z1.keeps kp⟩
  · show H ce.locals = none
    rw [cL]
    exact I.hok.fresh (Nat.le_refl _)
  · have e : ce.cells.lookup y = some c := e
    rw [cC] at e
    exact I.freeC y c (cl e).1
  · have hp : p = (a, go) := by simpa using hp
    subst hp
    refine ⟨hgo, I.hok.fresh (Nat.le_of_lt ha), ?_, fun z => ?_, hgd⟩
    · show a ≠ ce.locals
      rw [cL]
      exact Nat.ne_of_gt ha
    · have z : a ∈ frs X.stack := z
      obtain ⟨_, o, ho, _⟩ := I.stack.mem z
      exact absurd (Nat.lt_trans (Heap.lt_size ho) ha) (Nat.lt_irrefl _)
end
/-! ### all(..), any(..) of a generator, told by what each turn does -/
/-- between a yield and the next turn -/
structure Rs (s s' : Shared) : Prop where
  heap : s'.heap = s.heap
  os : s'.os = s.os
  bare : AllBare s'.gens
  size : s.gens.size ≤ s'.gens.size
theorem inv_gens {X : Cx} {pins : List (Addr × Obj)} {σ : L2.St} {H : Hp} {s s' : Shared} (I : Inv X pins σ H s) (h1 : s'.heap = s.heap) (h2 : s'.os = s.os) (h3 : AllBare s'.gens) : Inv X pins σ H s' := by
  obtain ⟨hh, g, d, t, o⟩ := s'
  have e1 : hh = s.heap := h1
  have e2 : o = s.os := h2
  subst e1 e2
  exact ⟨I.ok, I.os, h3, I.base, I.loc, I.cell, I.free, I.freeC, I.pin, I.hok, I.len⟩
theorem Rs.inv {X : Cx} {pins : List (Addr × Obj)} {σ : L2.St} {H : Hp} {s s' : Shared} (r : Rs s s') (I : Inv X pins σ H s) : Inv X pins σ H s' := by
  obtain ⟨h1, h2, h3, _⟩ := r
  obtain ⟨hh, g, d, t, o⟩ := s'
  have e1 : hh = s.heap := h1
  have e2 : o = s.os := h2
  subst e1 e2
  exact ⟨I.ok, I.os, h3, I.base, I.loc, I.cell, I.free, I.freeC, I.pin, I.hok, I.len⟩
theorem bare_set {gens : Array GenState} (h : AllBare gens) {g : Nat} {x : GenState} (hx : x.bare = true) : AllBare (gens.setIfInBounds g x) := fun y hy => by
  obtain ⟨i, hi, rfl⟩ := Array.mem_iff_getElem.mp hy
  rw [Array.size_setIfInBounds] at hi
  rw [Array.getElem_setIfInBounds hi]
  split
  · exact hx
  · exact h _ (Array.getElem_mem hi)
theorem Rs.set {s : Shared} (hb : AllBare s.gens) {g : Nat} {x : GenState} (hx : x.bare = true) : Rs s (s.setGen g x) :=
  ⟨rfl, rfl, bare_set hb hx, Nat.le_of_eq (GenW.setGen_size s g x).symm⟩
theorem Rs.trans {s s1 s2 : Shared} (a : Rs s s1) (b : Rs s1 s2) : Rs s s2 := ⟨b.heap.trans a.heap, b.os.trans a.os, b.bare, Nat.le_trans a.size b.size⟩
/-- the protocol of a generator whose items are truths: T b: what holds where b comes out -/
def gY (gi : Nat) (a : Addr) (stop : Bool) (Fin : Shared → Prop) : Protocol := fun n s₀ v s kap =>
  ∃ b, v = .bool b ∧ s.heap.IsGen a gi ∧ s.heap.NoLimit ∧ AllBare s.gens ∧ gi < s.gens.size ∧ (b = stop → Fin s) ∧ (b ≠ stop → ∀ s', Rs s s' → kap (.send .none) s')
def gR (End : Shared → Prop) : Nat → Shared → Shared → Prop := fun _ _ s => AllBare s.gens ∧ End s
/-- the generator waits -/
def Waits (prog : Program) (w : World) (A : Around) (gi : Nat) (a : Addr) (stop : Bool) (End Fin : Shared → Prop) (n : Nat) (s : Shared) : Prop :=
  s.heap.IsGen a gi ∧ s.heap.NoLimit ∧ AllBare s.gens ∧ ∃ gs, s.gens[gi]? = some gs ∧
    ∀ s', Rs s s' → gs.Goes (model prog w) A.in1 (fun n s₀ r s₁ => r = .ok .next ∧ gR End n s₀ s₁) (gY gi a stop Fin) n (.send .none) s'
section
variable {prog : Program} {w : World} {A : Around} {gi : Nat} {a : Addr} {stop : Bool} {End Fin : Shared → Prop}
theorem waits_next {n : Nat} {s : Shared} {Q : Option Value → Shared → Prop} {E : Value → Shared → Prop} (hh : A.handled = none) (hroom : A.depth < recursionLimit)
    (hE : ∀ s s' : Shared, End s → s'.os = s.os → AllBare s'.gens → (∀ b o, s.heap.get? b = some o → s'.heap.get? b = some o) → End s')
    (hF : ∀ s s' : Shared, Fin s → s'.os = s.os → AllBare s'.gens → (∀ b o, s.heap.get? b = some o → s'.heap.get? b = some o) → Fin s')
    (W : Waits prog w A gi a stop End Fin n s) (hN : ∀ s', End s' → Q none s') (hS : ∀ s', Fin s' → Q (some (.bool stop)) s')
    (hG : ∀ s' m, m < n → Waits prog w A gi a stop End Fin m s' → Q (some (.bool (!stop))) s') : wpAny (model prog w) A (pyNext (.ref a)) Q E s := by
  obtain ⟨hg, hl, hb, gs, hgs, hgo⟩ := W
  refine wpAny_pyNext_genexpQ (P := gR End) (Y := gY gi a stop Fin) hh hl hroom hg hgs (hgo _ (Rs.set hb rfl)) (fun v s₁ gs' hb' hv => ?_) fun s₁ hp h' hk => ?_
  · obtain ⟨b, rfl, g1, l1, b1, z1, f1, k1⟩ := hv
    by_cases e : b = stop
    · subst e
      exact hS _ (hF _ _ (f1 rfl) rfl (bare_set b1 hb') fun _ _ q => q)
    · have eb : b = !stop := by cases b <;> cases stop <;> first | rfl | exact absurd rfl e
      subst eb
      cases n with
      | zero => exact False.elim (k1 e s₁ ⟨rfl, rfl, b1, Nat.le_refl _⟩)
      | succ m =>
        refine hG _ m (Nat.lt_succ_self m) ⟨g1, l1, bare_set b1 hb', gs', ?_, fun s' r => k1 e s' ((Rs.set b1 hb').trans r)⟩
        show (s₁.gens.setIfInBounds gi gs')[gi]? = some gs'
        rw [Array.getElem?_setIfInBounds_self_of_lt z1]
  · obtain ⟨b1, e1⟩ := hp
    exact hN _ (hE _ _ e1 rfl (bare_set b1 rfl) fun b o q => hk b o q)
end
section
variable {prog : Program} {w : World} {A : Around} {gi : Nat} {a : Addr} {End Fin : Shared → Prop}
theorem all_loop (hh : A.handled = none) (hroom : A.depth < recursionLimit)
    (hE : ∀ s s' : Shared, End s → s'.os = s.os → AllBare s'.gens → (∀ b o, s.heap.get? b = some o → s'.heap.get? b = some o) → End s')
    (hF : ∀ s s' : Shared, Fin s → s'.os = s.os → AllBare s'.gens → (∀ b o, s.heap.get? b = some o → s'.heap.get? b = some o) → Fin s') :
    ∀ (n : Nat) (s : Shared), Waits prog w A.in1 gi a false End Fin n s →
      codeAny (model prog w) A (.builtin "all.loop" ⟨[.ref a], []⟩) (fun r s' => (r = .ok (.ret (.bool true)) ∧ End s') ∨ (r = .ok (.ret (.bool false)) ∧ Fin s')) s := by
  intro n
  induction n using Nat.strongRecOn with
  | ind n ih =>
    intro s W
    refine codeAny_builtin PySem.F.entry_all_loop ?_
    rw [Around.under_plainId PySem.F.plain_all_loop]
    show wpAny (model prog w) A.in1 (pyNext (.ref a) >>= _) _ _ s
    refine wpAny_bind (waits_next (A := A.in1) hh hroom hE hF W (fun s' e => ?_) (fun s' e => ?_) fun s' m hm W' => ?_)
    · exact wpAny_bind (wpAny_rule (wpAny_pure (.inl ⟨rfl, e⟩)))
    · refine wpAny_bind (wpAny_holding (wpAny_truthy_bool ?_))
      refine wpAny_bind (wpAny_letGo ?_)
      exact wpAny_bind (wpAny_rule (wpAny_pure (.inr ⟨rfl, e⟩)))
    · refine wpAny_bind (wpAny_holding (wpAny_truthy_bool ?_))
      refine wpAny_bind (wpAny_letGo ?_)
      exact wpAny_pure ⟨plainId_quiet PySem.F.plain_all_loop _, ih m hm s' W'⟩
end
/-! ### all(elt for target in iter) -/
/-- the reading: W by the turn and a measure; P: the def's table, which may grow -/
def tAll (P : Addr) (wi : TI) (g : TG) (te : TE) (vs : List Nat) : TE := fun σ H Q => wi σ H fun J H1 => GxR.TabG H1 P ∧ ∃ W : Nat → Nat → Hp → Prop, (∀ H2, GxR.Tabbed P H1 H2 → ∃ m, W 0 m H2) ∧ ∀ i m H, W i m H →
  (J.stop i H ∧ Q (.bl true) H) ∨ (J.go i H ∧ ∃ Nx : Hp → Prop, (∀ H', Nx H' → ∃ m', m' < m ∧ W (i + 1) m' H') ∧ ∀ x H', J.yld i H x H' → g x (wipe σ vs) H' fun σ2 H2 => wipe σ2 vs = wipe σ vs ∧
    te σ2 H2 fun y H3 => ∃ b, y = .bl b ∧ if b = true then Nx H3 else Q (.bl false) H3)
section
variable {X : Cx}
theorem pe_all {k : Nat} {c P : Addr} {elt tg iter : Expr} {scope : Scope} {own : List (Str × Nat)} {p pos gpos : Pos} {wi : TI} {g : TG} {te : TE}
    (hr : Room (k + 1) X.A) (TB : GxR.TabB X.base X.mg c P) (hcode : X.env.code = .ref c) (hc : X.calm = true) (hN : X.N.Nodup) (hG : Gl X "all") (hM : X.mg "all" = none) (hi : PI X tg iter wi) (ok : BlkOk X.N X.env.scope scope own) (gk : GnOk scope) (hdN : (".0" : Str) ∉ X.N)
    (hg : ∀ (s : Shared) (H : Hp) (A' : Around) (C : Addr) (cl : List (Str × Addr)) (code : Value) (fp : List Addr), PG (gX X s H A' (genEnv scope cl C code builtinsNs X.env) fp) tg g)
    (he : ∀ (s : Shared) (H : Hp) (A' : Around) (C : Addr) (cl : List (Str × Addr)) (code : Value) (fp : List Addr), Room k A' → PE (gX X s H A' (genEnv scope cl C code builtinsNs X.env) fp) elt te)
    (hs : ∀ v, genFold iter X.env v = pure v := by intro _; rfl)
    (hst : starEach [.GeneratorExp elt [⟨tg, iter, [], 0⟩] scope gpos] X.env = (false, eval (.GeneratorExp elt [⟨tg, iter, [], 0⟩] scope gpos) X.env) :: starEach [] X.env := by rfl) :
    PE X (.Call (.Name "all" p) [.GeneratorExp elt [⟨tg, iter, [], 0⟩] scope gpos] [] pos) (tAll P wi g te (own.map (·.2))) := by
  refine ⟨fun pins s σ H Q I h => ?_⟩
  have hh : X.A.handled = none := hr.hd
  refine wpAny_Call_Name_kw (ld_blt I hG hM PyProof.Rows.boot_all ?_)
  refine PyProof.Rows.callWith_builtin1 ?_ hst (by rfl)
  rw [hst]
  show wpAny _ _ (spliced ((false, eval (.GeneratorExp elt [⟨tg, iter, [], 0⟩] scope gpos) X.env) :: backTo pos (starEach [] X.env))) _ _ s
  have hfree : ∀ y ∈ scope.names, y.2 = .free → ∃ c, X.env.cells.lookup y.1 = some c := fun y hy e =>
    (ok.free y hy e).elim (fun k => I.ok.has _ (.inl k)) fun k => I.ok.has _ (.inr k)
  refine Calls.spliced_cons (wpAny_GeneratorExp_make gk.co (closure_ok hfree) gk.nocell gk.dot ok.kind (by have := hr.dp; omega) (thn (hi.run pins s σ H _ I h) fun xv s1 hx => thn hx fun itv s2 h2 => ?_) hs)
  obtain ⟨it, fp, tn, J, H2, e, I2, T, st2, f2, ⟨ps, hP, ht⟩, W, w0, turn⟩ := h2
  subst e
  refine ⟨I2.nolimit, ?_⟩
  have hPs : s2.heap.get? P = some { cls := .none, data := .fields ps } := I2.hok P _ hP
  have cd : PySem.W.CodeHd s2.heap c P := TB.code.keeps fun b u e => I2.bk b u e
  have sz2 : ∀ b ∈ fp, b < s2.heap.objs.size := fun b hb => by
    obtain ⟨o, e, _⟩ := T.obj _ _ st2 b hb
    exact Heap.lt_size e
  have nfP : ∀ b ∈ fp, b ≠ P := fun b hb z => by
    have q := (f2 b hb).1
    rw [z, hP] at q
    cases q
  -- behind the table
  have cont : ∀ (code : Value) (h3 : Heap) (tk : Nat) (more : Array Value), s2.heap.objs.size ≤ h3.objs.size → (∀ b o, b ≠ P → s2.heap.get? b = some o → h3.get? b = some o) → h3.get? P = some { cls := .none, data := .fields (ps ++ more) } → TriplesOk (ps ++ more).toList →
      wpAny (model X.prog X.w) X.A (builtinsFor X.env.globals X.env.builtins) (fun bi s4 => ∀ h', h'.Ns s4.heap.objs.size (fun y => if y = ".0" then some (.ref it) else none) → Heap.SameBut s4.heap.objs.size (s4.heap.push { cls := .type "frame", data := .dict #[] }) h' →
        wpAny (model X.prog X.w) X.A (spliced (backTo pos (starEach [] X.env))) (fun vs s5 => wpAny (model X.prog X.w) X.A (call (.builtin "all") (.ref h'.objs.size :: vs)) (EP X pins σ Q) X.xe s5) X.xe { s4 with
            gens := s4.gens.push (.fresh (.compStart (.GeneratorExp elt [⟨tg, iter, [], 0⟩] scope gpos) 0 (.ref it) .none (genEnv scope (cloFrom X.env.cells scope.names []) s4.heap.objs.size code bi X.env))), toks := s4.toks + 1 + 1 + 1,
            heap := h'.push { cls := .type "generator", data := .fields #[.int s4.gens.size 0, .str "<genexpr>" (s4.toks + 1), .str (X.env.qual ++ "<genexpr>") (s4.toks + 1 + 1)] } }) X.xe { s2 with heap := h3, toks := tk } := by
    intro code h3 tk more hle3 hk3 hP3 ht3
    have I3 : Inv X pins σ (upd H2 P (.tbl (ps ++ more))) { s2 with heap := h3, gens := s2.gens, drawn := s2.drawn, toks := tk } := GxR.inv_tab I2 hP hk3 hP3 I2.bare
    have tab3 : GxR.Tabbed P H2 (upd H2 P (.tbl (ps ++ more))) := ⟨⟨_, upd_same, ht3⟩, fun b hb => upd_ne hb⟩
    have st3 : tn 0 h3 := T.keep _ _ _ st2 fun b hb o e => hk3 b o (nfP b hb) e
    have f3 : ∀ b ∈ fp, FpOk X pins (upd H2 P (.tbl (ps ++ more))) b := fun b hb => ⟨by rw [upd_ne (nfP b hb)]; exact (f2 b hb).1, (f2 b hb).2⟩
    generalize upd H2 P (.tbl (ps ++ more)) = H3 at I3 tab3 f3
    obtain ⟨m0, hw0⟩ := w0 H3 tab3
    have sz3 : ∀ b ∈ fp, b < h3.objs.size := fun b hb => Nat.lt_of_lt_of_le (sz2 b hb) hle3
    have hs3 : ({ s2 with heap := h3, gens := s2.gens, drawn := s2.drawn, toks := tk } : Shared) = { s2 with heap := h3, toks := tk } := rfl
    rw [hs3] at I3
    generalize hsh : ({ s2 with heap := h3, toks := tk } : Shared) = s3 at I3 ⊢
    have eh : h3 = s3.heap := by rw [← hsh]
    rw [eh] at st3 sz3
    clear hsh hs3 eh hP3 hk3 hle3
    obtain ⟨bm, ob, e1, e2, e3, e4, e5, e6, e7, e8⟩ := TB.bm
    refine wpAny_builtinsFor (m := X.mg) (by rw [I3.ok.glob]; exact I3.mod.glob.keeps I3.bk) e1 e2 (I3.bk _ _ e5) e6 e7 e8 ?_
    intro h' hn' hs'
    refine Calls.spliced_nil ?_
    have hsz : h'.objs.size = s3.heap.objs.size + 1 := by rw [hs'.1, Heap.size_push]
    generalize hgo : ({ cls := .type "generator", data := .fields #[.int s3.gens.size 0, .str "<genexpr>" (s3.toks + 1), .str (X.env.qual ++ "<genexpr>") (s3.toks + 1 + 1)] } : Obj) = go
    have kp5 : ∀ b o, s3.heap.get? b = some o → (h'.push go).get? b = some o := fun b o e => Heap.get?_push_of_some _ (hs'.extBut b o (Nat.ne_of_lt (Heap.lt_size e)) (Heap.get?_push_of_some _ e))
    generalize hce : genEnv scope (cloFrom X.env.cells scope.names []) s3.heap.objs.size code builtinsNs X.env = ce
    have hhA : (X.A.in1.in1.over (.compLoop (.GeneratorExp elt [⟨tg, iter, [], 0⟩] scope gpos) 0 (.ref it) .none ce) []).handled = none := hh
    have hFr : (X.A.in1.in1.over (.compLoop (.GeneratorExp elt [⟨tg, iter, [], 0⟩] scope gpos) 0 (.ref it) .none ce) []).frames = some (ce :: X.stack) := by
      show pushEnvs [ce] (pushEnvs [] X.A.frames) = _
      rw [I3.ok.frames]
      rfl
    have hRm : Room k (X.A.in1.in1.over (.compLoop (.GeneratorExp elt [⟨tg, iter, [], 0⟩] scope gpos) 0 (.ref it) .none ce) []) := by
      have z1 := hr.dp
      have z2 := hr.un
      refine ⟨hhA, ?_, ?_⟩
      · show X.A.depth + 0 + 1 + 3 * k + 5 < recursionLimit
        omega
      · show X.A.units + 1 + 1 + 0 + 3 + 16 * k + 200 < cLine
        omega
    generalize hAg : X.A.in1.in1.over (.compLoop (.GeneratorExp elt [⟨tg, iter, [], 0⟩] scope gpos) 0 (.ref it) .none ce) [] = Ag at hhA hFr hRm
    have I5 : Inv (gX X s3 H3 Ag ce fp) [(h'.objs.size, go)] (wipe σ (own.map (·.2))) H3 { s3 with heap := h'.push go, gens := s3.gens.push (.fresh (.compStart (.GeneratorExp elt [⟨tg, iter, [], 0⟩] scope gpos) 0 (.ref it) .none ce)), toks := s3.toks + 1 + 1 + 1 } := by
      have q := gen_start (code := code) (A' := Ag) (h5 := h'.push go) (g5 := s3.gens.push (.fresh (.compStart (.GeneratorExp elt [⟨tg, iter, [], 0⟩] scope gpos) 0 (.ref it) .none ce))) (t5 := s3.toks + 1 + 1 + 1) (go := go) I3 ok gk hN (fun b hb => ⟨f3 b hb, sz3 b hb⟩) hhA (by rw [hce]; exact hFr) kp5 (hn'.push _)
        (fun x hx => if_neg hx) hdN (I3.bare.push rfl) (a := h'.objs.size) (by omega) (Heap.get?_push_size _ (by rw [← hgo]; rfl)) (by rw [← hgo]; intro v z; cases z)
      rw [hce] at q
      exact q
    have st5 : tn 0 (h'.push go) := T.keep _ _ _ st3 fun b _ o e => kp5 b o e
    have nfp : ∀ b ∈ fp, H3 b = none := fun b hb => (f3 b hb).1
    have pg := hg s3 H3 Ag s3.heap.objs.size (cloFrom X.env.cells scope.names []) code fp
    have pe := he s3 H3 Ag s3.heap.objs.size (cloFrom X.env.cells scope.names []) code fp hRm
    rw [hce] at pg pe
    have cCo : ce.scope.isCoroutine = false := by rw [← hce]; exact gk.co
    clear hn' hs' kp5 w0 hce
    -- back in the def's context
    have back : ∀ {σ' : L2.St} {H' : Hp} {s' : Shared} {pl : List (Addr × Obj)}, Inv (gX X s3 H3 Ag ce fp) pl σ' H' s' → Inv X pins σ H' s' := fun {σ' H' s' pl} J => I3.call' (ch := fp) J.os J.base J.hok J.bare fun b hb =>
      ⟨(f3 b hb).2.2.2.1, (f3 b hb).2.1, (f3 b hb).2.2.2.2.1, (f3 b hb).2.2.2.2.2⟩
    have stat : ∀ {σ' : L2.St} {H' : Hp} {s' : Shared}, Inv (gX X s3 H3 Ag ce fp) [(h'.objs.size, go)] σ' H' s' → (∀ b ∈ fp, H' b = none) → ∀ b ∈ fp, FpOk (gX X s3 H3 Ag ce fp) [(h'.objs.size, go)] H' b := fun {σ' H' s'} J hn b hb =>
      ⟨hn b hb, (J.ok.exf b hb).1, J.ok.exfs b hb, .inl hb, fun x c e => (J.ok.exf b hb).2 x c e, fun p hp => by
        have hp : p = (h'.objs.size, go) := by simpa using hp
        rw [hp]
        exact Nat.ne_of_gt (Nat.lt_trans (sz3 b hb) (by rw [hsz]; exact Nat.lt_succ_self _))⟩
    have gen : ∀ {σ' : L2.St} {H' : Hp} {s' : Shared} {pl : List (Addr × Obj)}, Inv (gX X s3 H3 Ag ce fp) ([(h'.objs.size, go)] ++ pl) σ' H' s' → s'.heap.IsGen h'.objs.size s3.gens.size := fun {σ' H' s' pl} J => by
      have q := (J.pin (h'.objs.size, go) (by simp)).1
      exact ⟨go, _, _, q, by rw [← hgo], by rw [← hgo], by rw [← hgo]⟩
    -- the turns
    have loop : ∀ (m n i : Nat) (s₀ s : Shared) (H : Hp), m < n → W i m H → Inv (gX X s3 H3 Ag ce fp) [(h'.objs.size, go)] (wipe σ (own.map (·.2))) H s → tn i s.heap → (∀ b ∈ fp, H b = none) → s3.gens.size + 1 ≤ s.gens.size →
        Seg (model X.prog X.w) X.A.in1.in1 (fun n s₀ r s₁ => r = .ok .next ∧ gR (fun s => ∃ H', Inv X pins σ H' s ∧ Q (.bl true) H') n s₀ s₁) (gY s3.gens.size h'.objs.size false fun s => ∃ H', Inv X pins σ H' s ∧ Q (.bl false) H') n s₀
          (.compLoop (.GeneratorExp elt [⟨tg, iter, [], 0⟩] scope gpos) 0 (.ref it) .none ce) ((model X.prog X.w).den (.compLoop (.GeneratorExp elt [⟨tg, iter, [], 0⟩] scope gpos) 0 (.ref it) .none ce)) [] s := by
      intro m
      induction m using Nat.strongRecOn with
      | ind m ih =>
        intro n i s₀ s H hmn w J st nf hz
        show Seg (model X.prog X.w) _ _ _ n s₀ _ ((compTurn (.GeneratorExp elt [⟨tg, iter, [], 0⟩] scope gpos) 0 (.ref it) .none ce).onRaise (leaving ce)) [] s
        rw [compTurn_gen]
        rw [Sem.onRaise_eq_wrap]
        refine seg_bind_wrap (wpAny_standAt (seg_bind_wrap ?_))
        rw [hAg]
        rcases turn i m H w with ⟨stp, qq⟩ | ⟨go', Nx, hNx, step⟩
        · refine thnF (T.done (gX X s3 H3 Ag ce fp) rfl rfl rfl hc i _ s _ H (fun _ _ => False) J (stat J nf) st stp) fun r s6 ⟨hr6, J6⟩ => ?_
          subst hr6
          exact seg_end (.ok .next) ⟨rfl, J6.bare, H, back J6, qq⟩
        · refine GenW.wpAny_gsz hz (thnF (T.item (gX X s3 H3 Ag ce fp) rfl rfl rfl hc i _ s _ H (fun _ _ => False) J (stat J nf) st go') fun r s6 ⟨u, hr6, h6⟩ hz6 => ?_)
          subst hr6
          refine seg_bind_wrap ?_
          rw [hAg]
          refine GenW.wpAny_gsz hz6 (thnF h6 fun _ s7 ⟨x, H7, J7, r7, y7, st7, n7⟩ hz7 => ?_)
          have J7' := J7.pinned (stat J7 n7) (T.obj _ _ st7)
          refine seg_bind_wrap ?_
          rw [hAg]
          refine GenW.wpAny_gsz hz7 (thnF (pg.run _ s7 _ H7 x u _ J7' r7 (step x H7 y7)) fun _ s8 ⟨σ8, H8, J8, hw8, q8⟩ hz8 => ?_)
          simp only [List.forIn_nil]
          refine seg_bind_wrap (wpAny_pure ?_)
          simp only [if_true]
          have hy : ∀ v, yieldOut ce v = yieldValue v := fun v => by simp only [yieldOut, cCo, Bool.false_eq_true, if_false]
          simp only [hy]
          rw [Sem.bind_eq_wrap', Sem.bind_eq_wrap']
          rw [Sem.wrap_wrap, Sem.wrap_wrap]
          refine seg_wrap ?_
          rw [hAg]
          refine GenW.wpAny_gsz hz8 (thnF (pe.run _ s8 σ8 H8 _ J8 q8) fun z s9 ⟨yv, H9, J9, r9, b, eb, qb⟩ hz9 => ?_)
          subst eb
          obtain rfl : z = Value.bool b := r9
          obtain ⟨n', rfl⟩ : ∃ n', n = n' + 1 := ⟨n - 1, by omega⟩
          refine seg_at (seg_yield rfl rfl rfl ⟨b, rfl, gen J9, J9.nolimit, J9.bare, hz9, fun e => ?_, fun e s' r => ?_⟩)
          · subst e
            exact ⟨H9, back J9, qb⟩
          · have e : b = true := by
              cases b with
              | true => rfl
              | false => exact absurd rfl e
            subst e
            rw [if_pos rfl] at qb
            obtain ⟨m', hm', w'⟩ := hNx H9 qb
            have pin' : ∀ b ∈ fp, ∀ o, s7.heap.get? b = some o → s9.heap.get? b = some o ∧ H9 b = none := fun b hb o e =>
              let z := J9.pin (b, o) (List.mem_append_right _ (List.mem_append_right _ (mem_pinsAt hb e)))
              ⟨z.1, z.2.1⟩
            have hl : (wipe σ (own.map (·.2))).length = σ8.length := by rw [← hw8, wipe_length]
            have K9 : Inv (gX X s3 H3 Ag ce fp) [(h'.objs.size, go)] (wipe σ (own.map (·.2))) H9 s9 := J9.unpinned.weak hl fun j v e => by
              rw [← hw8] at e
              exact (wipe_some e).1
            refine seg_again rfl (ih m' hm' n' (i + 1) s' s' H9 (by omega) w' (r.inv K9) ?_ (fun b hb => ?_) (Nat.le_trans hz9 r.size))
            · rw [r.heap]
              exact T.keep _ _ _ st7 fun b hb o e => (pin' b hb o e).1
            · obtain ⟨o, e, _⟩ := T.obj _ _ st7 b hb
              exact (pin' b hb o e).2
    have mono : ∀ (b : Bool) (s s' : Shared), (∃ H', Inv X pins σ H' s ∧ Q (.bl b) H') → s'.os = s.os → AllBare s'.gens → (∀ b o, s.heap.get? b = some o → s'.heap.get? b = some o) → ∃ H', Inv X pins σ H' s' ∧ Q (.bl b) H' := fun b s s' ⟨H', J, q⟩ h1 h2 h3 =>
      ⟨H', inv_gens (J.kept (t' := s'.toks) h3) rfl h1 h2, q⟩
    generalize hs5 : ({ s3 with heap := h'.push go, gens := s3.gens.push (.fresh (.compStart (.GeneratorExp elt [⟨tg, iter, [], 0⟩] scope gpos) 0 (.ref it) .none ce)), toks := s3.toks + 1 + 1 + 1 } : Shared) = s5 at I5
    have hg5 : s5.gens[s3.gens.size]? = some (.fresh (.compStart (.GeneratorExp elt [⟨tg, iter, [], 0⟩] scope gpos) 0 (.ref it) .none ce)) := by
      rw [← hs5]
      exact Array.getElem?_push_size ..
    have hz5 : s3.gens.size + 1 ≤ s5.gens.size := by
      rw [← hs5]
      exact Nat.le_of_eq (Array.size_push ..).symm
    have ht5 : tn 0 s5.heap := by rw [← hs5]; exact st5
    have wt : Waits X.prog X.w X.A.in1 s3.gens.size h'.objs.size false (fun s => ∃ H', Inv X pins σ H' s ∧ Q (.bl true) H') (fun s => ∃ H', Inv X pins σ H' s ∧ Q (.bl false) H') (m0 + 1) s5 := by
      refine ⟨gen (pl := []) I5, I5.nolimit, I5.bare, _, hg5, fun s' r => ⟨rfl, ?_⟩⟩
      have lp := loop m0 (m0 + 1) 0 s' s' H3 (Nat.lt_succ_self _) hw0 (r.inv I5) (by rw [r.heap]; exact ht5) nfp (Nat.le_trans hz5 r.size)
      show Seg (model X.prog X.w) _ _ _ _ s' _ ((compStart (.GeneratorExp elt [⟨tg, iter, [], 0⟩] scope gpos) 0 (.ref it) .none ce).onRaise (leaving ce)) [] s'
      unfold compStart
      rw [Sem.onRaise_eq_wrap]
      show Seg (model X.prog X.w) _ _ _ _ s' _ ((ask >>= _).wrap _ _ _ _) [] s'
      refine seg_bind_wrap (wpAny_askSetting ?_)
      have ts : tn 0 s'.heap := by rw [r.heap]; exact ht5
      split
      · exact seg_again rfl lp
      · first
          | exact seg_bind_wrap (wpAny_rule (seg_bind_wrap (wpAny_standAt (seg_bind_wrap (T.self _ 0 s' _ _ ts (seg_again rfl lp))))))
          | (refine seg_bind_wrap (wpAny_rule ?_); show Seg (model X.prog X.w) _ _ _ _ s' _ ((standAt iter.pos >>= _).wrap _ _ _ _) [] s'; exact seg_bind_wrap (wpAny_standAt (seg_bind_wrap (T.self _ 0 s' _ _ ts (seg_again rfl lp)))))
    refine call_function_tree PySem.F.kind_all PySem.F.plain_all PySem.F.entry_all (PySem.F.args_all1 _) ?_
    unfold Builtin.«all»
    refine wpAny_bind (m := oneArg "all" _) (wpAny_pure ?_)
    refine wpAny_bind (wpAny_pyIter_gen (gen (pl := []) I5) ?_)
    refine wpAny_pure ⟨plainId_quiet PySem.F.plain_all_loop _, codeAny_mono (all_loop hh hr.depth (mono true) (mono false) (m0 + 1) s5 wt) fun r s' hq => ?_⟩
    rcases hq with ⟨rfl, H', J, q⟩ | ⟨rfl, H', J, q⟩
    · exact ⟨.bl true, H', J, rfl, q⟩
    · exact ⟨.bl false, H', J, rfl, q⟩
  cases hf : codeAmong gpos ps.toList with
  | none =>
    refine wpAny_genexprCodeX hcode (cd.code hPs ht) (cd.tab hPs) hf fun c' h' tk hx hge hlt hco' _ htab' _ => ?_
    obtain ⟨o1, vs, f1, tf, fl, tg1, inF, tx, tt, op, _, _, _, _, _, _, _, _, _, htr, _⟩ := hco'
    exact cont _ h' tk _ (Nat.le_trans hge (Nat.le_of_lt hlt)) (fun b o hb e => hx b o hb e) htab'.2 htr
  | some cv =>
    refine wpAny_genexprCode_hit hcode (cd.code hPs ht) hf ?_
    have := cont cv s2.heap s2.toks #[] (Nat.le_refl _) (fun _ _ _ e => e) (by rw [hPs]; simp) (by simpa using ht)
    exact this
end
def topS (i : Nat) : Stmt := PySem.Challenge.pw_friendfoe_k36_what_is_a_mend.main.body.getD i (.Pass ⟨0, 0, 0, 0⟩)
abbrev s_neighbours : Stmt := topS 1
abbrev N_neighbours : List Str := ["web", "many", "ties", "around", "place", "one", "other", "kind"]
theorem sc_neighbours : FnScope N_neighbours ["web"] (defScope s_neighbours) := ⟨rfl, rfl, rfl, by decide +kernel, rfl, by decide +kernel, by decide +kernel⟩
abbrev s_sides_from : Stmt := topS 2
abbrev N_sides_from : List Str := ["start", "around", "sides", "waiting", "place", "other", "kind"]
theorem sc_sides_from : FnScope N_sides_from ["start", "around"] (defScope s_sides_from) := ⟨rfl, rfl, rfl, by decide +kernel, rfl, by decide +kernel, by decide +kernel⟩
abbrev s_is_whole : Stmt := topS 4
abbrev N_is_whole : List Str := ["thing"]
theorem sc_is_whole : FnScope N_is_whole ["thing"] (defScope s_is_whole) := ⟨rfl, rfl, rfl, by decide +kernel, rfl, by decide +kernel, by decide +kernel⟩
abbrev s_is_whole_below : Stmt := topS 5
abbrev N_is_whole_below : List Str := ["limit", "thing"]
theorem sc_is_whole_below : FnScope N_is_whole_below ["limit", "thing"] (defScope s_is_whole_below) := ⟨rfl, rfl, rfl, by decide +kernel, rfl, by decide +kernel, by decide +kernel⟩
abbrev s_are_rising_below : Stmt := topS 6
abbrev N_are_rising_below : List Str := ["limit", "thing", "number", "following"]
theorem sc_are_rising_below : FnScope N_are_rising_below ["limit", "thing"] (defScope s_are_rising_below) := ⟨rfl, rfl, rfl, by decide +kernel, rfl, by decide +kernel, by decide +kernel⟩
abbrev s_breaks : Stmt := topS 8
abbrev N_breaks : List Str := ["sides", "tie", "one", "other", "kind"]
theorem sc_breaks : FnScope N_breaks ["sides", "tie"] (defScope s_breaks) := ⟨rfl, rfl, rfl, by decide +kernel, rfl, by decide +kernel, by decide +kernel⟩
abbrev s_broken_by : Stmt := topS 9
abbrev N_broken_by : List Str := ["web", "sides", "number", "tie"]
theorem sc_broken_by : FnScope N_broken_by ["web", "sides"] (defScope s_broken_by) := ⟨rfl, rfl, rfl, by decide +kernel, rfl, by decide +kernel, by decide +kernel⟩
abbrev s_sides_of : Stmt := topS 10
abbrev N_sides_of : List Str := ["web", "around", "told", "start", "sides", "place"]
theorem sc_sides_of : FnScope N_sides_of ["web"] (defScope s_sides_of) := ⟨rfl, rfl, rfl, by decide +kernel, rfl, by decide +kernel, by decide +kernel⟩
abbrev s_without : Stmt := topS 12
abbrev N_without : List Str := ["web", "numbers", "gone", "number", "tie"]
theorem sc_without : FnScope N_without ["web", "numbers"] (defScope s_without) := ⟨rfl, rfl, rfl, by decide +kernel, rfl, by decide +kernel, by decide +kernel⟩
abbrev s_mend_holds : Stmt := topS 13
abbrev N_mend_holds : List Str := ["web", "thing"]
theorem sc_mend_holds : FnScope N_mend_holds ["web", "thing"] (defScope s_mend_holds) := ⟨rfl, rfl, rfl, by decide +kernel, rfl, by decide +kernel, by decide +kernel⟩
abbrev s_l_deck : Stmt := topS 15
abbrev N_l_deck : List Str := ["_law_script", "_law_cells", "_law_seed", "_law_cell"]
theorem sc_l_deck : FnScope N_l_deck ["_law_script"] (defScope s_l_deck) := ⟨rfl, rfl, rfl, by decide +kernel, rfl, by decide +kernel, by decide +kernel⟩
abbrev s_l_take : Stmt := topS 16
abbrev N_l_take : List Str := ["_law_deck_here", "_law_many", "_law_at", "_law_cell", "_law_seed", "_law_number"]
theorem sc_l_take : FnScope N_l_take ["_law_deck_here", "_law_many"] (defScope s_l_take) := ⟨rfl, rfl, rfl, by decide +kernel, rfl, by decide +kernel, by decide +kernel⟩
abbrev s_l_ties : Stmt := topS 17
abbrev N_l_ties : List Str := ["_law_deck_here", "_law_many", "_law_most", "_law_ties_here", "_law_one", "_law_other"]
theorem sc_l_ties : FnScope N_l_ties ["_law_deck_here", "_law_many", "_law_most"] (defScope s_l_ties) := ⟨rfl, rfl, rfl, by decide +kernel, rfl, by decide +kernel, by decide +kernel⟩
abbrev s_l_sides : Stmt := topS 18
abbrev N_l_sides : List Str := ["_law_many", "_law_ties_here", "_law_side", "_law_start", "_law_waiting", "_law_here", "_law_one", "_law_other", "_law_kind", "_law_place", "_law_beside"]
theorem sc_l_sides : FnScope N_l_sides ["_law_many", "_law_ties_here"] (defScope s_l_sides) := ⟨rfl, rfl, rfl, by decide +kernel, rfl, by decide +kernel, by decide +kernel⟩
abbrev s_l_broken : Stmt := topS 19
abbrev N_l_broken : List Str := ["_law_ties_here", "_law_side", "_law_found", "_law_k", "_law_one", "_law_other", "_law_kind"]
theorem sc_l_broken : FnScope N_l_broken ["_law_ties_here", "_law_side"] (defScope s_l_broken) := ⟨rfl, rfl, rfl, by decide +kernel, rfl, by decide +kernel, by decide +kernel⟩
abbrev s_l_bent : Stmt := topS 20
abbrev N_l_bent : List Str := ["_law_deck_here", "_law_many", "_law_row", "_law_at", "_law_odd", "_law_some", "_law_more", "_law_number", "_law_less", "_law_later"]
theorem sc_l_bent : FnScope N_l_bent ["_law_deck_here", "_law_many", "_law_row"] (defScope s_l_bent) := ⟨rfl, rfl, rfl, by decide +kernel, rfl, by decide +kernel, by decide +kernel⟩
abbrev s_l_is_mend : Stmt := topS 21
abbrev N_l_is_mend : List Str := ["_law_web", "_law_thing", "_law_number", "_law_k", "_law_tie"]
theorem sc_l_is_mend : FnScope N_l_is_mend ["_law_web", "_law_thing"] (defScope s_l_is_mend) := ⟨rfl, rfl, rfl, by decide +kernel, rfl, by decide +kernel, by decide +kernel⟩
abbrev s_l_right : Stmt := topS 22
abbrev N_l_right : List Str := ["_law_web", "_law_thing", "_law_due", "_law_again", "_law_found"]
theorem sc_l_right : FnScope N_l_right ["_law_web", "_law_thing"] (defScope s_l_right) := ⟨rfl, rfl, rfl, by decide +kernel, rfl, by decide +kernel, by decide +kernel⟩
abbrev s_law : Stmt := topS 23
abbrev N_law : List Str := ["_law_script", "_law_deck_here", "_law_turn", "_law_many", "_law_most", "_law_web", "_law_side", "_law_place", "_law_mend", "_law_other", "_law_k", "_law_thing"]
theorem sc_law : FnScope N_law ["_law_script"] (defScope s_law) := ⟨rfl, rfl, rfl, by decide +kernel, rfl, by decide +kernel, by decide +kernel⟩
/-! ### own rules: a list against [] -/
section
variable {X : Cx}
def rEqE (K : PySem.W.Frag) : R2 := fun x y H Q => ∃ (a b : Addr) (xs : List V), x = .ref a ∧ y = .ref b ∧ SqL K H a xs ∧ SqL K H b [] ∧ Q (.bl xs.isEmpty) H
def rNeE (K : PySem.W.Frag) : R2 := fun x y H Q => ∃ (a b : Addr) (xs : List V), x = .ref a ∧ y = .ref b ∧ SqL K H a xs ∧ SqL K H b [] ∧ Q (.bl (!xs.isEmpty)) H
theorem op_eqE (hu : X.A.units < cLine) : OpR X (compareOp .Eq) (rEqE X.K) := by
  intro pins s σ H x y v u Q I rx ry h
  obtain ⟨a, b, xs, rfl, rfl, ha, hb, q⟩ := h
  obtain rfl : v = Value.ref a := rx
  obtain rfl : u = Value.ref b := ry
  obtain ⟨its, r1, p1, _⟩ := I.list ha
  obtain ⟨its2, r2, p2, _⟩ := I.list hb
  cases r2
  cases xs with
  | nil =>
    cases r1
    exact SeqAt.eq_listAt (e := fun _ => true) p1.isList p2.isList rfl hu (fun j h1 _ => absurd h1 (by simp)) ⟨.bl true, H, I, rfl, q⟩
  | cons z zs =>
    cases r1 with
    | cons r t => exact SeqAt.eq_list_lengthsAt p1.isList p2.isList (by simp) hu ⟨.bl false, H, I, rfl, q⟩
theorem op_neE (hu : X.A.units < cLine) : OpR X (compareOp .NotEq) (rNeE X.K) := by
  intro pins s σ H x y v u Q I rx ry h
  obtain ⟨a, b, xs, rfl, rfl, ha, hb, q⟩ := h
  obtain rfl : v = Value.ref a := rx
  obtain rfl : u = Value.ref b := ry
  obtain ⟨its, r1, p1, _⟩ := I.list ha
  obtain ⟨its2, r2, p2, _⟩ := I.list hb
  cases r2
  cases xs with
  | nil =>
    cases r1
    exact SeqAt.RcNeAt.lists (e := fun _ => true) p1.isList p2.isList rfl hu (fun j h1 _ => absurd h1 (by simp)) _ _ _ _ ⟨.bl false, H, I, rfl, q⟩
  | cons z zs =>
    cases r1 with
    | cons r t => exact SeqAt.RcNeAt.lists_lengths p1.isList p2.isList (by simp) hu _ _ _ _ ⟨.bl true, H, I, rfl, q⟩
end
section
variable {P : Program} {w : World} {K : PySem.W.Frag} {mg : Str → Option Value} {base : Heap}
/-! ### the deck is laid -/
theorem cutV_ints (ns : List Int) (lo hi : Option Int) : ∃ ms : List Int, cutV (ns.map V.int) lo hi = ms.map V.int ∧ ms.length ≤ ns.length := by
  refine ⟨(ns.drop (HT.sIx ns.length 0 lo)).take (HT.sIx ns.length ns.length hi - HT.sIx ns.length 0 lo), ?_, ?_⟩
  · unfold cutV
    rw [List.length_map, List.map_take, List.map_drop]
  · rw [List.length_take, List.length_drop]
    omega
theorem ixN_nat {n k : Nat} (h : k < n) : ixN n (k : Int) = some k := by
  unfold ixN
  rw [if_pos (by omega), if_pos (by omega)]
  rfl
theorem set_map (cells : List Int) (k : Nat) (y : Int) : (cells.map V.int).set k (.int y) = (cells.set k y).map V.int := (List.map_set ..).symm
theorem ok_l_take {f : Addr} {fd : FuncData} (F : Fun K "_law_take" "_law_take" s_l_take f fd) (M : Free mg) : FnOk P w K mg base CX0 1 f fd ["_law_deck_here", "_law_many"] spDraw := by
  refine F.ok sc_l_take (fun vs H Q E h => ?_) (fun cdv A outer s H vs Q E hr h => ?_)
  · obtain ⟨d, c, m, rfl, _⟩ := h
    rfl
  · obtain ⟨d, c, m, rfl, hD, hm, hb, q⟩ := h
    have ndc := hD.ne
    obtain ⟨cells, st, n, hd, hc, hl, n0, n1, st0, st1⟩ := hD
    obtain ⟨k, rfl⟩ : ∃ k : Nat, n = k := ⟨n.toNat, by omega⟩
    have hu := hu_of hr
    refine ⟨_, (pss_cons (ps_set (i := 2) sc_l_take.nd rfl (.inl rfl) (pe_dget hu (pv 0) pe_str (fun _ _ => rfl)))
      (Evl.pss_cut (ps_if (pt_cmpR op_lt (pv 2) (pe_callB call_len_seq (by rfl) M.len PySem.boot_len (pa_cons (pe_dget hu (pv 0) pe_str (fun _ _ => rfl)) pa_nil)) (nomark _))
        (pss_cons (ps_set (i := 3) sc_l_take.nd rfl (.inl rfl) (pe_ix ix_list (pe_dget hu (pv 0) pe_str (fun _ _ => rfl)) (pv 2) (fun _ _ => rfl)))
        (Evl.pss_cut (ps_if (pt_cmpR op_ge (pv 3) (pe_op op_pow pe_int pe_int) (nomark _))
          (pss_cons (ps_asg (pe_op op_fdivW (pv 3) (pv 1)) (pg_sub (pe_dget hu (pv 0) pe_str (fun _ _ => rfl)) (pv 2) set_list))
          (pss_one (ps_ret (pe_op op_mod (pv 3) (pv 1)))))
          pss_nil)
        (pss_one (ps_dput hu (pv 0) pe_str (pe_op op_add (pv 2) pe_int) rfl))))
        pss_nil)
      (Evl.pss_cut (ps_set (i := 4) sc_l_take.nd rfl (.inl rfl) (pe_op op_mod (pe_op op_add (pe_op op_add (pe_op op_mul (pe_dget hu (pv 0) pe_str (fun _ _ => rfl)) pe_int) (pv 2)) pe_int) pe_int))
      (pss_cons (ps_dput hu (pv 0) pe_str (pv 4) rfl)
      (Evl.pss_cut (ps_set (i := 5) sc_l_take.nd rfl (.inl rfl) (pe_op op_mod (pe_op op_add (pe_op op_mul (pv 4) (pe_op op_add (pe_op op_fdiv (pv 4) pe_int) pe_int)) pe_int) pe_int))
      (pss_one (ps_ret (pe_op op_mod (pe_op op_fdiv (pe_op op_mod (pe_op op_mul (pv 5) (pe_op op_add (pe_op op_fdiv (pv 5) pe_int) pe_int)) pe_int) pe_int) (pv 1))))))))), ?_⟩
    have gAt : DGet H d (.str "at") (some (.int k)) := by rw [← dkv_at c k st]; exact DGet.k (k := Sum.inr "at") hd
    have gCe : DGet H d (.str "cells") (some (.ref c)) := by rw [← dkv_cells c k st]; exact DGet.k (k := Sum.inr "cells") hd
    refine ⟨.ref d, rfl, d, _, rfl, gAt, ?_⟩
    refine ⟨fun σ' H' => ∃ (y3 : Option V) (n : Int), σ' = [some (.ref d), some (.int m), some (.int k), y3, none, none] ∧ H' d = some (.dK (dkv c n st)) ∧ H' c = some (.lst (cells.map V.int)) ∧ 0 ≤ n ∧ n ≤ cells.length ∧ Kp d c H H', ?_, ?_⟩
    · refine ⟨.int k, rfl, .ref d, rfl, d, _, rfl, gCe, c, _, rfl, .inl (SqL.of hc), _, _, rfl, rfl, _, rfl, ?_⟩
      rw [List.length_map]
      refine ite2 (fun h1 => ?_) (fun _ => ?_)
      · have hk : k < cells.length := by have := of_decide_eq_true h1; omega
        have ea : atI (cells.map V.int) (k : Int) = some (.int cells[k]) := atI_nat (by rw [List.getElem?_map, List.getElem?_eq_getElem hk]; rfl)
        refine ⟨.ref d, rfl, d, _, rfl, gCe, .int k, rfl, c, _, k, .int cells[k], rfl, rfl, SqL.of hc, ea, ?_⟩
        refine ⟨fun σ' H' => σ' = [some (.ref d), some (.int m), some (.int k), some (.int cells[k]), none, none] ∧ H' = H, ?_, ?_⟩
        · refine ⟨.int cells[k], rfl, 10, 18, rfl, rfl, ⟨by decide, by decide, by decide⟩, _, _, rfl, rfl, _, rfl, ?_⟩
          refine ite2 (fun _ => ?_) (fun _ => ⟨rfl, rfl⟩)
          refine ⟨.int cells[k], rfl, .int m, rfl, cells[k], m, rfl, rfl, wide_div hm hb (by decide) (by decide), .ref d, rfl, d, _, rfl, gCe, .int k, rfl, c, _, k, k, rfl, rfl, hc, by rw [List.length_map]; exact ixN_nat hk, ?_⟩
          refine ⟨.int cells[k], rfl, .int m, rfl, cells[k], m, rfl, rfl, hm, q _ _ (mod_rng hm).1 (mod_rng hm).2 ⟨cells.set k (cells[k] / m), st, k, ?_, ?_, ?_⟩ Kp.at_c⟩
          · rw [upd_ne ndc]
            exact hd
          · rw [upd_same, set_map]
          · rw [List.length_set]
            exact ⟨hl, n0, n1, st0, st1⟩
        · rintro σ' H' ⟨rfl, rfl⟩
          refine ⟨.int k, rfl, k, 1, rfl, rfl, .ref d, rfl, d, _, rfl, DPut.k (k := Sum.inr "at") hd (by show 3 < sizeLine; decide), ?_⟩
          rw [dkv_putAt]
          exact ⟨_, (k : Int) + 1, rfl, upd_same, by rw [upd_ne (Ne.symm ndc)]; exact hc, by omega, by omega, Kp.at_d⟩
      · exact ⟨_, (k : Int), rfl, hd, hc, n0, n1, Kp.refl⟩
    rintro σ' H2 ⟨y3, n, rfl, hd2, hc2, n20, n21, k2⟩
    have gSe : DGet H2 d (.str "seed") (some (.int st)) := by rw [← dkv_seed c n st]; exact DGet.k (k := Sum.inr "seed") hd2
    refine ⟨fun σ' H' => ∃ S : Int, σ' = [some (.ref d), some (.int m), some (.int k), y3, some (.int S), none] ∧ 0 ≤ S ∧ S < 2147483647 ∧ H' = H2, ?_, ?_⟩
    · exact ⟨.ref d, rfl, d, _, rfl, gSe, st, 48271, rfl, rfl, .inr ⟨by decide, by decide⟩, .int k, rfl, _, _, rfl, rfl, _, 3, rfl, rfl, _, 2147483647, rfl, rfl, show (0 : Int) < 2147483647 by decide, _, rfl, (mod_rng (by decide)).1, (mod_rng (by decide)).2, rfl⟩
    rintro σ' H' ⟨S, rfl, r10, r11, rfl⟩
    refine ⟨_, rfl, .ref d, rfl, d, _, rfl, DPut.k (k := Sum.inr "seed") hd2 (by show 3 < sizeLine; decide), ?_⟩
    rw [dkv_putSeed]
    have hd3 : (upd H' d (.dK (dkv c n S))) d = some (.dK (dkv c n S)) := upd_same
    have hc3 : (upd H' d (.dK (dkv c n S))) c = some (.lst (cells.map V.int)) := by rw [upd_ne (Ne.symm ndc)]; exact hc2
    have k3 : Kp d c H (upd H' d (.dK (dkv c n S))) := k2.trans Kp.at_d
    generalize upd H' d (.dK (dkv c n S)) = H3 at hd3 hc3 k3
    refine ⟨fun σ' H' => ∃ N : Int, σ' = [some (.ref d), some (.int m), some (.int k), y3, some (.int S), some (.int N)] ∧ 0 ≤ N ∧ N < 2147483563 ∧ H' = H3, ?_, ?_⟩
    · refine ⟨.int S, rfl, .int S, rfl, S, 5, rfl, rfl, ⟨by decide, by decide⟩, _, 39373, rfl, rfl, S, _, rfl, rfl, .inl ⟨by omega, by omega⟩, _, 69621, rfl, rfl, _, 2147483563, rfl, rfl, show (0 : Int) < 2147483563 by decide, _, rfl, (mod_rng (by decide)).1, (mod_rng (by decide)).2, rfl⟩
    rintro σ' H4 ⟨N, rfl, N0, N1, rfl⟩
    refine ⟨.int N, rfl, .int N, rfl, N, 7, rfl, rfl, ⟨by decide, by decide⟩, _, 11, rfl, rfl, N, _, rfl, rfl, .inl ⟨by omega, by omega⟩, _, 2147483587, rfl, rfl, show (0 : Int) < 2147483587 by decide, _, 16, rfl, rfl, ⟨by decide, by decide⟩, .int m, rfl, _, m, rfl, rfl, hm, ?_⟩
    exact q _ _ (mod_rng hm).1 (mod_rng hm).2 ⟨cells, S, n, hd3, hc3, hl, n20, n21, r10, r11⟩ k3
def spDeck (K : PySem.W.Frag) : Sp := fun vs H Q _ => ∃ (a : Addr) (ns : List Int), vs = [.ref a] ∧ SqL K H a (ns.map V.int) ∧ ns.length ≤ 63 ∧
  ∀ d c H', Same H H' → H d = none → H c = none → Deck H' d c → Q (.ref d) H'
theorem ok_l_deck {f : Addr} {fd : FuncData} (F : Fun K "_law_deck" "_law_deck" s_l_deck f fd) (M : Free mg) : FnOk P w K mg base CX0 1 f fd ["_law_script"] (spDeck K) := by
  refine F.ok sc_l_deck (fun vs H Q E h => ?_) (fun cdv A outer s H vs Q E hr h => ?_)
  · obtain ⟨a, ns, rfl, _⟩ := h
    rfl
  · obtain ⟨a, ns, rfl, hS, hl, q⟩ := h
    refine ⟨_, (pss_cons (ps_set (i := 1) sc_l_deck.nd rfl (.inl rfl) (pe_callTy call_list_of (by rfl) M.list (by decide +kernel) (pa_cons (pe_slice sl_list (pv 0) po_none (po_some pe_int)) pa_nil)))
      (pss_cons (ps_set (i := 2) sc_l_deck.nd rfl (.inl rfl) pe_int)
      (pss_cons (ps_for PassesOwn.never rfl (pi_list (pv 1)) (pg_name (i := 3) sc_l_deck.nd rfl (.inl rfl))
        (pss_one (ps_set (i := 2) sc_l_deck.nd rfl (.inl rfl) (pe_op op_mod (pe_op op_add (pe_op op_add (pe_op op_mul (pv 2) pe_int) (pe_op op_mod (pv 3) pe_int)) pe_int) pe_int))))
      (pss_one (ps_ret (pe_disp (pps_cons pe_str (pv 1) (pps_cons pe_str pe_int (pps_cons pe_str (pv 2) pps_nil))) (by rfl) (by rfl) (fun z => by cases z) (by decide))))))), ?_⟩
    obtain ⟨ms, em, lm⟩ := cutV_ints ns none (some 63)
    refine ⟨.ref a, rfl, 63, rfl, a, _, rfl, hS, fun p1 n1 => ⟨p1, _, rfl, .inl (SqL.of upd_same), fun p2 n2 => ?_⟩⟩
    rw [em] at n2 ⊢
    have s1 : Same H (upd H p1 (.lst (ms.map V.int))) := same_new n1
    have s2 := s1.trans (same_new (o := .lst (ms.map V.int)) n2)
    have h2 : (upd (upd H p1 (.lst (ms.map V.int))) p2 (.lst (ms.map V.int))) p2 = some (.lst (ms.map V.int)) := upd_same
    have f2 : H p2 = none := s1.free n2
    generalize upd (upd H p1 (.lst (ms.map V.int))) p2 (.lst (ms.map V.int)) = H2 at s2 h2
    refine ⟨.ref p2, rfl, p2, rfl, ⟨_, SqL.of h2⟩, ?_⟩
    refine for_list (xs := ms.map V.int) (fun i σ' H' => ∃ (y3 : Option V) (st : Int), σ' = [some (.ref a), some (.ref p2), some (.int st), y3] ∧ 0 ≤ st ∧ st < 2147483629 ∧ H' = H2) ⟨none, 17, rfl, by decide, by decide, rfl⟩ (fun i σ' H' _ h => by
      obtain ⟨_, _, _, _, _, rfl⟩ := h
      exact SqL.of h2) ?_ ?_
    · rintro i x σ' H' ex ⟨y3, st, rfl, s0, s1', rfl⟩
      rw [List.getElem?_map] at ex
      obtain ⟨e, he, rfl⟩ := Option.map_eq_some_iff.mp ex
      refine ⟨.int st, rfl, st, 69621, rfl, rfl, .inr ⟨by decide, by decide⟩, .int e, rfl, e, 1000000007, rfl, rfl, show (0 : Int) < 1000000007 by decide, _, _, rfl, rfl, _, 5, rfl, rfl, _, 2147483629, rfl, rfl, show (0 : Int) < 2147483629 by decide, _, _, rfl, (mod_rng (by decide)).1, (mod_rng (by decide)).2, rfl⟩
    · rintro σ' H' ⟨y3, st, rfl, s0, s1', rfl⟩
      refine fun D nD => ⟨.ref p2, rfl, .int st, rfl, upd_same, dkv p2 0 st, rfl, by show 3 ≤ 15; decide, ?_⟩
      rw [upd_upd, dkv_new]
      have hs := s2.trans (same_new (o := .dK (dkv p2 0 st)) nD)
      exact q D p2 _ hs (s2.free nD) f2 ⟨ms, st, 0, upd_same, same_new nD _ _ h2, by omega, by omega, by omega, s0, by omega⟩
/-! ### webs -/
structure Tie where
  one : Int
  other : Int
  foe : Bool
def kindS : Bool → Str
  | true => "foe"
  | false => "friend"
def TieV (H : Hp) (v : V) (t : Tie) : Prop := ∃ a, v = .ref a ∧ H a = some (.tup [.int t.one, .int t.other, .str (kindS t.foe)])
def TieOk (n : Int) (t : Tie) : Prop := 0 ≤ t.one ∧ t.one < n ∧ 0 ≤ t.other ∧ t.other < n ∧ t.one ≠ t.other
def WebAt (H : Hp) (v : V) (n : Int) (ts : List Tie) : Prop := ∃ a b vs, v = .ref a ∧ H a = some (.tup [.int n, .ref b]) ∧ H b = some (.tup vs) ∧ Paired (TieV H) vs ts
structure WebOk (n : Int) (ts : List Tie) : Prop where
  lo : 1 ≤ n
  hi : n ≤ 40
  few : ts.length ≤ 120
  ok : ∀ t ∈ ts, TieOk n t
/-- tuples stay -/
def Tk (H H' : Hp) : Prop := ∀ b xs, H b = some (.tup xs) → H' b = some (.tup xs)
theorem Tk.trans {H H1 H2 : Hp} (a : Tk H H1) (b : Tk H1 H2) : Tk H H2 := fun x xs h => b x xs (a x xs h)
theorem Same.tk {H H' : Hp} (s : Same H H') : Tk H H' := fun b xs h => s b _ h
theorem tk_lst {H : Hp} {l : Addr} {xs ys : List V} (h : H l = some (.lst xs)) : Tk H (upd H l (.lst ys)) := fun b zs e => by
  rw [upd_ne (ne_of e h (by intro z; cases z))]
  exact e
theorem TieV.tk {H H' : Hp} (k : Tk H H') {v : V} {t : Tie} (h : TieV H v t) : TieV H' v t := by
  obtain ⟨a, rfl, e⟩ := h
  exact ⟨a, rfl, k _ _ e⟩
theorem ties_tk {H H' : Hp} (k : Tk H H') {vs : List V} {ts : List Tie} (h : Paired (TieV H) vs ts) : Paired (TieV H') vs ts := Paired.mono (fun _ _ x => x.tk k) h
theorem WebAt.tk {H H' : Hp} (k : Tk H H') {v : V} {n : Int} {ts : List Tie} (h : WebAt H v n ts) : WebAt H' v n ts := by
  obtain ⟨a, b, vs, rfl, h1, h2, h3⟩ := h
  exact ⟨a, b, vs, rfl, k _ _ h1, k _ _ h2, ties_tk k h3⟩
theorem Kp.tk {d c : Addr} {H H' : Hp} (k : Kp d c H H') (D : Deck H d c) : Tk H H' := fun b xs e => by
  obtain ⟨cells, st, n, h1, h2, _⟩ := D
  exact k b _ (ne_of e h1 (by intro z; cases z)) (ne_of e h2 (by intro z; cases z)) e
theorem Kp.mut {d c l : Addr} {H H' : Hp} {o : HO} (k : Kp d c H H') (h : H l = none) : Kp d c H (upd H' l o) := fun b u h1 h2 e => by
  rw [upd_ne (ne_of_none e h)]
  exact k b u h1 h2 e
theorem Deck.mut {H : Hp} {d c l : Addr} {o : HO} (D : Deck H d c) (h1 : l ≠ d) (h2 : l ≠ c) : Deck (upd H l o) d c := by
  obtain ⟨cells, st, n, e1, e2, e3⟩ := D
  exact ⟨cells, st, n, by rw [upd_ne (Ne.symm h1)]; exact e1, by rw [upd_ne (Ne.symm h2)]; exact e2, e3⟩
theorem Deck.new {H : Hp} {d c l : Addr} {o : HO} (D : Deck H d c) (h : H l = none) : Deck (upd H l o) d c := D.same (same_new h)
theorem Deck.ned {H : Hp} {d c l : Addr} (D : Deck H d c) (h : H l = none) : l ≠ d ∧ l ≠ c := by
  obtain ⟨cells, st, n, e1, e2, e3⟩ := D
  exact ⟨(ne_of_none e1 h).symm, (ne_of_none e2 h).symm⟩
theorem Paired.at {α β : Type} {F : α → β → Prop} : ∀ {l : List α} {m : List β} {i : Nat} {a : α}, Paired F l m → l[i]? = some a → ∃ b, m[i]? = some b ∧ F a b
  | _, _, _, _, .nil, e => by simp at e
  | _, _, 0, _, .cons r _, e => by simp at e; subst e; exact ⟨_, rfl, r⟩
  | _, _, i + 1, a, .cons _ t, e => by
    obtain ⟨u, h1, h2⟩ := Paired.at (i := i) (a := a) t (by simpa using e)
    exact ⟨u, by simpa using h1, h2⟩
theorem Paired.at' {α β : Type} {F : α → β → Prop} : ∀ {l : List α} {m : List β} {i : Nat} {b : β}, Paired F l m → m[i]? = some b → ∃ a, l[i]? = some a ∧ F a b
  | _, _, _, _, .nil, e => by simp at e
  | _, _, 0, _, .cons r _, e => by simp at e; subst e; exact ⟨_, rfl, r⟩
  | _, _, i + 1, b, .cons _ t, e => by
    obtain ⟨u, h1, h2⟩ := Paired.at' (i := i) (b := b) t (by simpa using e)
    exact ⟨u, by simpa using h1, h2⟩
theorem getI {α : Type} {xs : List α} {i : Int} (h0 : 0 ≤ i) (h1 : i < (xs.length : Int)) : ∃ v, atI xs i = some v ∧ xs[i.toNat]? = some v := by
  obtain ⟨j, rfl⟩ : ∃ j : Nat, i = (j : Int) := ⟨i.toNat, by omega⟩
  have h2 : j < xs.length := by omega
  exact ⟨xs[j], atI_nat (List.getElem?_eq_getElem h2), by rw [Int.toNat_natCast]; exact List.getElem?_eq_getElem h2⟩
theorem other_ne {n a b : Int} (h0 : 0 ≤ a) (h1 : a < n) (g0 : 0 ≤ b) (g1 : b < n - 1) : a ≠ (a + 1 + b) % n := by
  by_cases h : a + 1 + b < n
  · rw [Int.emod_eq_of_lt (by omega) h]
    omega
  · have e : a + 1 + b = (a + 1 + b - n) + 1 * n := by omega
    rw [e, Int.add_mul_emod_self_right, Int.emod_eq_of_lt (by omega) (by omega)]
    omega
theorem pick2 {α : Type} (a b : α) (k : Bool) : atI [a, b] (if k then 1 else 0) = some (if k then b else a) := by
  cases k <;> rfl
def spWeb : Sp := fun vs H Q _ => ∃ (d c : Addr), vs = [.ref d] ∧ Deck H d c ∧
  ∀ v n ts H', WebAt H' v n ts → WebOk n ts → Deck H' d c → Kp d c H H' → Q v H'
end
/-! ### tuples cut and put together -/
section
variable {X : Cx}
theorem cutV_whole {xs : List V} {lo hi : Option Int} (h : HT.sIx xs.length 0 lo = 0 ∧ HT.sIx xs.length xs.length hi = xs.length) : cutV xs lo hi = xs := by
  unfold cutV
  rw [h.1, h.2]
  simp
def rSlU : V → Option Int → Option Int → Hp → VK → Prop := fun x lo hi H Q => ∃ a xs, x = .ref a ∧ H a = some (.tup xs) ∧ ∀ r H', Same H H' → H' r = some (.tup (cutV xs lo hi)) → Q (.ref r) H'
theorem sl_tupU : SlR X rSlU := by
  intro pins s σ H x v vl vu lo hi sl Q I rx hs pl pu h
  obtain ⟨a, xs, rfl, hx, q⟩ := h
  refine sl_tupA pins s σ H _ v vl vu lo hi sl Q I rx hs pl pu ⟨a, xs, rfl, SqT.of hx, fun hw => ?_, fun _ p np => ?_⟩
  · exact q a H (Same.refl H) (by rw [cutV_whole hw]; exact hx)
  · exact q p _ (same_new np) upd_same
def rCatU : R2 := fun x y H Q => ∃ a b xs ys, x = .ref a ∧ y = .ref b ∧ H a = some (.tup xs) ∧ H b = some (.tup ys) ∧ xs.length + ys.length ≤ 100000 ∧ ∀ r H', Same H H' → H' r = some (.tup (xs ++ ys)) → Q (.ref r) H'
theorem op_catU : OpR X (binaryOp .Add) rCatU := by
  intro pins s σ H x y v u Q I rx ry h
  obtain ⟨a, b, xs, ys, rfl, rfl, ha, hb, hz, q⟩ := h
  refine op_catA pins s σ H _ _ v u Q I rx ry ⟨a, b, xs, ys, rfl, rfl, SqT.of ha, SqT.of hb, Evl.sz_of hz, fun e => ?_, fun _ e => ?_, fun _ _ p np => ?_⟩
  · subst e
    exact q b H (Same.refl H) hb
  · subst e
    exact q a H (Same.refl H) (by rw [List.append_nil]; exact ha)
  · exact q p _ (same_new np) upd_same
end
/-! ### things of any kind -/
/-- its kind is known -/
def Kn (H : Hp) : V → Prop
  | .non => True
  | .bl _ => True
  | .int _ => True
  | .str _ => True
  | .ref a => (∃ xs, H a = some (.lst xs)) ∨ (∃ xs, H a = some (.tup xs)) ∨ ∃ kvs, H a = some (.dK kvs)
  | _ => False
def isI : V → Bool
  | .int _ => true
  | .bl _ => true
  | _ => false
def isB : V → Bool
  | .bl _ => true
  | _ => false
def isW : V → Bool
  | .int _ => true
  | _ => false
def isT (H : Hp) : V → Bool
  | .ref a => match H a with
    | some (.tup _) => true
    | _ => false
  | _ => false
section
variable {K : PySem.W.Frag} {H : Hp}
theorem kn_int {v : V} (h : Kn H v) : ∃ t, TyX K H v t ∧ PySem.W.kitOne K t (.type "int") = some (isI v) := by
  cases v with
  | non => exact ⟨_, .base .non, kit_ty (r := false) (by decide +kernel)⟩
  | bl b => exact ⟨_, .base (.bl b), kit_ty (r := true) (by decide +kernel)⟩
  | int i => exact ⟨_, .base (.int i), kit_ty (r := true) (by decide +kernel)⟩
  | str x => exact ⟨_, .base (.str x), kit_ty (r := false) (by decide +kernel)⟩
  | ref a =>
    rcases h with ⟨xs, h⟩ | ⟨xs, h⟩ | ⟨xs, h⟩
    · exact ⟨_, .base (.lst h), kit_ty (r := false) (by decide +kernel)⟩
    · exact ⟨_, .base (.tup h), kit_ty (r := false) (by decide +kernel)⟩
    · exact ⟨_, .base (.dK h), kit_ty (r := false) (by decide +kernel)⟩
  | byt b => exact h.elim
  | flt b => exact h.elim
  | ty n => exact h.elim
theorem kn_bool {v : V} (h : Kn H v) : ∃ t, TyX K H v t ∧ PySem.W.kitOne K t (.type "bool") = some (isB v) := by
  cases v with
  | non => exact ⟨_, .base .non, kit_ty (r := false) (by decide +kernel)⟩
  | bl b => exact ⟨_, .base (.bl b), kit_ty (r := true) (by decide +kernel)⟩
  | int i => exact ⟨_, .base (.int i), kit_ty (r := false) (by decide +kernel)⟩
  | str x => exact ⟨_, .base (.str x), kit_ty (r := false) (by decide +kernel)⟩
  | ref a =>
    rcases h with ⟨xs, h⟩ | ⟨xs, h⟩ | ⟨xs, h⟩
    · exact ⟨_, .base (.lst h), kit_ty (r := false) (by decide +kernel)⟩
    · exact ⟨_, .base (.tup h), kit_ty (r := false) (by decide +kernel)⟩
    · exact ⟨_, .base (.dK h), kit_ty (r := false) (by decide +kernel)⟩
  | byt b => exact h.elim
  | flt b => exact h.elim
  | ty n => exact h.elim
theorem kn_tup {v : V} (h : Kn H v) : ∃ t, TyX K H v t ∧ PySem.W.kitOne K t (.type "tuple") = some (isT H v) := by
  cases v with
  | non => exact ⟨_, .base .non, kit_ty (r := false) (by decide +kernel)⟩
  | bl b => exact ⟨_, .base (.bl b), kit_ty (r := false) (by decide +kernel)⟩
  | int i => exact ⟨_, .base (.int i), kit_ty (r := false) (by decide +kernel)⟩
  | str x => exact ⟨_, .base (.str x), kit_ty (r := false) (by decide +kernel)⟩
  | ref a =>
    unfold isT
    rcases h with ⟨xs, h⟩ | ⟨xs, h⟩ | ⟨xs, h⟩
    · exact ⟨_, .base (.lst h), by simp only [h]; exact kit_ty (r := false) (by decide +kernel)⟩
    · exact ⟨_, .base (.tup h), by simp only [h]; exact kit_ty (r := true) (by decide +kernel)⟩
    · exact ⟨_, .base (.dK h), by simp only [h]; exact kit_ty (r := false) (by decide +kernel)⟩
  | byt b => exact h.elim
  | flt b => exact h.elim
  | ty n => exact h.elim
theorem isT_at {v : V} (h : isT H v = true) : ∃ a xs, v = .ref a ∧ H a = some (.tup xs) := by
  cases v with
  | ref a =>
    unfold isT at h
    cases e : H a with
    | none => simp only [e] at h; cases h
    | some o =>
      cases o with
      | tup xs => exact ⟨a, xs, rfl, e⟩
      | _ => simp only [e] at h; cases h
  | _ => cases h
theorem isT_of {a : Addr} {xs : List V} (h : H a = some (.tup xs)) : isT H (.ref a) = true := by
  unfold isT
  simp only [h]
end
section
variable {P : Program} {w : World} {K : PySem.W.Frag} {mg : Str → Option Value} {base : Heap}
def spWhole : Sp := fun vs H Q _ => ∃ v, vs = [v] ∧ Kn H v ∧ Q (.bl (isW v)) H
theorem and_whole {v : V} : (isI v && !isB v) = isW v := by cases v <;> rfl
theorem ok_is_whole {f : Addr} {fd : FuncData} (F : Fun K "is_whole" "is_whole" s_is_whole f fd) (M : Free mg) : FnOk P w K mg base CX0 1 f fd ["thing"] spWhole := by
  refine F.ok sc_is_whole (fun vs H Q E h => ?_) (fun cdv A outer s H vs Q E hr h => ?_)
  · obtain ⟨v, rfl, _⟩ := h
    rfl
  · obtain ⟨v, rfl, hk, q⟩ := h
    refine ⟨_, (pss_one (ps_ret (pe_and (pe_callB call_isi (by rfl) M.isinstance (by decide +kernel) (pa_cons (pv 0) (pa_cons (pe_bltn (v := .ty "int") (by rfl) M.int (by decide +kernel) rfl) pa_nil))) (pe_one (pe_not (pe_callB call_isi (by rfl) M.isinstance (by decide +kernel) (pa_cons (pv 0) (pa_cons (pe_bltn (v := .ty "bool") (by rfl) M.bool (by decide +kernel) rfl) pa_nil)))))))), ?_⟩
    obtain ⟨t1, h1, e1⟩ := kn_int (K := K) hk
    obtain ⟨t2, h2, e2⟩ := kn_bool (K := K) hk
    refine ⟨v, rfl, v, _, t1, _, _, rfl, .ty "int", h1, e1, _, rfl, ?_⟩
    rw [← and_whole] at q
    cases hi : isI v with
    | false =>
      rw [hi] at q
      exact q
    | true =>
      rw [hi] at q
      exact ⟨v, rfl, v, _, t2, _, _, rfl, .ty "bool", h2, e2, _, rfl, q⟩
def wfrom (lo : Int) : V → Bool
  | .int i => decide (lo ≤ i)
  | _ => false
def parts (H : Hp) : V → Option (List V)
  | .ref a => match H a with
    | some (.tup xs) => some xs
    | _ => none
  | _ => none
theorem parts_of' {H : Hp} {a : Addr} {xs : List V} (h : H a = some (.tup xs)) : parts H (.ref a) = some xs := by
  unfold parts
  simp only [h]
theorem parts_none {H : Hp} {v : V} (h : isT H v = false) : parts H v = none := by
  cases v with
  | ref a =>
    unfold isT at h
    unfold parts
    cases e : H a with
    | none => simp only [e]
    | some o =>
      cases o with
      | tup xs => simp only [e] at h; cases h
      | _ => simp only [e]
  | _ => rfl
def lenIs (H : Hp) (v : V) (n : Int) : Bool := match parts H v with
  | some xs => decide ((xs.length : Int) = n)
  | none => false
theorem dec_int (a b : Int) : decide (V.int a = V.int b) = decide (a = b) := by
  by_cases h : a = b
  · rw [decide_eq_true h, h, decide_eq_true rfl]
  · rw [decide_eq_false h, decide_eq_false (fun z => h (V.int.inj z))]
/-! ### a def whose code object stands at c: its own table is at Pt -/
structure FunC (K : PySem.W.Frag) (x qual : Str) (st : Stmt) (f : Addr) (fd : FuncData) (c : Addr) : Prop where
  ex : ∃ (oc : Value) (od : Option Addr) (kV doc pm : Value) (an : Option Addr) (ct : Value) (osl : Array (Option Value)),
    fd = PySem.W.fnOf x qual (defArgs st) (defBody st) (defScope st) .none kV doc pm an (.ref c) ct ∧ K.lookup f = some ⟨oc, od, .func fd, osl⟩ ∧ PySem.W.codeIn K (.ref c) qual = true
  kp : PySem.W.keepIn K (.ref f) = true
theorem FunC.ok {x qual : Str} {st : Stmt} {f c : Addr} {fd : FuncData} {N ps : List Str} {k : Nat} {sp : Sp} (F : FunC K x qual st f fd c) (S : FnScope N ps (defScope st)) (len : ∀ vs H Q E, sp vs H Q E → vs.length = ps.length)
    (hbody : ∀ (A : Around) (outer : List Env) (s : Shared) (H : Hp) (vs : List V) (Q : VK) (E : XK), Room k (A.deeper (envOfC qual (defScope st) s.heap.objs.size f (.ref c))) → sp vs H Q E →
      ∃ t, PSs (cxOf CX0 P w K mg base N qual (defScope st) f (.ref c) A outer s H E).nox (defBody st) t ∧ t { nx := fun _ H' => Q .non H', rt := Q } (start N vs) H) : FnOk P w K mg base CX0 (k + 1) f fd ps sp := by
  obtain ⟨oc, od, kV, doc, pm, an, ct, osl, rfl, lk, hcd⟩ := F.ex
  refine fn_of lk hcd S len fun A outer s H vs Q E hr hsp => ?_
  obtain ⟨t, h, q⟩ := hbody A outer s H vs Q E hr hsp
  exact ⟨t, h.nox, q⟩
theorem FunC.fn {x qual : Str} {st : Stmt} {f c : Addr} {fd : FuncData} (F : FunC K x qual st f fd c) : Fun K x qual st f fd := by
  obtain ⟨oc, od, kV, doc, pm, an, ct, osl, rfl, lk, hcd⟩ := F.ex
  exact ⟨⟨oc, od, kV, doc, pm, an, _, ct, osl, rfl, lk, hcd⟩, F.kp⟩
theorem parts_at {H : Hp} {v : V} {xs : List V} (h : parts H v = some xs) : ∃ a, v = .ref a ∧ H a = some (.tup xs) := by
  cases v with
  | ref a =>
    unfold parts at h
    cases e : H a with
    | none => simp only [e] at h; cases h
    | some o =>
      cases o with
      | tup ys => simp only [e] at h; cases h; exact ⟨a, rfl, e⟩
      | _ => simp only [e] at h; cases h
  | _ => cases h
end
/-! ### all but the tables is kept -/
structure Kt (Ps : List Addr) (H H' : Hp) : Prop where
  tab : ∀ P ∈ Ps, GxR.TabG H' P
  keep : ∀ b o, b ∉ Ps → H b = some o → H' b = some o
def Tabs (Ps : List Addr) (H : Hp) : Prop := ∀ P ∈ Ps, GxR.TabG H P
theorem Kt.refl {Ps : List Addr} {H : Hp} (h : Tabs Ps H) : Kt Ps H H := ⟨h, fun _ _ _ e => e⟩
theorem Kt.trans {Ps : List Addr} {H H1 H2 : Hp} (a : Kt Ps H H1) (b : Kt Ps H1 H2) : Kt Ps H H2 := ⟨b.tab, fun x o h e => b.keep x o h (a.keep x o h e)⟩
theorem Kt.same {Ps : List Addr} {H H' : Hp} (h : Tabs Ps H) (s : Same H H') : Kt Ps H H' := ⟨fun P hP => by obtain ⟨ps, e, t⟩ := h P hP; exact ⟨ps, s _ _ e, t⟩, fun b o _ e => s b o e⟩
theorem Kt.tabbed {Ps : List Addr} {P : Addr} {H H' : Hp} (h : Tabs Ps H) (hP : P ∈ Ps) (t : GxR.Tabbed P H H') : Kt Ps H H' := by
  refine ⟨fun Q hQ => ?_, fun b o hb e => ?_⟩
  · by_cases e : Q = P
    · rw [e]
      exact t.1
    · obtain ⟨ps, e1, t1⟩ := h Q hQ
      exact ⟨ps, by rw [t.2 Q e]; exact e1, t1⟩
  · rw [t.2 b (fun z => hb (by rw [z]; exact hP))]
    exact e
theorem Tabs.out {Ps : List Addr} {H : Hp} {a : Addr} {o : HO} (t : Tabs Ps H) (h : H a = some o) (no : ∀ ps, o ≠ .tbl ps) : a ∉ Ps := fun z => by
  obtain ⟨ps, e, _⟩ := t a z
  rw [e] at h
  cases h
  exact no _ rfl
theorem Kt.tup {Ps : List Addr} {a : Addr} {H H' : Hp} {xs : List V} (k : Kt Ps H H') (t : Tabs Ps H) (h : H a = some (.tup xs)) : H' a = some (.tup xs) := k.keep a _ (t.out h fun _ z => by cases z) h
theorem Kt.lst {Ps : List Addr} {a : Addr} {H H' : Hp} {xs : List V} (k : Kt Ps H H') (t : Tabs Ps H) (h : H a = some (.lst xs)) : H' a = some (.lst xs) := k.keep a _ (t.out h fun _ z => by cases z) h
theorem Kt.dct {Ps : List Addr} {a : Addr} {H H' : Hp} {xs : List (Key × V)} (k : Kt Ps H H') (t : Tabs Ps H) (h : H a = some (.dK xs)) : H' a = some (.dK xs) := k.keep a _ (t.out h fun _ z => by cases z) h
theorem Kt.tk {Ps : List Addr} {H H' : Hp} (k : Kt Ps H H') (t : Tabs Ps H) : Tk H H' := fun _ _ e => k.tup t e
theorem Kt.kn {Ps : List Addr} {H H' : Hp} (k : Kt Ps H H') (t : Tabs Ps H) {v : V} (h : Kn H v) : Kn H' v := by
  cases v with
  | ref a =>
    rcases h with ⟨xs, h⟩ | ⟨xs, h⟩ | ⟨xs, h⟩
    · exact .inl ⟨xs, k.lst t h⟩
    · exact .inr (.inl ⟨xs, k.tup t h⟩)
    · exact .inr (.inr ⟨xs, k.dct t h⟩)
  | _ => exact h
theorem Kt.deck {Ps : List Addr} {d c : Addr} {H H' : Hp} (k : Kt Ps H H') (t : Tabs Ps H) (D : Deck H d c) : Deck H' d c := by
  obtain ⟨cells, st, n, e1, e2, e3⟩ := D
  exact ⟨cells, st, n, k.dct t e1, k.lst t e2, e3⟩
/-! ### x in t of data of any depth -/
def rInT (K : PySem.W.Frag) : R2 := fun x y H Q => ∃ d ds, Dp K H x d ∧ Dp K H y (.tuple ds) ∧ SeqAt.shaped d = true ∧ SeqAt.shaped (.tuple ds) = true ∧ Q (.bl (ds.any fun z => PyData.eqv z d)) H
theorem op_inTup {X : Cx} (hu : X.A.units + 65 < cLine) : OpR X (compareOp .In) (rInT X.K) := by
  intro pins s σ H x y v u Q I rx ry want
  obtain ⟨d, ds, hd, he, sd, se, q⟩ := want
  obtain ⟨as, r1⟩ := Dp.reads I d x v hd rx
  obtain ⟨bs, r2⟩ := Dp.reads I (.tuple ds) y u he ry
  have lay : PyData.canLayAll0 ds = true := by
    have z := SeqAt.canLay_of_shaped se
    rw [PyData.canLay0] at z
    exact z
  have deep := SeqAt.depth_of_shaped sd
  exact SeqAt.in_tuple_reads r2 r1 lay (SeqAt.canLay_of_shaped sd) (by omega) ⟨.bl _, H, I, rfl, q⟩
/-! ### enumerate of a tuple -/
set_option maxHeartbeats 1000000 in
theorem meets_enumOne {v : Value} {o : Obj} {S : Heap → Prop} (B : Begins v o S) : Meets (Builtin.«enumerate.__new__» ⟨[.type "enumerate", v], []⟩) (fun _ R s => S s.heap ∧
      R (.ok (.ret (.ref (s.heap.push o).objs.size))) { s with heap := (s.heap.push o).push { cls := .type "enumerate", data := .fields #[.none, .bool false, .ref s.heap.objs.size, rawInt 0, .none, .none] } }) :=
  .of_wp fun prog w A R s h => by
    obtain ⟨hp, g, d, tk, os⟩ := s
    obtain ⟨h1, h⟩ := h
    have sub0 := sub_enumerate
    have begun : ∀ {A' : PySem.Around} {E : Value → Shared → Prop} {Q : Value → Shared → Prop}, Q (.ref hp.objs.size) ⟨hp.push o, g, d, tk, os⟩ → wpAny (model prog w) A' (pyIter v) Q E ⟨hp, g, d, tk, os⟩ := fun q => B.iter prog w _ _ ⟨hp, g, d, tk, os⟩ _ h1 q
    wp_walk using begun
    refine wpAny_stack_any fun st => wpAny_pure ?_
    split
    · rename_i c _ _ _ _ _
      cases (c == Value.type "enumerate")
      all_goals
        wp_walk using begun
        exact ⟨_, rfl, h⟩
    · wp_walk using begun
      exact ⟨_, rfl, h⟩
theorem call_enumT {P : Program} {w : World} {A : PySem.Around} {E : Value → Shared → Prop} {s : Shared} {t : Addr} {items : Array Value} {Q : Value → Shared → Prop} (ht : s.heap.IsTuple t items)
    (h : ∀ h', IsEnum h' (s.heap.objs.size + 1) s.heap.objs.size 0 .none → h'.IsTupleIter s.heap.objs.size t 0 → (∀ b o, s.heap.get? b = some o → h'.get? b = some o) → Q (.ref (s.heap.objs.size + 1)) { s with heap := h' }) : wpAny (model P w) A (call (.type "enumerate") [.ref t]) Q E s := by
  refine callType_new PySem.F.called_enumerate (by decide) (PySem.F.typeCall_enumerate_1 _) (PySem.F.newCall_enumerate_1 _) (fun ob => PySem.F.args_object_init_2 ob _) PySem.F.entry_enumerate_new (meets_enumOne (begins_tuple t items)) ⟨ht, ?_⟩
  have size1 := Heap.size_push s.heap { cls := .type "tuple_iterator", data := .fields #[.ref t, .int 0 0] }
  have en := Heap.get?_push_size (s.heap.push { cls := .type "tuple_iterator", data := .fields #[.ref t, .int 0 0] }) (o := { cls := .type "enumerate", data := .fields #[.none, .bool false, .ref s.heap.objs.size, rawInt 0, .none, .none] }) rfl
  rw [size1] at en
  show _ ∧ _
  rw [size1]
  exact ⟨⟨_, en, rfl⟩, h _ en ⟨_, Heap.get?_push_of_some _ (Heap.get?_push_size _ rfl), rfl, rfl⟩ fun b o e => Heap.get?_push_of_some _ (Heap.get?_push_of_some _ e)⟩
/-- the turns: a new pair each, of the number and the part -/
def ItN (K : PySem.W.Frag) (a : Addr) : It where
  go := fun i H => ∃ (xs : List V) (x : V), SqT K H a xs ∧ xs[i]? = some x
  yld := fun i H v H' => ∃ T x, v = .ref T ∧ H T = none ∧ H' = upd H T (.tup [.int (i : Nat), x]) ∧ ∀ xs, SqT K H a xs → xs[i]? = some x
  stop := fun i H => ∃ xs : List V, SqT K H a xs ∧ xs.length ≤ i
theorem turn_enumT {P : Program} {w : World} {K : PySem.W.Frag} {elts : List Expr} {kk : Nat} {tpos : Pos} (a e it : Addr) (n1 : e ≠ it) (n2 : a ≠ it) (n3 : e ≠ a) :
    Turn P w K (.Tuple elts kk tpos) (ItN K a) [e, it] e (fun i h => (∃ old, IsEnum h e it ((i : Nat) : Int) old) ∧ h.IsTupleIter it a i) where
  mem := List.mem_cons_self
  obj := by
    rintro i h ⟨⟨old, he⟩, o, ho, hc, hd⟩ b hb
    rcases List.mem_cons.mp hb with rfl | hb
    · exact ⟨_, he, fun v q => nomatch q⟩
    · rw [List.mem_singleton.mp hb]
      exact ⟨o, ho, fun v q => by rw [hd] at q; cases q⟩
  keep := by
    rintro i h h' ⟨⟨old, he⟩, hit⟩ kp
    exact ⟨⟨old, kp e (by simp) _ he⟩, hit.at fun o q => kp it (by simp) o q⟩
  item := by
    intro X hP hw hK hc i pins s σ H E I hf st hg
    subst hP hw hK
    obtain ⟨⟨old, he⟩, hit⟩ := st
    obtain ⟨xs, x, hq, hx⟩ := hg
    obtain ⟨its, rv, tup, _⟩ := I.tuple hq
    obtain ⟨u, hu, ru⟩ := rv.get hx
    have le := Heap.lt_size he
    have li : it < s.heap.objs.size := let ⟨_, q, _⟩ := hit; Heap.lt_size q
    have lt : i < its.toArray.size := by simpa using (List.getElem?_eq_some_iff.mp hu).1
    refine wpAny_pyNext_enum_itemD (Draws.tuple (A := X.A.in1) (I.ok.hd hc) it a n2 its.toArray) he ⟨hit, tup⟩ lt n1 (by simp [n1, n3]) fun x' h' tk ex out st' new _ kp => ?_
    obtain rfl : u = x' := Option.some.inj (((by simpa using hu) : its.toArray[i]? = some u).symm.trans ex)
    refine ⟨_, rfl, wpAny_letOwnedTupleGo_enum (s := { s with heap := h', toks := tk + 1 }) out fun h2 he2 sb => ?_⟩
    have new2 : h2.get? s.heap.objs.size = some { cls := .type "tuple", data := .seq #[.int i tk, u] } := (sb.2 _ (Nat.ne_of_gt le)).trans new
    have objT : ObjOk X.prog X.w (upd H s.heap.objs.size (.tup [.int (i : Nat), x])) h2 s.heap.objs.size (.tup [.int (i : Nat), x]) := ⟨by show 2 ≤ sizeLine; decide, [.int i tk, u], .cons ⟨_, rfl⟩ (.cons ru .nil), ⟨_, new2, rfl, _, rfl⟩⟩
    have J : Inv X pins σ (upd H s.heap.objs.size (.tup [.int (i : Nat), x])) { s with heap := h2, toks := tk + 1 } := I.turnedNew (ch := [e, it]) (fun b ob hb q => by
      simp only [List.mem_cons, List.not_mem_nil, or_false, not_or] at hb
      exact (sb.2 b hb.1).trans (kp b ob hb.1 hb.2 q)) hf (Nat.le_refl _) objT
    refine ⟨.ref s.heap.objs.size, _, J, rfl, ⟨_, x, rfl, I.hok.fresh (Nat.le_refl _), rfl, fun ys hy => by rw [I.tuple_inj hy hq]; exact hx⟩, ⟨⟨u, ?_⟩, st'.1.at fun o q => (sb.2 it (Ne.symm n1)).trans q⟩, fun b hb => ?_⟩
    · rw [show ((i + 1 : Nat) : Int) = (i : Int) + 1 from by omega]
      exact he2
    · have lb : b < s.heap.objs.size := by
        rcases List.mem_cons.mp hb with rfl | hb
        · exact le
        · rw [List.mem_singleton.mp hb]
          exact li
      rw [upd_ne (Nat.ne_of_lt lb)]
      exact (hf b hb).1
  done := by
    intro X hP hw hK hc i pins s σ H E I hf st hg
    subst hP hw hK
    obtain ⟨⟨old, he⟩, hit⟩ := st
    obtain ⟨xs, hq, hx⟩ := hg
    obtain ⟨its, rv, tup, _⟩ := I.tuple hq
    have hl := rv.length
    obtain ⟨f0, f1, f2, f3, f4, f5⟩ := hf it (by simp)
    have D : Draws X.prog X.w X.A.in1 it [it, a] i (fun _ _ => False) (fun j h => j = i ∧ h.IsTupleIter it a i ∧ h.IsTuple a its.toArray) := {
      live := fun j h z => let ⟨_, ⟨o, q, _⟩, _⟩ := z; ⟨o, q⟩
      frame := fun j h h' z kp => ⟨z.1, z.2.1.at fun o q => kp it (by simp) o q, z.2.2.at fun o q => kp a (by simp) o q⟩
      item := fun j s' Q E' hj z => absurd z.1 (Nat.ne_of_lt hj)
      done := fun s' Q E' z fin => wpAny_nextOf_tuple_end (I.ok.hd hc) z.2.1 z.2.2 (by simp; omega) fin }
    exact wpAny_pyNext_enum_endD D he ⟨rfl, hit, tup⟩ fun h' eb => ⟨rfl, I.turned (t' := s.toks) (fun b o hb q => eb b o hb q) f0 f1 f3 f4 f5⟩
  self := fun A i s Q E st h => let ⟨⟨_, he⟩, _⟩ := st; wpAny_pyIter_enum he h
def iEnT (K : PySem.W.Frag) (ta : TA) : TI := fun σ H R => ta σ H fun vs H1 => ∃ a xs, vs = [.ref a] ∧ SqT K H1 a xs ∧ R (ItN K a) H1
theorem pi_enumT {X : Cx} {e : Expr} {ta : TA} {p pos tpos : Pos} {elts : List Expr} {kk : Nat} (hg : Gl X "enumerate") (hm : X.mg "enumerate" = none) (ha : PA X [e] ta) (hs : starEach [e] X.env = [(false, eval e X.env)] := by rfl) :
    PI X (.Tuple elts kk tpos) (.Call (.Name "enumerate" p) [e] [] pos) (iEnT X.K ta) := by
  refine ⟨fun pins s σ H R I want => Call_ (ld_blt I hg hm boot_enumerate (PyProof.Rows.callWith_type1 (thn (ha.run pos pins s σ H _ I want) fun us s1 got => ?_) hs rfl))⟩
  obtain ⟨vs, H1, J, rel, a, xs, ex, hq, q⟩ := got
  subst ex
  obtain ⟨u, eu, r1⟩ := vals1 rel
  subst eu
  obtain rfl : u = Value.ref a := r1
  obtain ⟨its, rv, tup, _⟩ := J.tuple hq
  have la : a < s1.heap.objs.size := let ⟨_, q, _⟩ := tup; Heap.lt_size q
  refine call_enumT (items := its.toArray) tup fun h' he hit kp => wpAny_pyIter_enum he ?_
  have J2 : Inv X pins σ H1 { s1 with heap := h' } := J.kept (t' := s1.toks) kp
  refine ⟨s1.heap.objs.size + 1, [s1.heap.objs.size + 1, s1.heap.objs.size], _, _, H1, rfl, J2, turn_enumT a (s1.heap.objs.size + 1) s1.heap.objs.size (Nat.succ_ne_self _) (Nat.ne_of_lt la) (Nat.ne_of_gt (Nat.lt_succ_of_lt la)), ⟨⟨.none, he⟩, hit⟩, fun b hb => ?_, q⟩
  have lb : s1.heap.objs.size ≤ b := by
    rcases List.mem_cons.mp hb with rfl | hb
    · exact Nat.le_succ _
    · rw [List.mem_singleton.mp hb]
      exact Nat.le_refl _
  exact J.fpOk lb (J.hok.fresh lb)
theorem walk_enumT {K : PySem.W.Frag} {a : Addr} {xs : List V} : Walk (ItN K a) xs.length (fun H => SqT K H a xs) (YPair (fun i => some (.int (i : Nat))) (fun i => xs[i]?)) :=
  ⟨fun i H hi h => ⟨xs, xs[i], h, List.getElem?_eq_getElem hi⟩, fun H h => ⟨xs, h, Nat.le_refl _⟩, fun i H x H' hi h y => by
    obtain ⟨T, z, e1, e2, e3, e4⟩ := y
    exact ⟨T, _, z, e1, e2, e3, rfl, e4 xs h⟩⟩
/-! ### ties, walks, parts: the mathematics -/
def Adj (ts : List Tie) (a b : Int) (foe : Bool) : Prop := ∃ t ∈ ts, t.foe = foe ∧ ((t.one = a ∧ t.other = b) ∨ (t.one = b ∧ t.other = a))
theorem Adj.symm {ts : List Tie} {a b : Int} {k : Bool} (h : Adj ts a b k) : Adj ts b a k := by
  obtain ⟨t, ht, e, h⟩ := h
  exact ⟨t, ht, e, h.symm⟩
/-- a walk with so many foes, even or odd -/
inductive RP (ts : List Tie) (a : Int) : Int → Bool → Prop
  | nil : RP ts a a false
  | step {b c : Int} {p k : Bool} : RP ts a b p → Adj ts b c k → RP ts a c (p ^^ k)
def Rch (ts : List Tie) (a b : Int) : Prop := ∃ p, RP ts a b p
theorem RP.trans {ts : List Tie} {a b c : Int} {p q : Bool} (h : RP ts a b p) (g : RP ts b c q) : RP ts a c (p ^^ q) := by
  induction g with
  | nil =>
    rw [Bool.xor_false]
    exact h
  | step _ k ih =>
    rw [← Bool.xor_assoc]
    exact ih.step k
theorem RP.one {ts : List Tie} {a b : Int} {k : Bool} (h : Adj ts a b k) : RP ts a b k := by
  have q := RP.nil.step h
  rw [Bool.false_xor] at q
  exact q
theorem RP.symm {ts : List Tie} {a b : Int} {p : Bool} (h : RP ts a b p) : RP ts b a p := by
  induction h with
  | nil => exact .nil
  | step _ k ih =>
    have q := (RP.one k.symm).trans ih
    rw [Bool.xor_comm] at q
    exact q
theorem Rch.refl {ts : List Tie} {a : Int} : Rch ts a a := ⟨_, .nil⟩
theorem Rch.symm {ts : List Tie} {a b : Int} (h : Rch ts a b) : Rch ts b a := by
  obtain ⟨p, h⟩ := h
  exact ⟨p, h.symm⟩
theorem Rch.trans {ts : List Tie} {a b c : Int} (h : Rch ts a b) (g : Rch ts b c) : Rch ts a c := by
  obtain ⟨p, h⟩ := h
  obtain ⟨q, g⟩ := g
  exact ⟨_, h.trans g⟩
theorem Rch.adj {ts : List Tie} {a b : Int} {k : Bool} (h : Adj ts a b k) : Rch ts a b := ⟨_, RP.one h⟩
theorem Rch.ind {ts : List Tie} {a b : Int} (C : Int → Prop) (h : Rch ts a b) (h0 : C a) (hs : ∀ x y k, C x → Adj ts x y k → C y) : C b := by
  obtain ⟨p, h⟩ := h
  induction h with
  | nil => exact h0
  | step _ k ih => exact hs _ _ _ ih k
theorem Adj.rng {ts : List Tie} {n a b : Int} {k : Bool} (ok : ∀ t ∈ ts, TieOk n t) (h : Adj ts a b k) : 0 ≤ b ∧ b < n := by
  obtain ⟨t, ht, _, h⟩ := h
  obtain ⟨h1, h2, h3, h4, _⟩ := ok t ht
  rcases h with ⟨e1, e2⟩ | ⟨e1, e2⟩
  · omega
  · omega
theorem Rch.rng {ts : List Tie} {n a b : Int} (ok : ∀ t ∈ ts, TieOk n t) (ha : 0 ≤ a ∧ a < n) (h : Rch ts a b) : 0 ≤ b ∧ b < n := h.ind (fun x => 0 ≤ x ∧ x < n) ha fun _ _ _ _ k => k.rng ok
def leader (ts : List Tie) (s : Int) : Prop := ∀ q, Rch ts s q → s ≤ q
/-- rising lists of the same numbers are one -/
theorem rising_ext : ∀ {xs ys : List Int}, xs.Pairwise (· < ·) → ys.Pairwise (· < ·) → (∀ z, z ∈ xs ↔ z ∈ ys) → xs = ys
  | [], [], _, _, _ => rfl
  | [], y :: ys, _, _, h => by have := (h y).mpr (by simp); simp at this
  | x :: xs, [], _, _, h => by have := (h x).mp (by simp); simp at this
  | x :: xs, y :: ys, hx, hy, h => by
    rw [List.pairwise_cons] at hx hy
    have e : x = y := by
      have h1 := (h x).mp (by simp)
      have h2 := (h y).mpr (by simp)
      rcases List.mem_cons.mp h1 with e | e
      · exact e
      · rcases List.mem_cons.mp h2 with e' | e'
        · exact e'.symm
        · have := hx.1 y e'
          have := hy.1 x e
          omega
    subst e
    rw [rising_ext hx.2 hy.2 fun z => ?_]
    constructor
    · intro hz
      rcases List.mem_cons.mp ((h z).mp (List.mem_cons_of_mem _ hz)) with e | e
      · have := hx.1 z hz
        omega
      · exact e
    · intro hz
      rcases List.mem_cons.mp ((h z).mpr (List.mem_cons_of_mem _ hz)) with e | e
      · have := hy.1 z hz
        omega
      · exact e
/-- 0, 1, .., n - 1 -/
def rng (n : Nat) : List Int := (List.range n).map fun (i : Nat) => (i : Int)
theorem mem_rng {n : Nat} {z : Int} : z ∈ rng n ↔ 0 ≤ z ∧ z < n := by
  unfold rng
  rw [List.mem_map]
  constructor
  · rintro ⟨i, hi, rfl⟩
    have := List.mem_range.mp hi
    omega
  · rintro ⟨h1, h2⟩
    exact ⟨z.toNat, List.mem_range.mpr (by omega), by omega⟩
theorem rng_rising (n : Nat) : (rng n).Pairwise (· < ·) := by
  unfold rng
  rw [List.pairwise_map]
  exact List.pairwise_lt_range.imp (by intro a b h; omega)
theorem rng_succ (n : Nat) : rng (n + 1) = rng n ++ [(n : Int)] := by
  unfold rng
  rw [List.range_succ, List.map_append]
  rfl
theorem rng_length (n : Nat) : (rng n).length = n := by
  unfold rng
  rw [List.length_map, List.length_range]
open Classical in
/-- the part of s -/
noncomputable def partOf (ts : List Tie) (n : Nat) (s : Int) : List Int := (rng n).filter fun p => decide (Rch ts s p)
open Classical in
/-- the parts by their first places, below i -/
noncomputable def partsTo (ts : List Tie) (n i : Nat) : List (List Int) := ((rng i).filter fun s => decide (leader ts s)).map (partOf ts n)
open Classical in
theorem partsTo_succ (ts : List Tie) (n i : Nat) : partsTo ts n (i + 1) = partsTo ts n i ++ (if leader ts i then [partOf ts n i] else []) := by
  unfold partsTo
  rw [rng_succ, List.filter_append, List.map_append]
  congr 1
  by_cases h : leader ts (i : Int)
  · rw [if_pos h, List.filter_cons, if_pos (decide_eq_true h)]
    rfl
  · rw [if_neg h, List.filter_cons, if_neg (by simpa using h)]
    rfl
theorem part_rising (ts : List Tie) (n : Nat) (s : Int) : (partOf ts n s).Pairwise (· < ·) := (rng_rising n).filter _
theorem mem_part {ts : List Tie} {n : Nat} {s z : Int} : z ∈ partOf ts n s ↔ (0 ≤ z ∧ z < n) ∧ Rch ts s z := by
  unfold partOf
  rw [List.mem_filter, mem_rng]
  simp
/-! ### the least place that each comes to, gone over again and again -/
def relax (f : Int → Int) (t : Tie) : Int → Int := fun x => if x = t.one ∨ x = t.other then min (f t.one) (f t.other) else f x
def rounds (ts : List Tie) : Nat → Int → Int
  | 0 => fun x => x
  | r + 1 => ts.foldl relax (rounds ts r)
theorem relax_le (f : Int → Int) (t : Tie) (x : Int) : relax f t x ≤ f x := by
  unfold relax
  split
  · rename_i h
    rcases h with rfl | rfl <;> omega
  · exact Int.le_refl _
theorem fold_le : ∀ (l : List Tie) (f : Int → Int) (x : Int), l.foldl relax f x ≤ f x
  | [], _, _ => Int.le_refl _
  | t :: l, f, x => Int.le_trans (fold_le l (relax f t) x) (relax_le f t x)
theorem fold_tie : ∀ (l : List Tie) (f : Int → Int) (t : Tie), t ∈ l → l.foldl relax f t.one ≤ min (f t.one) (f t.other) ∧ l.foldl relax f t.other ≤ min (f t.one) (f t.other)
  | t' :: l, f, t, h => by
    rcases List.mem_cons.mp h with e | e
    · subst e
      have h1 := fold_le l (relax f t) t.one
      have h2 := fold_le l (relax f t) t.other
      have e1 : relax f t t.one = min (f t.one) (f t.other) := by unfold relax; rw [if_pos (.inl rfl)]
      have e2 : relax f t t.other = min (f t.one) (f t.other) := by unfold relax; rw [if_pos (.inr rfl)]
      rw [e1] at h1
      rw [e2] at h2
      exact ⟨h1, h2⟩
    · have ih := fold_tie l (relax f t') t e
      have h1 := relax_le f t' t.one
      have h2 := relax_le f t' t.other
      exact ⟨Int.le_trans ih.1 (by omega), Int.le_trans ih.2 (by omega)⟩
theorem fold_rch {ts : List Tie} : ∀ (l : List Tie) (f : Int → Int), (∀ t ∈ l, t ∈ ts) → (∀ x, Rch ts x (f x)) → ∀ x, Rch ts x (l.foldl relax f x)
  | [], _, _, h => h
  | t :: l, f, hl, h => fold_rch l (relax f t) (fun t' ht => hl t' (List.mem_cons_of_mem _ ht)) fun x => by
    have ad : Rch ts t.one t.other := Rch.adj (k := t.foe) ⟨t, hl t (by simp), rfl, .inl ⟨rfl, rfl⟩⟩
    unfold relax
    split
    · rename_i hx
      have key : Rch ts x t.one ∧ Rch ts x t.other := by
        rcases hx with e | e <;> subst e
        · exact ⟨Rch.refl, ad⟩
        · exact ⟨ad.symm, Rch.refl⟩
      rcases Int.le_total (f t.one) (f t.other) with q | q
      · rw [Int.min_eq_left q]
        exact key.1.trans (h _)
      · rw [Int.min_eq_right q]
        exact key.2.trans (h _)
    · exact h x
theorem rounds_rch (ts : List Tie) : ∀ (r : Nat) (x : Int), Rch ts x (rounds ts r x)
  | 0, _ => Rch.refl
  | r + 1, x => fold_rch ts _ (fun _ h => h) (rounds_rch ts r) x
theorem filter_lt {p q : Int → Bool} : ∀ {l : List Int}, (∀ x ∈ l, q x = true → p x = true) → (∃ x ∈ l, p x = true ∧ q x = false) → (l.filter q).length < (l.filter p).length
  | [], _, ⟨x, hx, _⟩ => by simp at hx
  | y :: l, hi, ⟨x, hx, hp, hq⟩ => by
    have mono : (l.filter q).length ≤ (l.filter p).length := by
      have hi' : ∀ x ∈ l, q x = true → p x = true := fun x h => hi x (List.mem_cons_of_mem _ h)
      clear hi hx hp hq
      induction l with
      | nil => exact Nat.le_refl _
      | cons z l ih =>
        have ih := ih fun x h => hi' x (List.mem_cons_of_mem _ h)
        rw [List.filter_cons, List.filter_cons]
        have hz := hi' z (by simp)
        cases h1 : q z <;> cases h2 : p z <;> simp_all <;> omega
    rw [List.filter_cons, List.filter_cons]
    rcases List.mem_cons.mp hx with e | e
    · subst e
      rw [hq, hp]
      simp
      omega
    · have ih := filter_lt (l := l) (fun x h => hi x (List.mem_cons_of_mem _ h)) ⟨x, e, hp, hq⟩
      have hy := hi y (by simp)
      cases h1 : q y <;> cases h2 : p y <;> simp_all <;> omega
open Classical in
/-- behind as many rounds as there are places each has its part's least place -/
theorem rounds_least {ts : List Tie} {n : Nat} (ok : ∀ t ∈ ts, TieOk n t) {m p : Int} (hm : leader ts m) (h0 : 0 ≤ m ∧ m < n) (hp : Rch ts m p) : rounds ts n p = m := by
  have ge : ∀ r x, Rch ts m x → m ≤ rounds ts r x := fun r x hx => hm _ (hx.trans (rounds_rch ts r x))
  have mono : ∀ r x, rounds ts (r + 1) x ≤ rounds ts r x := fun r x => fold_le ts _ x
  have atm : ∀ r, rounds ts r m = m := fun r => by
    have h1 := ge r m Rch.refl
    have h2 : rounds ts r m ≤ m := by
      induction r with
      | zero => exact Int.le_refl _
      | succ r ih => exact Int.le_trans (mono r m) (ih (ge r m Rch.refl))
    omega
  have cnt : ∀ r, ((rng n).filter fun x => decide (Rch ts m x ∧ rounds ts r x ≠ m)).length ≤ n - r := fun r => by
    induction r with
    | zero =>
      refine Nat.le_trans (List.length_filter_le _ _) ?_
      rw [rng_length]
      omega
    | succ r ih =>
      by_cases hex : ∃ x, Rch ts m x ∧ rounds ts r x ≠ m
      · obtain ⟨x, hx, hne⟩ := hex
        -- an edge over which it comes
        have edge : ∃ a b k, Rch ts m a ∧ rounds ts r a = m ∧ Adj ts a b k ∧ rounds ts r b ≠ m := by
          by_cases hn : ∃ a b k, Rch ts m a ∧ rounds ts r a = m ∧ Adj ts a b k ∧ rounds ts r b ≠ m
          · exact hn
          · exfalso
            refine hne (hx.ind (fun y => Rch ts m y ∧ rounds ts r y = m) ⟨Rch.refl, atm r⟩ fun a b k ha k' => ⟨ha.1.trans (Rch.adj k'), ?_⟩).2
            by_cases hb : rounds ts r b = m
            · exact hb
            · exact absurd ⟨a, b, k, ha.1, ha.2, k', hb⟩ hn
        obtain ⟨a, b, k, ha, ha2, hab, hb⟩ := edge
        have hmb : Rch ts m b := ha.trans (Rch.adj hab)
        have hb' : rounds ts (r + 1) b = m := by
          have h1 := ge (r + 1) b hmb
          obtain ⟨t, ht, _, h⟩ := hab
          have ft := fold_tie ts (rounds ts r) t ht
          have h2 : rounds ts (r + 1) b ≤ m := by
            rcases h with ⟨e1, e2⟩ | ⟨e1, e2⟩
            · have q := ft.2
              rw [e1, e2, ha2] at q
              exact Int.le_trans q (by omega)
            · have q := ft.1
              rw [e1, e2, ha2] at q
              exact Int.le_trans q (by omega)
          omega
        have lt := filter_lt (p := fun x => decide (Rch ts m x ∧ rounds ts r x ≠ m)) (q := fun x => decide (Rch ts m x ∧ rounds ts (r + 1) x ≠ m)) (l := rng n) (fun x _ hq => by
          have hq := of_decide_eq_true hq
          refine decide_eq_true ⟨hq.1, fun z => hq.2 ?_⟩
          have h1 := ge (r + 1) x hq.1
          have h2 := mono r x
          omega) ⟨b, mem_rng.mpr (hmb.rng ok h0), decide_eq_true ⟨hmb, hb⟩, decide_eq_false fun z => z.2 hb'⟩
        omega
      · have e : (rng n).filter (fun x => decide (Rch ts m x ∧ rounds ts (r + 1) x ≠ m)) = [] := by
          rw [List.filter_eq_nil_iff]
          intro x _ hq
          have hq := of_decide_eq_true hq
          refine hex ⟨x, hq.1, fun z => hq.2 ?_⟩
          have h1 := ge (r + 1) x hq.1
          have h2 := mono r x
          omega
        rw [e]
        exact Nat.zero_le _
  have c := cnt n
  rw [Nat.sub_self] at c
  have e := List.eq_nil_of_length_eq_zero (Nat.le_zero.mp c)
  by_cases hne : rounds ts n p = m
  · exact hne
  · rw [List.filter_eq_nil_iff] at e
    exact absurd (decide_eq_true ⟨hp, hne⟩) (e p (mem_rng.mpr (hp.rng ok h0)))
open Classical in
/-- each has a least place -/
theorem has_leader {ts : List Tie} {n : Nat} (ok : ∀ t ∈ ts, TieOk n t) {p : Int} (h0 : 0 ≤ p ∧ p < n) : ∃ m, leader ts m ∧ (0 ≤ m ∧ m < n) ∧ Rch ts m p := by
  have key : ∀ (k : Nat) (x : Int), x = k → Rch ts p x → ∃ m, leader ts m ∧ (0 ≤ m ∧ m < n) ∧ Rch ts m p := by
    intro k
    induction k using Nat.strongRecOn with
    | ind k ih =>
      intro x hx hr
      have hxr := hr.rng ok h0
      by_cases hl : leader ts x
      · exact ⟨x, hl, hxr, hr.symm⟩
      · have hl' : ∃ q, Rch ts x q ∧ q < x := by
          by_cases h : ∃ q, Rch ts x q ∧ q < x
          · exact h
          · exfalso
            refine hl fun q hq => ?_
            by_cases h' : q < x
            · exact absurd ⟨q, hq, h'⟩ h
            · omega
        obtain ⟨q, hq, hlt⟩ := hl'
        have hqr := hq.rng ok hxr
        exact ih q.toNat (by omega) q (by omega) (hr.trans hq)
  exact key p.toNat p (by omega) Rch.refl
/-! ### rows of numbers as data -/
def IntsV (H : Hp) (v : V) (xs : List Int) : Prop := ∃ b, v = .ref b ∧ H b = some (.tup (xs.map V.int))
theorem IntsV.tk {H H' : Hp} (k : Tk H H') {v : V} {xs : List Int} (h : IntsV H v xs) : IntsV H' v xs := by
  obtain ⟨a, rfl, e⟩ := h
  exact ⟨a, rfl, k _ _ e⟩
def intsD (xs : List Int) : PyData := .tuple (xs.map PyData.int)
section
variable {K : PySem.W.Frag} {H : Hp}
theorem dp_ints : ∀ (xs : List Int), DpAll K H (xs.map V.int) (xs.map PyData.int)
  | [] => .nil
  | x :: xs => .cons (.int x) (dp_ints xs)
theorem IntsV.dp {v : V} {xs : List Int} (h : IntsV H v xs) : Dp K H v (intsD xs) := by
  obtain ⟨b, rfl, e⟩ := h
  exact .tup (SqT.of e) (dp_ints xs)
end
theorem lay_ints : ∀ xs : List Int, PyData.canLayAll0 (xs.map PyData.int) = true
  | [] => by simp [PyData.canLayAll0]
  | x :: xs => by simp [PyData.canLayAll0, PyData.canLay0, lay_ints xs]
theorem deep_ints : ∀ xs : List Int, PyData.depthAll (xs.map PyData.int) = 0
  | [] => by simp [PyData.depthAll]
  | x :: xs => by simp [PyData.depthAll, PyData.depth, deep_ints xs]
theorem lay_intsD (xs : List Int) : (intsD xs).canLay0 = true := by
  unfold intsD
  rw [PyData.canLay0]
  exact lay_ints xs
theorem deep_intsD (xs : List Int) : (intsD xs).depth = 1 := by
  unfold intsD
  rw [PyData.depth, deep_ints]
theorem shaped_intsD (xs : List Int) : SeqAt.shaped (intsD xs) = true := by
  unfold SeqAt.shaped
  rw [lay_intsD, deep_intsD]
  rfl
theorem eqv_nil (xs : List Int) : PyData.eqv (intsD xs) (intsD []) = xs.isEmpty := by
  unfold intsD
  rw [PyData.eqv]
  cases xs <;> rfl

section
variable {P : Program} {w : World} {K : PySem.W.Frag} {mg : Str → Option Value} {base : Heap}
theorem Kp.free {d c l : Addr} {H H' : Hp} (k : Kp d c H H') (h : H' l = none) (h1 : l ≠ d) (h2 : l ≠ c) : H l = none := by
  cases e : H l with
  | none => rfl
  | some o =>
    rw [k l o h1 h2 e] at h
    cases h
theorem atI_of {xs : List V} {i : Int} {v : V} (h0 : 0 ≤ i) (e : xs[i.toNat]? = some v) : atI xs i = some v := by
  obtain ⟨j, rfl⟩ : ∃ j : Nat, i = (j : Int) := ⟨i.toNat, by omega⟩
  exact atI_nat (by rw [Int.toNat_natCast] at e; exact e)
theorem atI_ints {xs : List Int} {i : Int} (h0 : 0 ≤ i) (h1 : i < xs.length) : ∃ x ∈ xs, xs[i.toNat]? = some x ∧ atI (xs.map V.int) i = some (.int x) := by
  have h : i.toNat < xs.length := by omega
  exact ⟨xs[i.toNat], List.getElem_mem h, List.getElem?_eq_getElem h, atI_of h0 (by rw [List.getElem?_map, List.getElem?_eq_getElem h]; rfl)⟩
end
/-! ### ties that sides break -/
def sd (ss : List Int) (i : Int) : Int := ss.getD i.toNat 0
def tieAt (ts : List Tie) (i : Int) : Tie := ts.getD i.toNat ⟨0, 0, false⟩
def brk (ss : List Int) (t : Tie) : Bool := decide (sd ss t.one = sd ss t.other) == t.foe
def badTo (ss : List Int) (ts : List Tie) (k : Nat) : List Int := (rng k).filter fun i => brk ss (tieAt ts i)
def bad (ss : List Int) (ts : List Tie) : List Int := badTo ss ts ts.length
theorem badTo_succ (ss : List Int) (ts : List Tie) (k : Nat) : badTo ss ts (k + 1) = badTo ss ts k ++ (if brk ss (tieAt ts k) = true then [(k : Int)] else []) := by
  unfold badTo
  rw [rng_succ, List.filter_append, List.filter_cons]
  rfl
theorem badTo_len (ss : List Int) (ts : List Tie) (k : Nat) : (badTo ss ts k).length ≤ k := by
  unfold badTo
  have := List.length_filter_le (fun i => brk ss (tieAt ts i)) (rng k)
  rw [rng_length] at this
  exact this
theorem atI_sd {ss : List Int} {i : Int} (h0 : 0 ≤ i) (h1 : i < ss.length) : atI (ss.map V.int) i = some (.int (sd ss i)) := by
  have h : i.toNat < ss.length := by omega
  refine atI_of h0 ?_
  unfold sd
  rw [List.getElem?_map, List.getElem?_eq_getElem h, List.getD_eq_getElem?_getD, List.getElem?_eq_getElem h]
  rfl
theorem tieAt_of {ts : List Tie} {i : Nat} {t : Tie} (h : ts[i]? = some t) : tieAt ts i = t := by
  unfold tieAt
  rw [Int.toNat_natCast, List.getD_eq_getElem?_getD, h]
  rfl
theorem eq_brk (x y : Int) (f : Bool) : decide (V.bl (decide (V.int x = V.int y)) = V.bl (decide (V.str (kindS f) = V.str "foe"))) = (decide (x = y) == f) := by
  have e : decide (V.int x = V.int y) = decide (x = y) := by
    by_cases h : x = y
    · rw [decide_eq_true h, decide_eq_true (by rw [h])]
    · rw [decide_eq_false h, decide_eq_false (fun z => h (V.int.inj z))]
  rw [e]
  cases decide (x = y) <;> cases f <;> rfl
theorem ne_brk (x y : Int) (f : Bool) : (!decide (V.bl (!decide (V.int x = V.int y)) = V.bl (decide (V.str (kindS f) = V.str "foe")))) = (decide (x = y) == f) := by
  have e : decide (V.int x = V.int y) = decide (x = y) := by
    by_cases h : x = y
    · rw [decide_eq_true h, decide_eq_true (by rw [h])]
    · rw [decide_eq_false h, decide_eq_false (fun z => h (V.int.inj z))]
  rw [e]
  cases decide (x = y) <;> cases f <;> rfl
def spBreaks : Sp := fun vs H Q _ => ∃ (a b : Addr) (ss : List Int) (t : Tie), vs = [.ref a, .ref b] ∧ H a = some (.tup (ss.map V.int)) ∧ H b = some (.tup [.int t.one, .int t.other, .str (kindS t.foe)]) ∧ TieOk ss.length t ∧ Q (.bl (brk ss t)) H
def spBroken : Sp := fun vs H Q _ => ∃ (v : V) (a : Addr) (n : Int) (ts : List Tie) (ss : List Int), vs = [v, .ref a] ∧ WebAt H v n ts ∧ WebOk n ts ∧ H a = some (.tup (ss.map V.int)) ∧ (ss.length : Int) = n ∧
  ∀ r H', Same H H' → H' r = some (.tup ((bad ss ts).map V.int)) → Q (.ref r) H'
section
variable {P : Program} {w : World} {K : PySem.W.Frag} {mg : Str → Option Value} {base : Heap}
theorem ok_breaks {f : Addr} {fd : FuncData} (F : Fun K "breaks" "breaks" s_breaks f fd) : FnOk P w K mg base CX0 1 f fd ["sides", "tie"] spBreaks := by
  refine F.ok sc_breaks (fun vs H Q E h => ?_) (fun cdv A outer s H vs Q E hr h => ?_)
  · obtain ⟨a, b, ss, t, rfl, _⟩ := h
    rfl
  · obtain ⟨a, b, ss, t, rfl, ha, hb, ok, q⟩ := h
    refine ⟨_, (pss_cons (ps_asg (pv 1) (pg_tup rfl (pgs_cons (pg_name (i := 2) sc_breaks.nd rfl (.inl rfl)) (pgs_cons (pg_name (i := 3) sc_breaks.nd rfl (.inl rfl)) (pgs_cons (pg_name (i := 4) sc_breaks.nd rfl (.inl rfl)) pgs_nil)))))
      (pss_one (ps_ret (pe_cmpR op_eq (pe_cmpR op_eq (pe_ix ix_tup (pv 0) (pv 2) (fun _ _ => rfl)) (pe_ix ix_tup (pv 0) (pv 3) (fun _ _ => rfl)) (nomark _)) (pe_cmpR op_eq (pv 4) pe_str (nomark _)) (nomark _))))), ?_⟩
    refine ⟨.ref b, rfl, b, _, rfl, SqT.of hb, rfl, _, _, rfl, _, _, rfl, _, _, rfl, rfl, ?_⟩
    refine ⟨.ref a, rfl, .int t.one, rfl, a, _, t.one, _, rfl, rfl, SqT.of ha, atI_sd ok.1 ok.2.1, .ref a, rfl, .int t.other, rfl, a, _, t.other, _, rfl, rfl, SqT.of ha, atI_sd ok.2.2.1 ok.2.2.2.1, rfl, .str (kindS t.foe), rfl, rfl, rfl, ?_⟩
    rw [eq_brk]
    exact q
theorem ok_broken_by {f : Addr} {fd : FuncData} (F : Fun K "broken_by" "broken_by" s_broken_by f fd) (M : Free mg) (me : mg "enumerate" = none) (D1 : Df P w K mg base 1 "breaks" ["sides", "tie"] spBreaks) : FnOk P w K mg base CX0 2 f fd ["web", "sides"] spBroken := by
  obtain ⟨f1, fd1, G1, g1, k1, b1⟩ := D1
  refine F.ok sc_broken_by (fun vs H Q E h => ?_) (fun cdv A outer s H vs Q E hr h => ?_)
  · obtain ⟨v, a, n, ts, ss, rfl, _⟩ := h
    rfl
  · obtain ⟨v, a, n, ts, ss, rfl, ⟨wa, wb, us, rfl, hwa, hwb, hp⟩, ok, ha, hl, q⟩ := h
    refine ⟨_, (pss_one (ps_ret (pe_callTy call_tuple_of (by rfl) M.tuple (by decide +kernel) (pa_cons (pe_lc (own := [("number", 2), ("tie", 3)]) (g := gTup K 2 (gCons (gName 2) (gCons (gName 3) gNil))) (te := tVar 2) rfl sc_broken_by.nd (pi_enumT (by rfl) me (pa_cons (pe_ix ix_tup (pv 0) pe_int (fun _ _ => rfl)) pa_nil)) (blkOk_by (N := N_broken_by) (sc := defScope s_broken_by) (own := [("number", 2), ("tie", 3)]) (by decide +kernel)) (fun _ _ _ _ _ => (pg_tup rfl (pgs_cons (pg_name (i := 2) sc_broken_by.nd rfl (.inl rfl)) (pgs_cons (pg_name (i := 3) sc_broken_by.nd rfl (.inl rfl)) pgs_nil)))) (fun _ _ _ _ _ => (pts_one (pt_val (pe_call G1 hr (by rfl) g1 k1 b1 .nil pass0 (pa_cons (pv 1) (pa_cons (pv 3) pa_nil)))))) (fun _ _ _ _ _ => (pv 2))) pa_nil)))), ?_⟩
    have hlen : us.length = ts.length := Paired.length hp
    have few := ok.few
    refine ⟨.ref wa, rfl, wa, _, 1, .ref wb, rfl, rfl, SqT.of hwa, rfl, wb, us, rfl, SqT.of hwb, fun Z nZ => ?_⟩
    refine lc_it (walk_enumT (xs := us)) (fun i H' => H' Z = some (.lst ((badTo ss ts i).map V.int)) ∧ Same H H') ⟨upd_same, same_new nZ⟩ (fun i H' _ h => SqT.of (h.2 _ _ hwb)) ?_ ?_
    · rintro i x H1 H2 hi ⟨hZ, s1⟩ ⟨T, x1, y, rfl, nT, rfl, e1, e2⟩
      obtain rfl : V.int (i : Nat) = x1 := Option.some.inj e1
      obtain ⟨t, et, c, rfl, hc⟩ := Paired.at hp e2
      have okt := ok.ok t (List.mem_of_getElem? et)
      have s2 := s1.trans (same_new (o := .tup [.int (i : Nat), .ref c]) nT)
      have hZ2 := same_new (o := .tup [.int (i : Nat), .ref c]) nT _ _ hZ
      refine ⟨T, _, rfl, SqT.of upd_same, rfl, _, _, rfl, _, _, rfl, rfl, rfl, .ref a, rfl, .ref c, rfl, a, c, ss, t, rfl, s2 _ _ ha, s2 _ _ hc, by rw [hl]; exact okt, _, rfl, ?_⟩
      have et2 := tieAt_of et
      have lb := badTo_len ss ts i
      rw [badTo_succ, et2, List.map_append]
      by_cases hb : brk ss t = true
      · rw [hb]
        exact ⟨.int i, rfl, _, hZ2, by rw [List.length_map]; exact small1000 (by omega), upd_same, fun b o e => by rw [upd_ne (ne_of_none e nZ)]; exact s2 b o e⟩
      · rw [Bool.not_eq_true] at hb
        rw [hb]
        simp only [Bool.false_eq_true, if_false, List.map_nil, List.append_nil]
        exact ⟨hZ2, s2⟩
    · rintro H1 ⟨hZ, s1⟩
      rw [hlen] at hZ
      refine ⟨Z, _, rfl, .inl ⟨SqL.of hZ, fun r nr => ?_⟩⟩
      exact q r _ (s1.trans (same_new nr)) upd_same
end
/-! ### sides put over -/
def Bin (ss : List Int) : Prop := ∀ x ∈ ss, x = 0 ∨ x = 1
theorem sd_get {ss : List Int} {i : Int} (h0 : 0 ≤ i) (h1 : i < ss.length) : ∃ h : i.toNat < ss.length, sd ss i = ss[i.toNat] := by
  have h : i.toNat < ss.length := by omega
  refine ⟨h, ?_⟩
  unfold sd
  rw [List.getD_eq_getElem?_getD, List.getElem?_eq_getElem h]
  rfl
theorem sd_bin {ss : List Int} (b : Bin ss) {i : Int} (h0 : 0 ≤ i) (h1 : i < ss.length) : sd ss i = 0 ∨ sd ss i = 1 := by
  obtain ⟨h, e⟩ := sd_get h0 h1
  rw [e]
  exact b _ (List.getElem_mem h)
def over (ss : List Int) : List Int := ss.map fun s => 1 - s
theorem sd_over {ss : List Int} {i : Int} (h0 : 0 ≤ i) (h1 : i < ss.length) : sd (over ss) i = 1 - sd ss i := by
  obtain ⟨h, e⟩ := sd_get h0 h1
  obtain ⟨h', e'⟩ := sd_get (ss := over ss) h0 (by unfold over; rw [List.length_map]; exact h1)
  rw [e, e']
  simp [over]
theorem brk_over {ss : List Int} {t : Tie} (ok : TieOk ss.length t) : brk (over ss) t = brk ss t := by
  unfold brk
  rw [sd_over ok.1 ok.2.1, sd_over ok.2.2.1 ok.2.2.2.1]
  congr 1
  rw [decide_eq_decide]
  omega
theorem tieAt_mem {ts : List Tie} {i : Int} (h : i ∈ rng ts.length) : tieAt ts i ∈ ts := by
  rw [mem_rng] at h
  have h' : i.toNat < ts.length := by omega
  unfold tieAt
  rw [List.getD_eq_getElem?_getD, List.getElem?_eq_getElem h']
  exact List.getElem_mem h'
theorem bad_over {ss : List Int} {ts : List Tie} (ok : ∀ t ∈ ts, TieOk ss.length t) : bad (over ss) ts = bad ss ts := by
  unfold bad badTo
  exact List.filter_congr fun i hi => brk_over (ok _ (tieAt_mem hi))
def moved (ss : List Int) (p : Int) : List Int := ss.set p.toNat (1 - sd ss p)
theorem moved_len (ss : List Int) (p : Int) : (moved ss p).length = ss.length := by unfold moved; rw [List.length_set]
theorem sd_moved {ss : List Int} {p i : Int} (p0 : 0 ≤ p) (p1 : p < ss.length) (h0 : 0 ≤ i) (h1 : i < ss.length) : sd (moved ss p) i = if i = p then 1 - sd ss p else sd ss i := by
  show (ss.set p.toNat (1 - sd ss p)).getD i.toNat 0 = _
  rw [List.getD_eq_getElem?_getD, List.getElem?_set]
  by_cases hp : i = p
  · subst hp
    rw [if_pos rfl, if_pos (by omega), if_pos rfl]
    rfl
  · rw [if_neg (by omega), if_neg hp]
    unfold sd
    rw [List.getD_eq_getElem?_getD]
theorem brk_moved {ss : List Int} (b : Bin ss) {t : Tie} {p : Int} (ok : TieOk ss.length t) (p0 : 0 ≤ p) (p1 : p < ss.length) : brk (moved ss p) t = (brk ss t != (t.one == p || t.other == p)) := by
  unfold brk
  rw [sd_moved p0 p1 ok.1 ok.2.1, sd_moved p0 p1 ok.2.2.1 ok.2.2.2.1]
  have b1 := sd_bin b ok.1 ok.2.1
  have b2 := sd_bin b ok.2.2.1 ok.2.2.2.1
  have ne := ok.2.2.2.2
  by_cases h1 : t.one = p
  · have h2 : t.other ≠ p := fun z => ne (h1.trans z.symm)
    rw [if_pos h1, if_neg h2, ← h1]
    have e1 : (t.one == t.one) = true := by simp
    rw [e1, Bool.true_or]
    rcases b1 with e | e <;> rcases b2 with e' | e' <;> rw [e, e'] <;> cases t.foe <;> rfl
  · rw [if_neg h1]
    have e1 : (t.one == p) = false := by simp [h1]
    rw [e1, Bool.false_or]
    by_cases h2 : t.other = p
    · rw [if_pos h2, ← h2]
      have e2 : (t.other == t.other) = true := by simp
      rw [e2]
      rcases b1 with e | e <;> rcases b2 with e' | e' <;> rw [e, e'] <;> cases t.foe <;> rfl
    · rw [if_neg h2]
      have e2 : (t.other == p) = false := by simp [h2]
      rw [e2, Bool.bne_false]
theorem moved_cut {ss : List Int} {p : Int} (p0 : 0 ≤ p) (p1 : p < ss.length) : cutV (ss.map V.int) none (some p) ++ [V.int (1 - sd ss p)] ++ cutV (ss.map V.int) (some (p + 1)) none = (moved ss p).map V.int := by
  obtain ⟨k, rfl⟩ : ∃ k : Nat, p = k := ⟨p.toNat, by omega⟩
  have hk : k < ss.length := by omega
  have e1 : cutV (ss.map V.int) none (some (k : Int)) = (ss.take k).map V.int := by
    unfold cutV
    rw [HT.sIx_none, HT.sIx_nat, List.length_map, Nat.min_eq_left (by omega), List.drop_zero, List.map_take]
    rfl
  have e2 : cutV (ss.map V.int) (some ((k : Int) + 1)) none = (ss.drop (k + 1)).map V.int := by
    unfold cutV
    rw [HT.sIx_none, show ((k : Int) + 1) = ((k + 1 : Nat) : Int) from by omega, HT.sIx_nat, List.length_map, Nat.min_eq_left (by omega), List.map_drop]
    exact List.take_of_length_le (by rw [List.length_drop, List.length_map]; omega)
  rw [e1, e2]
  unfold moved
  rw [Int.toNat_natCast, List.set_eq_take_append_cons_drop, if_pos hk]
  simp
theorem in_bad {ss : List Int} {ts : List Tie} {i : Nat} (hi : i < ts.length) : inV (.int (i : Int)) ((bad ss ts).map V.int) = brk ss (tieAt ts i) := by
  rw [Bool.eq_iff_iff]
  unfold inV
  rw [List.any_map, List.any_eq_true]
  unfold bad badTo
  constructor
  · rintro ⟨x, hx, e⟩
    have e' : (x == (i : Int)) = true := e
    rw [beq_iff_eq] at e'
    subst e'
    exact (List.mem_filter.mp hx).2
  · intro h
    exact ⟨i, List.mem_filter.mpr ⟨mem_rng.mpr (by omega), h⟩, by show ((i : Int) == (i : Int)) = true; simp⟩
theorem flat_ints (xs : List Int) : (xs.map V.int).all flatV = true := by
  rw [List.all_map, List.all_eq_true]
  intro x _
  rfl
theorem in_two (p x y : Int) : inV (.int p) [.int x, .int y] = (x == p || y == p) := by
  show ((x == p) || ((y == p) || false)) = _
  rw [Bool.or_false]
theorem ne_bl (a b : Bool) : (!decide (V.bl a = V.bl b)) = (a != b) := by cases a <;> cases b <;> rfl
/-! ### the fixed choice: the mathematics -/
def Cons (ss : List Int) (ts : List Tie) : Prop := ∀ t ∈ ts, brk ss t = false
def Odd (ts : List Tie) (n : Nat) : Prop := ∃ x : Int, (0 ≤ x ∧ x < n) ∧ RP ts x x true
def one? (ss : List Int) (i : Int) : Bool := decide (sd ss i = 1)
structure Told (ts : List Tie) (n : Nat) (ss : List Int) : Prop where
  len : ss.length = n
  bin : Bin ss
  each : ∀ i : Int, 0 ≤ i → i < n → ∃ m, leader ts m ∧ RP ts m i (one? ss i)
theorem brk_one {ss : List Int} (b : Bin ss) {t : Tie} (ok : TieOk ss.length t) : brk ss t = ((one? ss t.one ^^ one? ss t.other) ^^ t.foe) := by
  unfold brk one?
  have b1 := sd_bin b ok.1 ok.2.1
  have b2 := sd_bin b ok.2.2.1 ok.2.2.2.1
  rcases b1 with e | e <;> rcases b2 with e' | e' <;> rw [e, e'] <;> cases t.foe <;> decide
theorem cons_adj {ss : List Int} {ts : List Tie} (b : Bin ss) (ok : ∀ t ∈ ts, TieOk ss.length t) (h : Cons ss ts) {x y : Int} {k : Bool} (ad : Adj ts x y k) : (one? ss x ^^ one? ss y) = k := by
  obtain ⟨t, ht, rfl, h1⟩ := ad
  have e := h t ht
  rw [brk_one b (ok t ht)] at e
  rcases h1 with ⟨rfl, rfl⟩ | ⟨rfl, rfl⟩
  · revert e
    cases one? ss t.one <;> cases one? ss t.other <;> cases t.foe <;> simp
  · revert e
    cases one? ss t.one <;> cases one? ss t.other <;> cases t.foe <;> simp
theorem cons_walk {ss : List Int} {ts : List Tie} (b : Bin ss) (ok : ∀ t ∈ ts, TieOk ss.length t) (h : Cons ss ts) {x y : Int} {p : Bool} (r : RP ts x y p) : (one? ss x ^^ one? ss y) = p := by
  induction r with
  | nil => rw [Bool.xor_self]
  | step _ ad ih =>
    rw [← ih, ← cons_adj b ok h ad]
    rename_i u v p k _
    cases one? ss x <;> cases one? ss u <;> cases one? ss v <;> rfl
theorem cons_no_odd {ss : List Int} {ts : List Tie} {n : Nat} (b : Bin ss) (ok : ∀ t ∈ ts, TieOk ss.length t) (h : Cons ss ts) : ¬ Odd ts n := by
  rintro ⟨x, _, r⟩
  have := cons_walk b ok h r
  rw [Bool.xor_self] at this
  cases this
theorem leader_one {ts : List Tie} {m m' i : Int} (h : leader ts m) (h' : leader ts m') (r : Rch ts m i) (r' : Rch ts m' i) : m = m' := by
  have h1 := h m' (r.trans r'.symm)
  have h2 := h' m (r'.trans r.symm)
  omega
theorem told_unique {ts : List Tie} {n : Nat} {ss zs : List Int} (ok : ∀ t ∈ ts, TieOk n t) (h : Told ts n ss) (g : Told ts n zs) (c : Cons ss ts) : ss = zs := by
  refine List.ext_getElem? fun j => ?_
  by_cases hj : j < n
  · obtain ⟨m, l1, r1⟩ := h.each j (by omega) (by omega)
    obtain ⟨m', l2, r2⟩ := g.each j (by omega) (by omega)
    obtain rfl := leader_one l1 l2 ⟨_, r1⟩ ⟨_, r2⟩
    have w := cons_walk h.bin (by rw [h.len]; exact ok) c (r1.trans r2.symm)
    rw [Bool.xor_self] at w
    have e : one? ss j = one? zs j := by
      revert w
      cases one? ss (j : Int) <;> cases one? zs (j : Int) <;> simp
    have b1 := sd_bin h.bin (i := j) (by omega) (by rw [h.len]; omega)
    have b2 := sd_bin g.bin (i := j) (by omega) (by rw [g.len]; omega)
    obtain ⟨h1, e1⟩ := sd_get (ss := ss) (i := j) (by omega) (by rw [h.len]; omega)
    obtain ⟨h2, e2⟩ := sd_get (ss := zs) (i := j) (by omega) (by rw [g.len]; omega)
    have es : sd ss j = sd zs j := by
      unfold one? at e
      rcases b1 with x | x <;> rcases b2 with y | y <;> rw [x, y] at e ⊢ <;> revert e <;> decide
    rw [Int.toNat_natCast] at h1 h2
    rw [List.getElem?_eq_getElem h1, List.getElem?_eq_getElem h2]
    have : ss[j] = zs[j] := by
      have q1 : sd ss j = ss[j] := e1
      have q2 : sd zs j = zs[j] := e2
      rw [← q1, ← q2, es]
    rw [this]
  · rw [List.getElem?_eq_none (by rw [h.len]; omega), List.getElem?_eq_none (by rw [g.len]; omega)]
theorem told_odd {ts : List Tie} {n : Nat} {ss : List Int} (ok : ∀ t ∈ ts, TieOk n t) (h : Told ts n ss) {t : Tie} (ht : t ∈ ts) (hb : brk ss t = true) : Odd ts n := by
  have okt := ok t ht
  obtain ⟨m, l1, r1⟩ := h.each t.one okt.1 okt.2.1
  obtain ⟨m', l2, r2⟩ := h.each t.other okt.2.2.1 okt.2.2.2.1
  have ad : Adj ts t.one t.other t.foe := ⟨t, ht, rfl, .inl ⟨rfl, rfl⟩⟩
  obtain rfl := leader_one l1 l2 (Rch.trans ⟨_, r1⟩ (Rch.adj ad)) ⟨_, r2⟩
  have w := (r1.step ad).trans r2.symm
  refine ⟨m, Rch.rng ok ⟨okt.1, okt.2.1⟩ ⟨_, r1.symm⟩, ?_⟩
  have e : ((one? ss t.one ^^ t.foe) ^^ one? ss t.other) = true := by
    rw [brk_one h.bin (by rw [h.len]; exact okt)] at hb
    revert hb
    cases one? ss t.one <;> cases one? ss t.other <;> cases t.foe <;> simp
  rw [← e]
  exact w
theorem bad_nil {ss : List Int} {ts : List Tie} : bad ss ts = [] ↔ Cons ss ts := by
  unfold bad badTo Cons
  rw [List.filter_eq_nil_iff]
  constructor
  · intro h t ht
    obtain ⟨j, hj⟩ := List.getElem?_of_mem ht
    have hl := (List.getElem?_eq_some_iff.mp hj).1
    have := h j (mem_rng.mpr (by omega))
    rw [tieAt_of hj] at this
    simpa using this
  · intro h i hi
    rw [h _ (tieAt_mem hi)]
    decide
/-! ### groups by their least places, sides along the ties -/
theorem RP.mono {ts ts' : List Tie} (h : ∀ t ∈ ts, t ∈ ts') {a b : Int} {p : Bool} (r : RP ts a b p) : RP ts' a b p := by
  induction r with
  | nil => exact .nil
  | step _ ad ih =>
    obtain ⟨t, ht, e, q⟩ := ad
    exact ih.step ⟨t, h t ht, e, q⟩
def bit (x : Int) : Bool := decide (x = 1)
structure GS (ts : List Tie) (n : Nat) (g s : Int → Int) (good : Bool) : Prop where
  rp : ∀ i : Int, 0 ≤ i → i < n → RP ts (g i) i (bit (s i))
  le : ∀ i : Int, 0 ≤ i → i < n → 0 ≤ g i ∧ g i ≤ i
  bn : ∀ i : Int, 0 ≤ i → i < n → s i = 0 ∨ s i = 1
  eq : ∀ t ∈ ts, g t.one = g t.other
  yes : good = true → ∀ t ∈ ts, (bit (s t.one) ^^ bit (s t.other)) = t.foe
  no : good = false → Odd ts n
theorem GS.nil (n : Nat) : GS [] n (fun i => i) (fun _ => 0) true :=
  ⟨fun i _ _ => .nil, fun i h _ => ⟨h, Int.le_refl _⟩, fun _ _ _ => .inl rfl, fun t h => by simp at h, fun _ t h => by simp at h, fun h => by cases h⟩
theorem GS.same {ts : List Tie} {n : Nat} {g s : Int → Int} {good : Bool} (h : GS ts n g s good) {a b : Int} (r : Rch ts a b) : g a = g b :=
  r.ind (fun x => g a = g x) rfl fun x y k e ad => by
    obtain ⟨t, ht, _, q⟩ := ad
    have := h.eq t ht
    rcases q with ⟨rfl, rfl⟩ | ⟨rfl, rfl⟩
    · rw [e, this]
    · rw [e, this]
theorem GS.lead {ts : List Tie} {n : Nat} {g s : Int → Int} {good : Bool} (ok : ∀ t ∈ ts, TieOk n t) (h : GS ts n g s good) {i : Int} (h0 : 0 ≤ i) (h1 : i < n) : leader ts (g i) := fun q hq => by
  have e1 := h.same hq
  have e2 := h.same (⟨_, h.rp i h0 h1⟩ : Rch ts (g i) i)
  have r := hq.rng ok ⟨(h.le i h0 h1).1, by have := (h.le i h0 h1).2; omega⟩
  have := (h.le q r.1 r.2).2
  omega
def gNew (g : Int → Int) (low high : Int) : Int → Int := fun x => if low < high ∧ g x = high then low else g x
def sNew (g s : Int → Int) (low high turn : Int) : Int → Int := fun x => if low < high ∧ g x = high then (s x + turn) % 2 else s x
theorem bit_add {a b : Int} (ha : a = 0 ∨ a = 1) (hb : b = 0 ∨ b = 1) : bit ((a + b) % 2) = (bit a ^^ bit b) ∧ ((a + b) % 2 = 0 ∨ (a + b) % 2 = 1) := by
  rcases ha with rfl | rfl <;> rcases hb with rfl | rfl <;> decide
theorem GS.step {ts : List Tie} {n : Nat} {g s : Int → Int} {good : Bool} (h : GS ts n g s good) (okts : ∀ t ∈ ts, TieOk n t) {t : Tie} (ok : TieOk n t) {low high turn : Int} (hlow : low = min (g t.one) (g t.other)) (hhigh : high = max (g t.one) (g t.other)) (ht : turn = (s t.one + s t.other + (if t.foe = true then 1 else 0)) % 2) :
    GS (ts ++ [t]) n (gNew g low high) (sNew g s low high turn) (if low = high then good && decide (turn = 0) else good) := by
  have mono : ∀ x ∈ ts, x ∈ ts ++ [t] := fun x hx => List.mem_append_left _ hx
  have ad : Adj (ts ++ [t]) t.one t.other t.foe := ⟨t, by simp, rfl, .inl ⟨rfl, rfl⟩⟩
  have r1 := (h.rp t.one ok.1 ok.2.1).mono mono
  have r2 := (h.rp t.other ok.2.2.1 ok.2.2.2.1).mono mono
  have b1 := h.bn t.one ok.1 ok.2.1
  have b2 := h.bn t.other ok.2.2.1 ok.2.2.2.1
  have bt : bit turn = ((bit (s t.one) ^^ bit (s t.other)) ^^ t.foe) ∧ (turn = 0 ∨ turn = 1) := by
    rw [ht]
    rcases b1 with e | e <;> rcases b2 with e' | e' <;> rw [e, e'] <;> cases t.foe <;> decide
  have cross : low < high → RP (ts ++ [t]) low high (bit turn) := fun hl => by
    by_cases hc : g t.one ≤ g t.other
    · have e1 : low = g t.one := by omega
      have e2 : high = g t.other := by omega
      have w := (r1.step ad).trans r2.symm
      rw [e1, e2, bt.1]
      rw [show ((bit (s t.one) ^^ bit (s t.other)) ^^ t.foe) = ((bit (s t.one) ^^ t.foe) ^^ bit (s t.other)) from by cases bit (s t.one) <;> cases bit (s t.other) <;> cases t.foe <;> rfl]
      exact w
    · have e1 : low = g t.other := by omega
      have e2 : high = g t.one := by omega
      have w := (r2.step ad.symm).trans r1.symm
      rw [e1, e2, bt.1]
      rw [show ((bit (s t.one) ^^ bit (s t.other)) ^^ t.foe) = ((bit (s t.other) ^^ t.foe) ^^ bit (s t.one)) from by cases bit (s t.one) <;> cases bit (s t.other) <;> cases t.foe <;> rfl]
      exact w
  refine ⟨fun i h0 h1 => ?_, fun i h0 h1 => ?_, fun i h0 h1 => ?_, fun x hx => ?_, fun hg x hx => ?_, fun hg => ?_⟩
  · unfold gNew sNew
    by_cases hc : low < high ∧ g i = high
    · rw [if_pos hc, if_pos hc, (bit_add (h.bn i h0 h1) bt.2).1, Bool.xor_comm]
      have w := (h.rp i h0 h1).mono mono
      rw [hc.2] at w
      exact (cross hc.1).trans w
    · rw [if_neg hc, if_neg hc]
      exact (h.rp i h0 h1).mono mono
  · unfold gNew
    have l := h.le i h0 h1
    have l1 := h.le t.one ok.1 ok.2.1
    have l2 := h.le t.other ok.2.2.1 ok.2.2.2.1
    split
    · omega
    · exact l
  · unfold sNew
    split
    · exact (bit_add (h.bn i h0 h1) bt.2).2
    · exact h.bn i h0 h1
  · unfold gNew
    rcases List.mem_append.mp hx with hx | hx
    · rw [h.eq x hx]
    · rw [List.mem_singleton.mp hx]
      split <;> split <;> omega
  · rcases List.mem_append.mp hx with hx | hx
    · have hgood : good = true := by
        by_cases e : low = high
        · rw [if_pos e] at hg
          revert hg
          cases good <;> simp
        · rw [if_neg e] at hg
          exact hg
      have q := h.yes hgood x hx
      have e := h.eq x hx
      unfold sNew
      by_cases hc : low < high ∧ g x.one = high
      · have hc' : low < high ∧ g x.other = high := ⟨hc.1, by rw [← e]; exact hc.2⟩
        have okx := okts x hx
        rw [if_pos hc, if_pos hc', (bit_add (h.bn x.one okx.1 okx.2.1) bt.2).1, (bit_add (h.bn x.other okx.2.2.1 okx.2.2.2.1) bt.2).1, ← q]
        cases bit (s x.one) <;> cases bit (s x.other) <;> cases bit turn <;> rfl
      · have hc' : ¬ (low < high ∧ g x.other = high) := fun z => hc ⟨z.1, by rw [e]; exact z.2⟩
        rw [if_neg hc, if_neg hc']
        exact q
    · rw [List.mem_singleton.mp hx]
      unfold sNew
      by_cases e : low = high
      · rw [if_pos e] at hg
        have h0 : turn = 0 := by
          revert hg
          cases good <;> simp
        rw [if_neg (by omega), if_neg (by omega)]
        have z := bt.1
        rw [h0] at z
        revert z
        cases bit (s t.one) <;> cases bit (s t.other) <;> cases t.foe <;> decide
      · have hlt : low < high := by omega
        by_cases hc : g t.one ≤ g t.other
        · rw [if_neg (by omega), if_pos ⟨hlt, by omega⟩, (bit_add b2 bt.2).1, bt.1]
          cases bit (s t.one) <;> cases bit (s t.other) <;> cases t.foe <;> rfl
        · rw [if_pos ⟨hlt, by omega⟩, if_neg (by omega), (bit_add b1 bt.2).1, bt.1]
          cases bit (s t.one) <;> cases bit (s t.other) <;> cases t.foe <;> rfl
  · have old : good = false → Odd (ts ++ [t]) n := fun e => by
      obtain ⟨x, hx, r⟩ := h.no e
      exact ⟨x, hx, r.mono mono⟩
    by_cases e : low = high
    · rw [if_pos e] at hg
      cases hgood : good
      · exact old hgood
      · rw [hgood] at hg
        have h1 : turn = 1 := by
          rcases bt.2 with z | z
          · rw [z] at hg
            cases hg
          · exact z
        have eg : g t.one = g t.other := by omega
        have w := (r1.step ad).trans (eg ▸ r2).symm
        refine ⟨g t.one, ?_, ?_⟩
        · have := h.le t.one ok.1 ok.2.1
          have := ok.2.1
          omega
        · have z := bt.1
          rw [h1] at z
          rw [show ((bit (s t.one) ^^ t.foe) ^^ bit (s t.other)) = true from by
            revert z
            cases bit (s t.one) <;> cases bit (s t.other) <;> cases t.foe <;> decide] at w
          exact w
    · rw [if_neg e] at hg
      exact old hg
/-! ### d.update(e) -/
def rUpdate : V → List V → Hp → VK → Prop := fun x vs H Q => ∃ (a b : Addr) (kvs more : List (Key × V)), x = .ref a ∧ vs = [.ref b] ∧ H a = some (.dK kvs) ∧ H b = some (.dK more) ∧ a ≠ b ∧ kvs.length + more.length ≤ sizeLine ∧ Q .non (upd H a (.dK (mergeK kvs more)))
theorem mt_update {X : Cx} : MtR X "dict.update" rUpdate := by
  intro pins s σ H x vs v us Q I rx rv h
  obtain ⟨a, b, kvs, more, ex, ev, e1, e2, ne, hl, q⟩ := h
  subst ex
  subst ev
  obtain rfl : v = Value.ref a := rx
  obtain ⟨u, eu, r1⟩ := vals1 rv
  subst eu
  obtain rfl : u = Value.ref b := r1
  obtain ⟨z1, hd1, vs1, rel1, dd1⟩ := dk_of I.hok e1
  obtain ⟨z2, hd2, vs2, rel2, dd2⟩ := dk_of I.hok e2
  refine call_meetsIn PySem.F.slot_dict_update dd1.typeIs PySem.F.entry_dict_update (PySem.F.args_dict_update_2 _ _) (meets_dict_update (mixKind X.prog X.w) a b ne hd2) ⟨vs1, vs2, dd1, dd2, by rw [← rel1.length, ← rel2.length]; exact hl, fun h' dd' _ hs => ⟨.non, _, ?_, rfl, q⟩⟩
  have he : ∃ q, h'.get? a = some q := let ⟨q, _, _, hq, _⟩ := dd'; ⟨q, hq⟩
  exact d_write (t' := s.toks) I (by rw [e1]; exact True.intro) hs he (dk_new (Nat.le_trans (length_mergeK more kvs) hl) hd1 (rel2.merge rel1) dd')
/-! ### for each place its ties -/
theorem Same.mut {H H' : Hp} {a : Addr} {o : HO} (s : Same H H') (h : H a = none) : Same H (upd H' a o) := fun b x e => by
  rw [upd_ne (ne_of_none e h)]
  exact s b x e
abbrev Nb := Int × Bool
def NbV (H : Hp) (v : V) (p : Nb) : Prop := ∃ a, v = .ref a ∧ H a = some (.tup [.int p.1, .str (kindS p.2)])
theorem NbV.tk {H H' : Hp} (k : Tk H H') {v : V} {p : Nb} (h : NbV H v p) : NbV H' v p := by
  obtain ⟨a, rfl, e⟩ := h
  exact ⟨a, rfl, k _ _ e⟩
structure Around (H : Hp) (L : Addr) (As : List Addr) (N : Nat → List Nb) : Prop where
  at' : H L = some (.lst (As.map V.ref))
  nd : As.Nodup
  each : ∀ j a, As[j]? = some a → ∃ vs, H a = some (.lst vs) ∧ Paired (NbV H) vs (N j)
  out : L ∉ As
theorem Around.same {H H' : Hp} {L : Addr} {As : List Addr} {N : Nat → List Nb} (h : Around H L As N) (s : Same H H') : Around H' L As N :=
  ⟨s _ _ h.at', h.nd, fun j a e => by
    obtain ⟨vs, h1, h2⟩ := h.each j a e
    exact ⟨vs, s _ _ h1, Paired.mono (fun _ _ x => x.tk (Same.tk s)) h2⟩, h.out⟩
theorem Around.put {H : Hp} {L q : Addr} {As : List Addr} {N : Nat → List Nb} (h : Around H L As N) {j : Nat} {a : Addr} {vs : List V} {p : Nb} (ea : As[j]? = some a) (ev : H a = some (.lst vs)) (eq : NbV H (.ref q) p) :
    Around (upd H a (.lst (vs ++ [.ref q]))) L As (fun i => N i ++ if i = j then [p] else []) := by
  have k : Tk H (upd H a (.lst (vs ++ [.ref q]))) := tk_lst ev
  refine ⟨?_, h.nd, fun i b e => ?_, h.out⟩
  · have ne : L ≠ a := fun z => h.out (by rw [z]; exact List.mem_of_getElem? ea)
    rw [upd_ne ne]
    exact h.at'
  · obtain ⟨ws, h1, h2⟩ := h.each i b e
    by_cases hij : i = j
    · subst hij
      rw [ea] at e
      cases e
      rw [ev] at h1
      cases h1
      refine ⟨_, upd_same, ?_⟩
      rw [if_pos rfl]
      exact Paired.snoc (Paired.mono (fun _ _ x => x.tk k) h2) (eq.tk k)
    · have ne : b ≠ a := fun z => hij (by
        subst z
        exact (List.getElem?_inj (List.getElem?_eq_some_iff.mp e).1 h.nd).mp (e.trans ea.symm))
      refine ⟨ws, by rw [upd_ne ne]; exact h1, ?_⟩
      rw [if_neg hij, List.append_nil]
      exact Paired.mono (fun _ _ x => x.tk k) h2
def nb1 (t : Tie) (i : Int) : List Nb := (if i = t.one then [(t.other, t.foe)] else []) ++ (if i = t.other then [(t.one, t.foe)] else [])
def nbs (ts : List Tie) (i : Int) : List Nb := ts.flatMap fun t => nb1 t i
theorem nbs_snoc (ts : List Tie) (t : Tie) (i : Int) : nbs (ts ++ [t]) i = nbs ts i ++ nb1 t i := by
  unfold nbs
  rw [List.flatMap_append]
  simp
theorem nb1_len (t : Tie) (i : Int) : (nb1 t i).length ≤ 2 := by
  unfold nb1
  rw [List.length_append]
  split <;> split <;> simp
theorem nbs_len (ts : List Tie) (i : Int) : (nbs ts i).length ≤ 2 * ts.length := by
  induction ts with
  | nil => simp [nbs]
  | cons t ts ih =>
    have h := nb1_len t i
    unfold nbs at ih ⊢
    rw [List.flatMap_cons, List.length_append, List.length_cons]
    omega
theorem mem_nbs {ts : List Tie} {i : Int} {p : Nb} : p ∈ nbs ts i ↔ Adj ts i p.1 p.2 := by
  unfold nbs Adj nb1
  rw [List.mem_flatMap]
  constructor
  · rintro ⟨t, ht, h⟩
    refine ⟨t, ht, ?_⟩
    rcases List.mem_append.mp h with h | h
    · split at h
      · rename_i e
        rw [List.mem_singleton] at h
        subst h
        exact ⟨rfl, .inl ⟨e.symm, rfl⟩⟩
      · simp at h
    · split at h
      · rename_i e
        rw [List.mem_singleton] at h
        subst h
        exact ⟨rfl, .inr ⟨rfl, e.symm⟩⟩
      · simp at h
  · rintro ⟨t, ht, e, h⟩
    refine ⟨t, ht, List.mem_append.mpr ?_⟩
    obtain ⟨p1, p2⟩ := p
    simp only at e h
    rcases h with ⟨h1, h2⟩ | ⟨h1, h2⟩
    · left
      rw [if_pos h1.symm, List.mem_singleton, ← e, ← h2]
    · right
      rw [if_pos h2.symm, List.mem_singleton, ← e, ← h1]
/-- the list that neighbours tells -/
def AroundAt (H : Hp) (v : V) (n : Int) (ts : List Tie) : Prop := ∃ L As, v = .ref L ∧ (As.length : Int) = n ∧ Around H L As (fun j => nbs ts j)
theorem AroundAt.same {H H' : Hp} {v : V} {n : Int} {ts : List Tie} (h : AroundAt H v n ts) (s : Same H H') : AroundAt H' v n ts := by
  obtain ⟨L, As, rfl, h1, h2⟩ := h
  exact ⟨L, As, rfl, h1, h2.same s⟩
def spNeighbours : Sp := fun vs H Q _ => ∃ (v : V) (n : Int) (ts : List Tie), vs = [v] ∧ WebAt H v n ts ∧ WebOk n ts ∧
  ∀ v' H', AroundAt H' v' n ts → Same H H' → Q v' H'
section
variable {P : Program} {w : World} {K : PySem.W.Frag} {mg : Str → Option Value} {base : Heap}
theorem ok_neighbours {f : Addr} {fd : FuncData} (F : Fun K "neighbours" "neighbours" s_neighbours f fd) (M : Free mg) : FnOk P w K mg base CX0 1 f fd ["web"] spNeighbours := by
  refine F.ok sc_neighbours (fun vs H Q E h => ?_) (fun cdv A outer s H vs Q E hr h => ?_)
  · obtain ⟨v, n, ts, rfl, _⟩ := h
    rfl
  · obtain ⟨v, n, ts, rfl, ⟨a, b, us, rfl, ha, hb, hp⟩, ok, q⟩ := h
    refine ⟨_, (pss_cons (ps_asg (pv 0) (pg_tup rfl (pgs_cons (pg_name (i := 1) sc_neighbours.nd rfl (.inl rfl)) (pgs_cons (pg_name (i := 2) sc_neighbours.nd rfl (.inl rfl)) pgs_nil))))
      (pss_cons (ps_setLc (i := 3) (own := [("place", 4)]) (g := gName 4) (tt := tYes) rfl sc_neighbours.nd rfl rfl (sw_true rfl rfl rfl (by decide +kernel)) (pi_range1 (by rfl) M.range (pa_cons (pv 1) pa_nil)) (blkOk_by (N := N_neighbours) (sc := defScope s_neighbours) (own := [("place", 4)]) (by decide +kernel)) (fun _ _ _ _ _ => (pg_name (i := 4) sc_neighbours.nd rfl (.inl rfl))) (fun _ _ _ _ _ => pts_nil) (fun _ _ _ _ _ => (pe_lst pa_nil)))
      (pss_cons (ps_for PassesOwn.never rfl (pi_tup (pv 2)) (pg_tup rfl (pgs_cons (pg_name (i := 5) sc_neighbours.nd rfl (.inl rfl)) (pgs_cons (pg_name (i := 6) sc_neighbours.nd rfl (.inl rfl)) (pgs_cons (pg_name (i := 7) sc_neighbours.nd rfl (.inl rfl)) pgs_nil))))
        (pss_cons (ps_expr (pe_bm PySem.F.plainAttrs_list PySem.F.slot_list_append PySem.F.type_list_append mt_append (pe_ix ix_list (pv 3) (pv 5) (fun _ _ => rfl)) (pa_cons (pe_tup (pa_cons (pv 6) (pa_cons (pv 7) pa_nil))) pa_nil)))
        (pss_one (ps_expr (pe_bm PySem.F.plainAttrs_list PySem.F.slot_list_append PySem.F.type_list_append mt_append (pe_ix ix_list (pv 3) (pv 6) (fun _ _ => rfl)) (pa_cons (pe_tup (pa_cons (pv 5) (pa_cons (pv 7) pa_nil))) pa_nil))))))
      (pss_one (ps_ret (pv 3)))))), ?_⟩
    obtain ⟨k, rfl⟩ : ∃ k : Nat, n = k := ⟨n.toNat, by have := ok.lo; omega⟩
    have hk : k ≤ 40 := by have := ok.hi; omega
    -- many, ties = web
    refine ⟨.ref a, rfl, a, _, rfl, SqT.of ha, rfl, _, _, rfl, _, _, rfl, rfl, ?_⟩
    -- around
    refine ⟨.int k, rfl, k, rfl, by omega, by omega, fun L nL => ?_⟩
    rw [Int.toNat_natCast]
    refine lc_range (lo := 0) (n := k) (fun i H' => ∃ As : List Addr, As.length = i ∧ Around H' L As (fun _ => []) ∧ (∀ x ∈ As, H x = none) ∧ Same H H') ?_ ?_ ?_
    · exact ⟨[], rfl, ⟨upd_same, List.nodup_nil, fun j a e => by simp at e, by simp⟩, fun x hx => by simp at hx, same_new nL⟩
    · rintro i H1 hi ⟨As, hl, hA, hf, s1⟩
      refine ⟨rfl, Nat.zero_le _, fun p np => ?_⟩
      have hA2 := hA.same (same_new (o := .lst []) np)
      refine ⟨_, hA2.at', by rw [List.length_map]; exact small1000 (by omega), As ++ [p], by rw [List.length_append, hl]; rfl, ?_, fun x hx => ?_, Same.mut (s1.trans (same_new np)) nL⟩
      · have npA : p ∉ As := fun z => by
          obtain ⟨j, hj⟩ := List.getElem?_of_mem z
          obtain ⟨vs, h1, _⟩ := hA.each j p hj
          rw [np] at h1
          cases h1
        have npL : p ≠ L := fun z => by
          have h1 := hA.at'
          rw [← z, np] at h1
          cases h1
        refine ⟨by rw [upd_same, List.map_append]; rfl, ?_, fun j x e => ?_, ?_⟩
        · rw [List.nodup_append]
          refine ⟨hA.nd, by simp, fun x hx y hy z => ?_⟩
          rw [List.mem_singleton] at hy
          subst hy
          subst z
          exact npA hx
        · have hx : x ≠ L := fun z => by
            subst z
            rcases List.mem_append.mp (List.mem_of_getElem? e) with h | h
            · exact hA.out h
            · exact npL (List.mem_singleton.mp h).symm
          rcases List.mem_append.mp (List.mem_of_getElem? e) with h | h
          · obtain ⟨j2, e2⟩ := List.getElem?_of_mem h
            obtain ⟨vs, h1, h2⟩ := hA2.each j2 x e2
            cases h2
            exact ⟨[], by rw [upd_ne hx]; exact h1, .nil⟩
          · rw [List.mem_singleton] at h
            subst h
            exact ⟨[], by rw [upd_ne hx]; exact upd_same, .nil⟩
        · intro z
          rcases List.mem_append.mp z with h | h
          · exact hA.out h
          · exact npL (List.mem_singleton.mp h).symm
      · rcases List.mem_append.mp hx with h | h
        · exact hf x h
        · rw [List.mem_singleton.mp h]
          exact s1.free np
    rintro H0 ⟨As, hl, hA, hf, s0⟩
    have nLH : H L = none := nL
    -- the loop
    refine ⟨.ref b, rfl, b, rfl, ⟨_, SqT.of (s0 _ _ hb)⟩, ?_⟩
    have hlen : us.length = ts.length := Paired.length hp
    refine for_tup (xs := us) (fun i σ' H' => ∃ y5 y6 y7 : Option V, σ' = [some (.ref a), some (.int k), some (.ref b), some (.ref L), none, y5, y6, y7] ∧ Around H' L As (fun j => nbs (ts.take i) j) ∧ Same H H') ?_ ?_ ?_ ?_
    · exact ⟨none, none, none, rfl, hA, s0⟩
    · rintro i σ' H' _ ⟨y5, y6, y7, rfl, hA1, s1⟩
      exact SqT.of (s1 _ _ hb)
    · rintro i x σ' H1 ex ⟨y5, y6, y7, rfl, hA1, s1⟩
      obtain ⟨t, et, c, rfl, hc⟩ := Paired.at hp ex
      have okt := ok.ok t (List.mem_of_getElem? et)
      have hti := (List.getElem?_eq_some_iff.mp et).1
      have etk : ts.take (i + 1) = ts.take i ++ [t] := by
        rw [List.take_add_one, et]
        rfl
      have hts := ok.few
      refine ⟨c, _, rfl, SqT.of (s1 _ _ hc), rfl, _, _, rfl, _, _, rfl, _, _, rfl, rfl, ?_⟩
      obtain ⟨o1, o2, o3, o4, o5⟩ := okt
      -- the first
      obtain ⟨x1, e1, e1'⟩ := getI (xs := As) o1 (by omega)
      obtain ⟨vs1, g1, p1⟩ := hA1.each _ _ e1'
      have l1 := Paired.length p1
      have l1' := nbs_len (ts.take i) (t.one.toNat : Int)
      rw [List.length_take] at l1'
      refine ⟨.ref L, rfl, .int t.one, rfl, L, _, t.one, .ref x1, rfl, rfl, SqL.of hA1.at', ?_, .inl ⟨rfl, _, SqL.of g1⟩, .int t.other, rfl, .str (kindS t.foe), rfl, by show 2 ≤ sizeLine; decide, fun p np => ?_⟩
      · exact atI_of o1 (by rw [List.getElem?_map, e1']; rfl)
      have A2 := hA1.same (same_new (o := .tup [.int t.other, .str (kindS t.foe)]) np)
      refine ⟨x1, vs1, _, rfl, rfl, same_new np _ _ g1, small1000 (by omega), ?_⟩
      have A3 := A2.put e1' (same_new np _ _ g1) (q := p) (p := (t.other, t.foe)) ⟨p, rfl, upd_same⟩
      have s3 : Same H (upd (upd H1 p (.tup [.int t.other, .str (kindS t.foe)])) x1 (.lst (vs1 ++ [.ref p]))) := Same.mut (s1.trans (same_new np)) (hf _ (List.mem_of_getElem? e1'))
      generalize upd (upd H1 p (.tup [.int t.other, .str (kindS t.foe)])) x1 (.lst (vs1 ++ [.ref p])) = H3 at A3 s3
      -- the second
      obtain ⟨x2, e2, e2'⟩ := getI (xs := As) o3 (by omega)
      obtain ⟨vs2, g2, p2⟩ := A3.each _ _ e2'
      have l2 := Paired.length p2
      rw [List.length_append] at l2
      have l2' := nbs_len (ts.take i) (t.other.toNat : Int)
      rw [List.length_take] at l2'
      have l2'' : (if t.other.toNat = t.one.toNat then [(t.other, t.foe)] else []).length ≤ 1 := by split <;> simp
      refine ⟨.ref L, rfl, .int t.other, rfl, L, _, t.other, .ref x2, rfl, rfl, SqL.of A3.at', ?_, .inl ⟨rfl, _, SqL.of g2⟩, .int t.one, rfl, .str (kindS t.foe), rfl, by show 2 ≤ sizeLine; decide, fun p' np' => ?_⟩
      · exact atI_of o3 (by rw [List.getElem?_map, e2']; rfl)
      have A4 := A3.same (same_new (o := .tup [.int t.one, .str (kindS t.foe)]) np')
      refine ⟨x2, vs2, _, rfl, rfl, same_new np' _ _ g2, small1000 (by omega), ?_⟩
      have A5 := A4.put e2' (same_new np' _ _ g2) (q := p') (p := (t.one, t.foe)) ⟨p', rfl, upd_same⟩
      refine ⟨_, _, _, rfl, ?_, Same.mut (s3.trans (same_new np')) (hf _ (List.mem_of_getElem? e2'))⟩
      refine ⟨A5.at', A5.nd, fun j z ez => ?_, A5.out⟩
      obtain ⟨ws, w1, w2⟩ := A5.each j z ez
      refine ⟨ws, w1, ?_⟩
      rw [etk, nbs_snoc]
      have en : nb1 t j = (if j = t.one.toNat then [(t.other, t.foe)] else []) ++ (if j = t.other.toNat then [(t.one, t.foe)] else []) := by
        unfold nb1
        congr 1
        · by_cases h : j = t.one.toNat
          · rw [if_pos h, if_pos (by omega)]
          · rw [if_neg h, if_neg (by omega)]
        · by_cases h : j = t.other.toNat
          · rw [if_pos h, if_pos (by omega)]
          · rw [if_neg h, if_neg (by omega)]
      rw [en, ← List.append_assoc]
      exact w2
    · rintro σ' H1 ⟨y5, y6, y7, rfl, hA1, s1⟩
      rw [hlen, List.take_length] at hA1
      exact ⟨.ref L, rfl, q _ _ ⟨L, As, rfl, by rw [hl], hA1⟩ s1⟩
end
/-! ### the places that ties lead to -/
def sideI (b : Bool) : Int := if b then 1 else 0
def kvOf (ks : List Nb) : List (Key × V) := ks.map fun p => (Sum.inl p.1, V.int (sideI p.2))
theorem kvOf_none {z : Int} : ∀ {ks : List Nb}, z ∉ ks.map (·.1) → valV (kvOf ks) (Sum.inl z) = none
  | [], _ => rfl
  | p :: ks, h => by
    rw [List.map_cons, List.mem_cons, not_or] at h
    have e := kvOf_none (ks := ks) h.2
    have h1 := h.1
    unfold kvOf at e ⊢
    rw [List.map_cons, valV_neg (fun z => h1 (Sum.inl.inj z).symm)]
    exact e
theorem kvOf_some {z : Int} {b : Bool} : ∀ {ks : List Nb}, (ks.map (·.1)).Nodup → (z, b) ∈ ks → valV (kvOf ks) (Sum.inl z) = some (.int (sideI b))
  | p :: ks, nd, h => by
    rw [List.map_cons, List.nodup_cons] at nd
    rcases List.mem_cons.mp h with e | e
    · subst e
      unfold kvOf
      rw [List.map_cons, valV_pos rfl]
    · have q := kvOf_some (ks := ks) nd.2 e
      have ne : p.1 ≠ z := fun y => nd.1 (by rw [y]; exact List.mem_map.mpr ⟨_, e, rfl⟩)
      unfold kvOf at q ⊢
      rw [List.map_cons, valV_neg (fun y => ne (Sum.inl.inj y))]
      exact q
theorem kvOf_put {ks : List Nb} {z : Int} {b : Bool} (h : z ∉ ks.map (·.1)) : putK (kvOf ks) (Sum.inl z) (.int (sideI b)) = kvOf (ks ++ [(z, b)]) := by
  unfold putK
  rw [if_neg]
  · unfold kvOf
    rw [List.map_append]
    rfl
  · intro g
    rw [List.any_eq_true] at g
    obtain ⟨kv, h1, h2⟩ := g
    unfold kvOf at h1
    rw [List.mem_map] at h1
    obtain ⟨p, hp, rfl⟩ := h1
    exact h (List.mem_map.mpr ⟨p, hp, Sum.inl.inj (of_decide_eq_true h2)⟩)
theorem kvOf_len (ks : List Nb) : (kvOf ks).length = ks.length := by unfold kvOf; rw [List.length_map]
theorem pigeon : ∀ (n : Nat) (xs : List Int), xs.Nodup → (∀ x ∈ xs, 0 ≤ x ∧ x < n) → xs.length ≤ n
  | 0, xs, _, h => by
    cases xs with
    | nil => simp
    | cons x r =>
      have := h x (by simp)
      omega
  | n + 1, xs, nd, h => by
    have q := pigeon n (xs.erase (n : Int)) (nd.erase _) fun x hx => by
      have h1 := h x (List.mem_of_mem_erase hx)
      have h2 : x ≠ n := (List.Nodup.mem_erase_iff nd).mp hx |>.1
      omega
    have l := List.length_erase (a := (n : Int)) (l := xs)
    split at l
    · omega
    · omega
structure SF (ts : List Tie) (s : Int) (ks : List Nb) (wl ex : List Int) : Prop where
  nd : (ks.map (·.1)).Nodup
  rp : ∀ p ∈ ks, RP ts s p.1 p.2
  st : s ∈ ks.map (·.1)
  sub : ∀ x ∈ wl, x ∈ ks.map (·.1)
  le : wl.length ≤ ks.length
  cl : ∀ x ∈ ks.map (·.1), x ∉ wl → x ∉ ex → ∀ y k, Adj ts x y k → y ∈ ks.map (·.1)
theorem SF.keys {ts : List Tie} {s : Int} {ks : List Nb} {wl ex : List Int} (h : SF ts s ks wl ex) {x : Int} (hx : x ∈ ks.map (·.1)) : ∃ b, (x, b) ∈ ks ∧ RP ts s x b := by
  obtain ⟨p, hp, rfl⟩ := List.mem_map.mp hx
  exact ⟨p.2, hp, h.rp p hp⟩
theorem SF.few {ts : List Tie} {n : Nat} {s : Int} {ks : List Nb} {wl ex : List Int} (h : SF ts s ks wl ex) (ok : ∀ t ∈ ts, TieOk n t) (hs : 0 ≤ s ∧ s < n) : ks.length ≤ n := by
  have q := pigeon n (ks.map (·.1)) h.nd fun x hx => by
    obtain ⟨b, _, hb⟩ := h.keys hx
    exact Rch.rng ok hs ⟨b, hb⟩
  rw [List.length_map] at q
  exact q
theorem SF.all {ts : List Tie} {s : Int} {ks : List Nb} (h : SF ts s ks [] []) (z : Int) : z ∈ ks.map (·.1) ↔ Rch ts s z := by
  constructor
  · intro hz
    obtain ⟨b, _, hb⟩ := h.keys hz
    exact ⟨b, hb⟩
  · intro hz
    exact hz.ind (fun x => x ∈ ks.map (·.1)) h.st fun x y k hx ad => h.cl x hx (by simp) (by simp) y k ad
theorem SF.pop {ts : List Tie} {s p : Int} {ks : List Nb} {wl : List Int} (h : SF ts s ks (wl ++ [p]) []) : SF ts s ks wl [p] :=
  ⟨h.nd, h.rp, h.st, fun x hx => h.sub x (List.mem_append_left _ hx), by have := h.le; rw [List.length_append] at this; omega, fun x hx h1 h2 => h.cl x hx (fun z => by
    rcases List.mem_append.mp z with z | z
    · exact h1 z
    · exact h2 z) (by simp)⟩
theorem SF.push {ts : List Tie} {s p y : Int} {b f : Bool} {ks : List Nb} {wl : List Int} (h : SF ts s ks wl [p]) (hp : RP ts s p b) (ad : Adj ts p y f) (hy : y ∉ ks.map (·.1)) : SF ts s (ks ++ [(y, b ^^ f)]) (wl ++ [y]) [p] := by
  have em : (ks ++ [(y, b ^^ f)]).map (·.1) = ks.map (·.1) ++ [y] := by rw [List.map_append]; rfl
  refine ⟨?_, fun q hq => ?_, ?_, fun x hx => ?_, ?_, fun x hx h1 h2 z k hz => ?_⟩
  · rw [em, List.nodup_append]
    refine ⟨h.nd, by simp, fun x hx z hz e => ?_⟩
    rw [List.mem_singleton] at hz
    subst hz
    subst e
    exact hy hx
  · rcases List.mem_append.mp hq with q1 | q1
    · exact h.rp q q1
    · rw [List.mem_singleton] at q1
      subst q1
      exact hp.step ad
  · rw [em]
    exact List.mem_append_left _ h.st
  · rw [em]
    rcases List.mem_append.mp hx with q1 | q1
    · exact List.mem_append_left _ (h.sub x q1)
    · exact List.mem_append_right _ q1
  · rw [List.length_append, List.length_append]
    have := h.le
    simp
    omega
  · rw [em] at hx ⊢
    rcases List.mem_append.mp hx with q1 | q1
    · exact List.mem_append_left _ (h.cl x q1 (fun q2 => h1 (List.mem_append_left _ q2)) h2 z k hz)
    · exact absurd (List.mem_append_right _ q1) h1
theorem SF.done {ts : List Tie} {s p : Int} {ks : List Nb} {wl : List Int} (h : SF ts s ks wl [p]) (hp : ∀ q ∈ nbs ts p, q.1 ∈ ks.map (·.1)) : SF ts s ks wl [] :=
  ⟨h.nd, h.rp, h.st, h.sub, h.le, fun x hx h1 _ y k ad => by
    by_cases e : x = p
    · subst e
      exact hp (y, k) (mem_nbs.mpr ad)
    · exact h.cl x hx h1 (fun z => e (List.mem_singleton.mp z)) y k ad⟩
theorem side_xor (b f : Bool) : (if decide (V.str (kindS f) = V.str "friend") = true then sideI b else 1 - sideI b) = sideI (b ^^ f) := by
  cases f
  · cases b <;> rfl
  · cases b <;> rfl
theorem room1 {k : Nat} {A : PySem.Around} (r : Room k A) : A.units + 1 < cLine := by have := r.un; omega
structure SidesOf (ts : List Tie) (s : Int) (ks : List Nb) : Prop where
  nd : (ks.map (·.1)).Nodup
  rp : ∀ p ∈ ks, RP ts s p.1 p.2
  all : ∀ z, z ∈ ks.map (·.1) ↔ Rch ts s z
def spSidesFrom : Sp := fun vs H Q _ => ∃ (v : V) (n : Int) (s : Int) (ts : List Tie), vs = [.int s, v] ∧ AroundAt H v n ts ∧ WebOk n ts ∧ 0 ≤ s ∧ s < n ∧
  ∀ d ks H', H d = none → H' d = some (.dK (kvOf ks)) → Same H H' → SidesOf ts s ks → Q (.ref d) H'
section
variable {P : Program} {w : World} {K : PySem.W.Frag} {mg : Str → Option Value} {base : Heap}
theorem ok_sides_from {f : Addr} {fd : FuncData} (F : Fun K "sides_from" "sides_from" s_sides_from f fd) (M : Free mg) : FnOk P w K mg base CX0 1 f fd ["start", "around"] spSidesFrom := by
  refine F.ok sc_sides_from (fun vs H Q E h => ?_) (fun cdv A outer sh H vs Q E hr h => ?_)
  · obtain ⟨v, n, s, ts, rfl, _⟩ := h
    rfl
  · obtain ⟨v, n, s, ts, rfl, ⟨L, As, rfl, hl, hA⟩, ok, hs0, hs1, q⟩ := h
    have hu := room1 hr
    refine ⟨_, (pss_cons (ps_set (i := 2) sc_sides_from.nd rfl (.inl rfl) (pe_disp (pps_cons (pv 0) pe_int pps_nil) (by rfl) (by rfl) (fun z => by cases z) (by decide)))
      (pss_cons (ps_set (i := 3) sc_sides_from.nd rfl (.inl rfl) (pe_lst (pa_cons (pv 0) pa_nil)))
      (pss_cons (ps_while PassesOwn.never (pt_truth (pv 3) (by intro _; rfl))
        (pss_cons (ps_set (i := 4) sc_sides_from.nd rfl (.inl rfl) (pe_bm0 PySem.F.plainAttrs_list PySem.F.slot_list_pop PySem.F.type_list_pop mt_pop (pv 3)))
        (pss_one (ps_for PassesOwn.never rfl (pi_list (pe_ix ix_list (pv 1) (pv 4) (fun _ _ => rfl))) (pg_tup rfl (pgs_cons (pg_name (i := 5) sc_sides_from.nd rfl (.inl rfl)) (pgs_cons (pg_name (i := 6) sc_sides_from.nd rfl (.inl rfl)) pgs_nil)))
          (pss_one (ps_if (pt_cmp (pc_dnotin hu (pv 5) (pv 2)))
            (Evl.pss_cut (ps_dput hu (pv 2) (pv 5) (pe_ifExp (pt_cmpR op_eq (pv 6) pe_str (nomark _)) (pe_dget hu (pv 2) (pv 4) (fun _ _ => rfl)) (pe_op op_sub pe_int (pe_dget hu (pv 2) (pv 4) (fun _ _ => rfl)))) rfl)
            (pss_one (ps_expr (pe_bm PySem.F.plainAttrs_list PySem.F.slot_list_append PySem.F.type_list_append mt_append (pv 3) (pa_cons (pv 5) pa_nil)))))
            pss_nil))))))
      (pss_one (ps_ret (pv 2)))))), ?_⟩
    obtain ⟨k, rfl⟩ : ∃ k : Nat, n = k := ⟨n.toNat, by have := ok.lo; omega⟩
    have hk : k ≤ 40 := by have := ok.hi; omega
    have hts := ok.few
    -- sides
    refine fun d nd => ⟨.int s, rfl, upd_same, [(Sum.inl s, .int 0)], rfl, (by show 1 ≤ 15; decide), ?_⟩
    have eH : upd (upd H d (.dK [])) d (.dK (mergeK [] [(Sum.inl s, .int 0)])) = upd H d (.dK (kvOf [(s, false)])) := by
      funext b
      by_cases hb : b = d
      · subst hb
        rw [upd_same, upd_same]
        rfl
      · rw [upd_ne hb, upd_ne hb, upd_ne hb]
    rw [eH]
    -- waiting
    refine ⟨.int s, rfl, by show 1 ≤ sizeLine; decide, fun W nW => ?_⟩
    have hdW : W ≠ d := (ne_of_none upd_same nW).symm
    have nWH : H W = none := by rw [upd_ne hdW] at nW; exact nW
    refine ⟨fun m σ' H' => ∃ (y4 y5 y6 : Option V) (ks : List Nb) (wl : List Int), σ' = [some (.int s), some (.ref L), some (.ref d), some (.ref W), y4, y5, y6] ∧ H' d = some (.dK (kvOf ks)) ∧ H' W = some (.lst (wl.map V.int)) ∧ Same H H' ∧ SF ts s ks wl [] ∧ m = 2 * (k - ks.length) + wl.length, ⟨_, none, none, none, [(s, false)], [s], rfl, ?_, upd_same, Same.mut (same_new nd) nWH, ?_, rfl⟩, ?_⟩
    · rw [upd_ne (Ne.symm hdW)]
      exact upd_same
    · exact ⟨by simp, fun p hp => by rw [List.mem_singleton.mp hp]; exact .nil, by simp, fun x hx => hx, Nat.le_refl _, fun x hx h1 => absurd hx h1⟩
    · rintro m σ' H1 ⟨y4, y5, y6, ks, wl, rfl, hd, hW, s1, sf, hm⟩
      refine ⟨.ref W, rfl, _, .inl ⟨_, SqL.of hW, rfl⟩, ?_⟩
      refine ite2 (fun hb => ?_) (fun hb => ?_)
      · -- a place
        cases hwl : wl with
        | nil => rw [hwl] at hb; cases hb
        | cons z zs =>
        obtain ⟨ys, p, e⟩ : ∃ (ys : List Int) (p : Int), z :: zs = ys ++ [p] := ⟨(z :: zs).dropLast, (z :: zs).getLast (by simp), (List.dropLast_concat_getLast (by simp)).symm⟩
        rw [hwl, e] at hW sf hm
        have hpk := sf.sub p (by simp)
        obtain ⟨b, hb1, hb2⟩ := sf.keys hpk
        have hpr := Rch.rng ok.ok ⟨hs0, hs1⟩ ⟨b, hb2⟩
        have sp := sf.pop
        have e3 : ((ys ++ [p]).map V.int).dropLast = ys.map V.int := by simp
        refine ⟨fun σ' H' => ∃ m', m' < m ∧ ∃ (y4 y5 y6 : Option V) (ks : List Nb) (wl : List Int), σ' = [some (.int s), some (.ref L), some (.ref d), some (.ref W), y4, y5, y6] ∧ H' d = some (.dK (kvOf ks)) ∧ H' W = some (.lst (wl.map V.int)) ∧ Same H H' ∧ SF ts s ks wl [] ∧ m' = 2 * (k - ks.length) + wl.length, fun _ _ h => h, ?_⟩
        refine ⟨.ref W, rfl, .inl ⟨rfl, _, SqL.of hW⟩, W, _, .int p, rfl, rfl, hW, by simp, ?_⟩
        rw [e3]
        have hd2 : (upd H1 W (.lst (ys.map V.int))) d = some (.dK (kvOf ks)) := by rw [upd_ne (Ne.symm hdW)]; exact hd
        have hW2 : (upd H1 W (.lst (ys.map V.int))) W = some (.lst (ys.map V.int)) := upd_same
        have s2 : Same H (upd H1 W (.lst (ys.map V.int))) := Same.mut s1 nWH
        generalize upd H1 W (.lst (ys.map V.int)) = H2 at hd2 hW2 s2
        have A2 := hA.same s2
        obtain ⟨x, ex, ex'⟩ := getI (xs := As) hpr.1 (by omega)
        obtain ⟨us, g, pr⟩ := A2.each _ _ ex'
        have epk : ((p.toNat : Nat) : Int) = p := by omega
        rw [epk] at pr
        refine ⟨.ref L, rfl, .int p, rfl, L, _, p, .ref x, rfl, rfl, SqL.of A2.at', atI_of hpr.1 (by rw [List.getElem?_map, ex']; rfl), x, rfl, ⟨_, SqL.of g⟩, ?_⟩
        have gH : H x = some (.lst us) := by
          obtain ⟨us', g', _⟩ := hA.each _ _ ex'
          rw [s2 _ _ g'] at g
          cases g
          exact g'
        refine for_list (xs := us) (fun i σ' H' => ∃ (y5 y6 : Option V) (ks : List Nb) (wl : List Int), σ' = [some (.int s), some (.ref L), some (.ref d), some (.ref W), some (.int p), y5, y6] ∧ H' d = some (.dK (kvOf ks)) ∧ H' W = some (.lst (wl.map V.int)) ∧ Same H H' ∧ SF ts s ks wl [p] ∧ (p, b) ∈ ks ∧ (∀ q ∈ (nbs ts p).take i, q.1 ∈ ks.map (·.1)) ∧ 2 * (k - ks.length) + wl.length < m) ?_ ?_ ?_ ?_
        · exact ⟨y5, y6, ks, ys, rfl, hd2, hW2, s2, sp, hb1, fun q hq => by simp at hq, by rw [hm, List.length_append]; simp⟩
        · rintro i σ' H' _ ⟨y5, y6, ks, wl, rfl, _, _, s3, _⟩
          exact SqL.of (s3 _ _ gH)
        · rintro i u σ' H3 eu ⟨y5, y6, ks, wl, rfl, hd3, hW3, s3, sf3, hb3, hdn, hlt⟩
          have A3 := hA.same s3
          obtain ⟨us', g', pr'⟩ := A3.each _ _ ex'
          rw [s3 _ _ gH] at g'
          cases g'
          rw [epk] at pr'
          obtain ⟨⟨y, fo⟩, ey, c, rfl, hc⟩ := Paired.at pr' eu
          have ady := mem_nbs.mp (List.mem_of_getElem? ey)
          have few := sf3.few ok.ok ⟨hs0, hs1⟩
          have etk : (nbs ts p).take (i + 1) = (nbs ts p).take i ++ [(y, fo)] := by
            rw [List.take_add_one, ey]
            rfl
          refine ⟨c, _, rfl, SqT.of hc, rfl, _, _, rfl, _, _, rfl, rfl, ?_⟩
          refine ⟨.int y, rfl, .ref d, rfl, d, _, rfl, DGet.k (k := Sum.inl y) hd3, _, rfl, ?_⟩
          by_cases hy : y ∈ ks.map (·.1)
          · obtain ⟨yb, yb1, _⟩ := sf3.keys hy
            rw [kvOf_some sf3.nd yb1]
            refine ⟨_, _, ks, wl, rfl, hd3, hW3, s3, sf3, hb3, fun q hq => ?_, hlt⟩
            rw [etk] at hq
            rcases List.mem_append.mp hq with h | h
            · exact hdn q h
            · rw [List.mem_singleton.mp h]
              exact hy
          · rw [kvOf_none hy]
            have sfp := sf3.push (sf3.rp _ hb3) ady hy
            have few2 := sfp.few ok.ok ⟨hs0, hs1⟩
            have lks : (kvOf ks).length < sizeLine := by rw [kvOf_len]; exact small1000 (by omega)
            have vp := kvOf_some sf3.nd hb3
            have ep := kvOf_put (b := b ^^ fo) hy
            refine ⟨fun σ' H' => σ' = [some (.int s), some (.ref L), some (.ref d), some (.ref W), some (.int p), some (.int y), some (.str (kindS fo))] ∧ H' = upd H3 d (.dK (kvOf (ks ++ [(y, b ^^ fo)]))), ?_, ?_⟩
            · refine ⟨.str (kindS fo), rfl, rfl, _, rfl, ?_⟩
              rw [← ep]
              cases fo
              · refine ⟨.ref d, rfl, .int p, rfl, d, _, rfl, (by rw [← vp]; exact DGet.k (k := Sum.inl p) hd3), .ref d, rfl, .int y, rfl, d, _, rfl, DPut.k (k := Sum.inl y) hd3 lks, rfl, ?_⟩
                rw [Bool.xor_false]
              · refine ⟨.ref d, rfl, .int p, rfl, d, _, rfl, (by rw [← vp]; exact DGet.k (k := Sum.inl p) hd3), 1, sideI b, rfl, rfl, .ref d, rfl, .int y, rfl, d, _, rfl, DPut.k (k := Sum.inl y) hd3 lks, rfl, ?_⟩
                cases b <;> rfl
            · rintro σ' H4 ⟨rfl, rfl⟩
              have hW4 : (upd H3 d (.dK (kvOf (ks ++ [(y, b ^^ fo)])))) W = some (.lst (wl.map V.int)) := by rw [upd_ne hdW]; exact hW3
              have lw := sf3.le
              refine ⟨.ref W, rfl, .inl ⟨rfl, _, SqL.of hW4⟩, .int y, rfl, W, _, _, rfl, rfl, hW4, by rw [List.length_map]; exact small1000 (by omega), ?_⟩
              refine ⟨_, _, ks ++ [(y, b ^^ fo)], wl ++ [y], rfl, ?_, by rw [upd_same, List.map_append]; rfl, Same.mut (Same.mut s3 nd) nWH, sfp, List.mem_append_left _ hb3, fun q hq => ?_, ?_⟩
              · rw [upd_ne (Ne.symm hdW)]
                exact upd_same
              · rw [List.map_append]
                rw [etk] at hq
                rcases List.mem_append.mp hq with h | h
                · exact List.mem_append_left _ (hdn q h)
                · rw [List.mem_singleton.mp h]
                  exact List.mem_append_right _ (by simp)
              · rw [List.length_append] at few2 ⊢
                rw [List.length_append]
                simp only [List.length_cons, List.length_nil] at few2 ⊢
                omega
        · rintro σ' H3 ⟨y5, y6, ks, wl, rfl, hd3, hW3, s3, sf3, hb3, hdn, hlt⟩
          rw [Paired.length pr, List.take_length] at hdn
          exact ⟨_, hlt, _, _, _, ks, wl, rfl, hd3, hW3, s3, sf3.done hdn, rfl⟩
      · -- none is left
        have hwl : wl = [] := by
          cases wl with
          | nil => rfl
          | cons z zs => exact absurd rfl hb
        subst hwl
        exact ⟨.ref d, rfl, q d ks H1 nd hd s1 ⟨sf.nd, sf.rp, sf.all⟩⟩
end
theorem mem_putK {k z : Key} {v : V} {kvs : List (Key × V)} : z ∈ (putK kvs k v).map (·.1) ↔ z ∈ kvs.map (·.1) ∨ z = k := by
  unfold putK
  split
  · rename_i h
    rw [List.any_eq_true] at h
    obtain ⟨kv, h1, h2⟩ := h
    have h3 := of_decide_eq_true h2
    rw [List.map_map]
    have e : (Prod.fst ∘ fun kv : Key × V => if kv.1 = k then (kv.1, v) else kv) = Prod.fst := by
      funext p
      show (if p.1 = k then (p.1, v) else p).1 = p.1
      split <;> rfl
    rw [show ((fun x : Key × V => x.1) ∘ fun kv : Key × V => if kv.1 = k then (kv.1, v) else kv) = Prod.fst from e]
    constructor
    · exact .inl
    · rintro (h | h)
      · exact h
      · rw [h, ← h3]
        exact List.mem_map.mpr ⟨kv, h1, rfl⟩
  · rw [List.map_append, List.mem_append]
    simp
theorem mem_mergeK {z : Key} : ∀ {more kvs : List (Key × V)}, z ∈ (mergeK kvs more).map (·.1) ↔ z ∈ kvs.map (·.1) ∨ z ∈ more.map (·.1)
  | [], kvs => by
    show z ∈ kvs.map (·.1) ↔ _
    simp
  | p :: r, kvs => by
    have q := mem_mergeK (z := z) (more := r) (kvs := putK kvs p.1 p.2)
    rw [mem_putK] at q
    show z ∈ (mergeK (putK kvs p.1 p.2) r).map (·.1) ↔ _
    rw [q, List.map_cons, List.mem_cons, or_assoc]
theorem valV_isSome {k : Key} : ∀ {kvs : List (Key × V)}, (valV kvs k).isSome = true ↔ k ∈ kvs.map (·.1)
  | [] => by simp [valV_nil]
  | p :: r => by
    by_cases h : p.1 = k
    · rw [valV_pos h, List.map_cons, List.mem_cons]
      simp [h]
    · rw [valV_neg h, List.map_cons, List.mem_cons, valV_isSome]
      constructor
      · exact .inr
      · rintro (e | e)
        · exact absurd e.symm h
        · exact e
theorem kvOf_keys (ks : List Nb) : (kvOf ks).map (·.1) = (ks.map (·.1)).map Sum.inl := by
  unfold kvOf
  rw [List.map_map, List.map_map]
  rfl
theorem lead_iff {ts : List Tie} {n : Nat} (ok : ∀ t ∈ ts, TieOk n t) {i : Int} (h0 : 0 ≤ i ∧ i < n) : leader ts i ↔ ¬ ∃ x, 0 ≤ x ∧ x < i ∧ Rch ts x i := by
  constructor
  · rintro h ⟨x, h1, h2, h3⟩
    have := h x h3.symm
    omega
  · intro h q hq
    rcases Int.lt_or_le q i with l | l
    · exact absurd ⟨q, (hq.rng ok h0).1, l, hq.symm⟩ h
    · exact l
theorem rgV_ints (n : Nat) : rgV 0 n = (rng n).map V.int := by
  unfold rgV rng
  rw [List.map_map, show ((n : Int) - 0).toNat = n from by omega]
  refine List.map_congr_left fun i _ => ?_
  show V.int (0 + (i : Int)) = V.int i
  rw [Int.zero_add]
/-! ### the law: the least place that each comes to -/
def lf (f : Int → Int) (n : Nat) : List V := (rng n).map fun i => V.int (f i)
theorem lf_len (f : Int → Int) (n : Nat) : (lf f n).length = n := by unfold lf; rw [List.length_map, rng_length]
theorem lf_get? (f : Int → Int) {n j : Nat} (h : j < n) : (lf f n)[j]? = some (.int (f j)) := by
  unfold lf rng
  rw [List.map_map, List.getElem?_map, List.getElem?_range h]
  rfl
theorem lf_at (f : Int → Int) {n : Nat} {i : Int} (h0 : 0 ≤ i) (h1 : i < n) : atI (lf f n) i = some (.int (f i)) := by
  have e : ((i.toNat : Nat) : Int) = i := by omega
  refine atI_of h0 ?_
  rw [lf_get? f (by omega), e]
theorem lf_set (f : Int → Int) {n : Nat} {i y : Int} (h0 : 0 ≤ i) (h1 : i < n) : (lf f n).set i.toNat (.int y) = lf (fun x => if x = i then y else f x) n := by
  refine List.ext_getElem? fun j => ?_
  rw [List.getElem?_set]
  by_cases hj : j < n
  · by_cases e : i.toNat = j
    · rw [if_pos e, if_pos (by rw [lf_len]; omega), lf_get? _ hj, if_pos (by omega)]
    · rw [if_neg e, lf_get? _ hj, lf_get? _ hj, if_neg (by omega)]
  · have e : i.toNat ≠ j := by omega
    rw [if_neg e, List.getElem?_eq_none (by rw [lf_len]; omega), List.getElem?_eq_none (by rw [lf_len]; omega)]
theorem ixN_of {n : Nat} {i : Int} (h0 : 0 ≤ i) (h1 : i < n) : ixN n i = some i.toNat := by
  unfold ixN
  rw [if_pos (by omega), if_pos (by omega)]
/-! ### the fixed choice, as it is told -/
def spFixed : Sp := fun vs H Q _ => ∃ (v : V) (n : Nat) (ts : List Tie), vs = [v] ∧ WebAt H v n ts ∧ WebOk n ts ∧
  (∀ ss r H', Told ts n ss → Cons ss ts → Same H H' → H' r = some (.tup (ss.map V.int)) → Q (.ref r) H') ∧ ∀ H', Odd ts n → Same H H' → Q .non H'
theorem valV_merge : ∀ {more kvs : List (Key × V)} {k : Key} {v : V}, valV (mergeK kvs more) k = some v → valV kvs k = some v ∨ (k, v) ∈ more
  | [], _, _, _, h => .inl h
  | p :: r, kvs, k, v, h => by
    have q := valV_merge (more := r) (kvs := putK kvs p.1 p.2) (k := k) (v := v) h
    rcases q with q | q
    · rw [valV_put] at q
      by_cases e : k = p.1
      · rw [if_pos e] at q
        obtain rfl := Option.some.inj q
        exact .inr (by rw [e]; simp)
      · rw [if_neg e] at q
        exact .inl q
    · exact .inr (List.mem_cons_of_mem _ q)
theorem told_of {ts : List Tie} {n : Nat} {ss : List Int} (hl : ss.length = n) (h : ∀ (i : Nat) (x : Int), ss[i]? = some x → ∃ m b, leader ts m ∧ RP ts m i b ∧ x = sideI b) : Told ts n ss := by
  refine ⟨hl, fun x hx => ?_, fun i h0 h1 => ?_⟩
  · obtain ⟨i, hi⟩ := List.getElem?_of_mem hx
    obtain ⟨m, b, _, _, rfl⟩ := h i x hi
    cases b
    · exact .inl rfl
    · exact .inr rfl
  · obtain ⟨h', e⟩ := sd_get (ss := ss) h0 (by rw [hl]; exact h1)
    obtain ⟨m, b, l, r, ex⟩ := h i.toNat _ (List.getElem?_eq_getElem h')
    refine ⟨m, l, ?_⟩
    have e2 : one? ss i = b := by
      unfold one?
      rw [e, ex]
      cases b <;> rfl
    rw [e2]
    rw [show ((i.toNat : Nat) : Int) = i from by omega] at r
    exact r
section
variable {P : Program} {w : World} {K : PySem.W.Frag} {mg : Str → Option Value} {base : Heap}
theorem ok_sides_of {f : Addr} {fd : FuncData} (F : Fun K "sides_of" "sides_of" s_sides_of f fd) (M : Free mg) (D1 : Df P w K mg base 1 "neighbours" ["web"] spNeighbours) (D2 : Df P w K mg base 1 "sides_from" ["start", "around"] spSidesFrom) (D3 : Df P w K mg base 2 "broken_by" ["web", "sides"] spBroken) : FnOk P w K mg base CX0 3 f fd ["web"] spFixed := by
  obtain ⟨f1, fd1, G1, g1, k1, b1⟩ := D1
  obtain ⟨f2, fd2, G2, g2, k2, b2⟩ := D2
  obtain ⟨f3, fd3, G3, g3, k3, b3⟩ := D3
  refine F.ok sc_sides_of (fun vs H Q E h => ?_) (fun cdv A outer sh H vs Q E hr h => ?_)
  · obtain ⟨v, n, ts, rfl, _⟩ := h
    rfl
  · obtain ⟨v, n, ts, rfl, hw, ok, q, qn⟩ := h
    have hu := room1 hr
    have hr1 : Room 1 _ := hr.mono (by decide : 1 ≤ 2)
    have hk : n ≤ 40 := by have := ok.hi; omega
    refine ⟨_, (pss_cons (ps_set (i := 1) sc_sides_of.nd rfl (.inl rfl) (pe_call G1 hr1 (by rfl) g1 k1 b1 .nil pass0 (pa_cons (pv 0) pa_nil)))
      (pss_cons (ps_set (i := 2) sc_sides_of.nd rfl (.inr rfl) pe_dnewK)
      (Evl.pss_cut (ps_for PassesOwn.never rfl (pi_range1 (by rfl) M.range (pa_cons (pe_ix ix_tup (pv 0) pe_int (fun _ _ => rfl)) pa_nil)) (pg_name (i := 3) sc_sides_of.nd rfl (.inl rfl))
        (pss_one (ps_if (pt_cmp (pc_dnotin hu (pv 3) (pv 2)))
          (pss_one (ps_expr (pe_bm PySem.F.plainAttrs_dict PySem.F.slot_dict_update PySem.F.type_dict_update mt_update (pv 2) (pa_cons (pe_call G2 hr1 (by rfl) g2 k2 b2 .nil pass0 (pa_cons (pv 3) (pa_cons (pv 1) pa_nil))) pa_nil))))
          pss_nil)))
      (pss_cons (ps_set (i := 4) sc_sides_of.nd rfl (.inl rfl) (pe_callTy call_tuple_of (by rfl) M.tuple (by decide +kernel) (pa_cons (pe_lc (own := [("place", 5)]) (g := gName 5) (tt := tYes) rfl sc_sides_of.nd (pi_range1 (by rfl) M.range (pa_cons (pe_ix ix_tup (pv 0) pe_int (fun _ _ => rfl)) pa_nil)) (blkOk_by (N := N_sides_of) (sc := defScope s_sides_of) (own := [("place", 5)]) (by decide +kernel)) (fun _ _ _ _ _ => (pg_name (i := 5) sc_sides_of.nd rfl (.inl rfl))) (fun _ _ _ _ _ => pts_nil) (fun _ _ _ _ _ => (pe_dget hu (pv 2) (pv 5) (fun _ _ => rfl)))) pa_nil)))
      (pss_cons (ps_if (pt_cmpR (op_neD hr.units) (pe_call G3 hr (by rfl) g3 k3 b3 .nil pass0 (pa_cons (pv 0) (pa_cons (pv 4) pa_nil))) (pe_tup pa_nil) (nomark _))
        (pss_one (ps_ret pe_non))
        pss_nil)
      (pss_one (ps_ret (pv 4)))))))), ?_⟩
    -- around, told
    refine ⟨v, rfl, v, n, ts, rfl, hw, ok, fun u H1 hA s1 pD nD => ?_⟩
    have nDH : H pD = none := s1.free nD
    have sA : Same H1 (upd H1 pD (.dK [])) := same_new nD
    have hw0 := hw
    obtain ⟨a, b, vs, rfl, ha, hb, hp⟩ := hw
    refine ⟨fun σ' H' => ∃ (y3 : Option V) (kvs : List (Key × V)), σ' = [some (.ref a), some u, some (.ref pD), y3, none, none] ∧ H' pD = some (.dK kvs) ∧ (∀ i : Nat, i < n → ∃ m b, leader ts m ∧ RP ts m i b ∧ valV kvs (Sum.inl (i : Int)) = some (.int (sideI b))) ∧ Same H1 H', ?_, ?_⟩
    · refine ⟨.ref a, rfl, a, _, 0, .int n, rfl, rfl, SqT.of (sA _ _ (s1 _ _ ha)), rfl, n, rfl, by omega, by omega, ?_⟩
      rw [Int.toNat_natCast]
      refine for_range (lo := 0) (n := n) (fun i σ' H' => ∃ (y3 : Option V) (kvs : List (Key × V)), σ' = [some (.ref a), some u, some (.ref pD), y3, none, none] ∧ H' pD = some (.dK kvs) ∧ kvs.length ≤ 40 * i ∧
        (∀ z, z ∈ kvs.map (·.1) ↔ ∃ y, z = Sum.inl y ∧ ∃ x, 0 ≤ x ∧ x < (i : Int) ∧ Rch ts x y) ∧ (∀ (y : Int) (v : V), valV kvs (Sum.inl y) = some v → ∃ m b, leader ts m ∧ RP ts m y b ∧ v = .int (sideI b)) ∧ Same H1 H') ?_ ?_ ?_
      · refine ⟨none, [], rfl, upd_same, by simp, fun z => ⟨fun h => by simp at h, ?_⟩, (fun y v h => by cases h), sA⟩
        rintro ⟨y, _, x, h1, h2, _⟩
        omega
      · rintro i σ' H2 hi ⟨y3, kvs, rfl, hD, hlen, hkeys, hvals, s2⟩
        rw [show (0 : Int) + (i : Nat) = i from by omega]
        have hir : 0 ≤ (i : Int) ∧ (i : Int) < n := by omega
        refine ⟨.int i, rfl, .ref pD, rfl, pD, _, rfl, DGet.k (k := Sum.inl (i : Int)) hD, _, rfl, ?_⟩
        have nx : ∀ y : Int, (∃ x, 0 ≤ x ∧ x < ((i + 1 : Nat) : Int) ∧ Rch ts x y) ↔ (∃ x, 0 ≤ x ∧ x < (i : Int) ∧ Rch ts x y) ∨ Rch ts i y := fun y => by
          constructor
          · rintro ⟨x, h1, h2, h3⟩
            by_cases e : x = i
            · subst e
              exact .inr h3
            · exact .inl ⟨x, h1, by omega, h3⟩
          · rintro (⟨x, h1, h2, h3⟩ | h)
            · exact ⟨x, h1, by omega, h3⟩
            · exact ⟨i, by omega, by omega, h⟩
        by_cases hin : (valV kvs (Sum.inl (i : Int))).isSome = true
        · rw [hin]
          obtain ⟨y, e, x, h1, h2, h3⟩ := (hkeys _).mp (valV_isSome.mp hin)
          cases e
          refine ⟨_, kvs, rfl, hD, by omega, fun z => ?_, hvals, s2⟩
          rw [hkeys]
          constructor
          · rintro ⟨y, e, h⟩
            exact ⟨y, e, (nx y).mpr (.inl h)⟩
          · rintro ⟨y, e, h⟩
            refine ⟨y, e, ?_⟩
            rcases (nx y).mp h with h | h
            · exact h
            · exact ⟨x, h1, h2, h3.trans h⟩
        · rw [Bool.not_eq_true] at hin
          rw [hin]
          have ld : leader ts (i : Int) := (lead_iff ok.ok hir).mpr fun ⟨x, h1, h2, h3⟩ => by
            have := valV_isSome.mpr ((hkeys (Sum.inl (i : Int))).mpr ⟨_, rfl, x, h1, h2, h3⟩)
            rw [hin] at this
            cases this
          refine ⟨.ref pD, rfl, .inr (.inr (.inl ⟨rfl, .inl ⟨_, hD⟩⟩)), .int i, rfl, u, rfl, u, n, i, ts, rfl, hA.same s2, ok, hir.1, hir.2, fun d ks H3 nd hd s3 so => ?_⟩
          have lks : ks.length ≤ n := by
            have q := pigeon n (ks.map (·.1)) so.nd fun x hx => Rch.rng ok.ok hir ((so.all x).mp hx)
            rw [List.length_map] at q
            exact q
          have hpd : pD ≠ d := ne_of_none hD nd
          refine ⟨pD, d, kvs, kvOf ks, rfl, rfl, s3 _ _ hD, hd, hpd, (by rw [kvOf_len, sizeLine_eq]; omega), ?_⟩
          refine ⟨_, mergeK kvs (kvOf ks), rfl, upd_same, ?_, fun z => ?_, fun y v hv => ?_, Same.mut (s2.trans s3) nD⟩
          · have := length_mergeK (kvOf ks) kvs
            rw [kvOf_len] at this
            omega
          · rw [mem_mergeK, hkeys, kvOf_keys]
            constructor
            · rintro (⟨y, e, h⟩ | h)
              · exact ⟨y, e, (nx y).mpr (.inl h)⟩
              · obtain ⟨y, hy, rfl⟩ := List.mem_map.mp h
                exact ⟨y, rfl, (nx y).mpr (.inr ((so.all y).mp hy))⟩
            · rintro ⟨y, rfl, h⟩
              rcases (nx y).mp h with h | h
              · exact .inl ⟨y, rfl, h⟩
              · exact .inr (List.mem_map.mpr ⟨y, (so.all y).mpr h, rfl⟩)
          · rcases valV_merge hv with h | h
            · exact hvals y v h
            · unfold kvOf at h
              obtain ⟨p, hp, e⟩ := List.mem_map.mp h
              cases e
              exact ⟨i, p.2, ld, so.rp p hp, rfl⟩
      · rintro σ' H2 ⟨y3, kvs, rfl, hD, hlen, hkeys, hvals, s2⟩
        refine ⟨_, kvs, rfl, hD, fun i hi => ?_, s2⟩
        obtain ⟨v, hv⟩ := Option.isSome_iff_exists.mp (valV_isSome.mpr ((hkeys (Sum.inl (i : Int))).mpr ⟨_, rfl, i, by omega, by omega, Rch.refl⟩))
        obtain ⟨m, b, l, r, rfl⟩ := hvals i v hv
        exact ⟨m, b, l, r, hv⟩
    rintro σ' H2 ⟨y3, kvs, rfl, hD, hvals, s2⟩
    have s12 := s1.trans s2
    -- sides
    refine ⟨.ref a, rfl, a, _, 0, .int n, rfl, rfl, SqT.of (s12 _ _ ha), rfl, n, rfl, by omega, by omega, fun Z nZ => ?_⟩
    rw [Int.toNat_natCast]
    refine lc_range (lo := 0) (n := n) (fun j H' => ∃ ss : List Int, H' Z = some (.lst (ss.map V.int)) ∧ ss.length = j ∧ (∀ (i : Nat) (x : Int), ss[i]? = some x → ∃ m b, leader ts m ∧ RP ts m i b ∧ x = sideI b) ∧ Same H2 H') ⟨[], upd_same, rfl, fun i x h => by simp at h, same_new nZ⟩ ?_ ?_
    · rintro j H3 hj ⟨ss, hZ, lj, hss, s3⟩
      rw [show (0 : Int) + (j : Nat) = j from by omega]
      obtain ⟨m, b, l, r, hv⟩ := hvals j hj
      refine ⟨rfl, .ref pD, rfl, .int j, rfl, pD, .int (sideI b), rfl, (by rw [← hv]; exact DGet.k (k := Sum.inl (j : Int)) (s3 _ _ hD)), _, hZ, by rw [List.length_map]; exact small1000 (by omega), ss ++ [sideI b], by rw [upd_same, List.map_append]; rfl, by rw [List.length_append, lj]; rfl, fun i x h => ?_, Same.mut s3 nZ⟩
      by_cases hi : i < ss.length
      · rw [List.getElem?_append_left hi] at h
        exact hss i x h
      · rw [List.getElem?_append_right (by omega)] at h
        have e : i = j := by
          have := (List.getElem?_eq_some_iff.mp h).1
          simp at this
          omega
        subst e
        rw [show i - ss.length = 0 from by omega] at h
        have hx : sideI b = x := Option.some.inj h
        exact ⟨m, b, l, r, hx.symm⟩
    · rintro H3 ⟨ss, hZ, lj, hss, s3⟩
      have told := told_of lj hss
      refine ⟨Z, _, rfl, .inl ⟨SqL.of hZ, fun t nt => ?_⟩⟩
      have s4 := (s12.trans s3).trans (same_new (o := .tup (ss.map V.int)) nt)
      have ht4 : (upd H3 t (.tup (ss.map V.int))) t = some (.tup (ss.map V.int)) := upd_same
      generalize upd H3 t (.tup (ss.map V.int)) = H4 at s4 ht4
      refine ⟨.ref a, rfl, .ref t, rfl, .ref a, t, n, ts, ss, rfl, hw0.tk (Same.tk s4), ok, ht4, by rw [lj], fun r H5 s5 h5 => ⟨Nat.zero_le _, fun z nz => ?_⟩⟩
      have s6 := same_new (o := .tup []) nz
      refine ⟨intsD (bad ss ts), intsD [], IntsV.dp ⟨r, rfl, s6 _ _ h5⟩, IntsV.dp ⟨z, rfl, upd_same⟩, shaped_intsD _, shaped_intsD _, _, rfl, ?_⟩
      rw [eqv_nil]
      have s46 := (s4.trans s5).trans s6
      have ht6 := s6 _ _ (s5 _ _ ht4)
      generalize upd H5 z (.tup []) = H6 at s46 ht6
      by_cases hbad : bad ss ts = []
      · rw [hbad]
        exact ⟨.ref t, rfl, q ss t H6 told (bad_nil.mp hbad) s46 ht6⟩
      · have hne : (bad ss ts).isEmpty = false := by
          cases e : bad ss ts with
          | nil => exact absurd e hbad
          | cons x y => rfl
        rw [hne]
        refine qn H6 ?_ s46
        obtain ⟨x, hx⟩ := List.exists_mem_of_ne_nil _ hbad
        unfold bad badTo at hx
        obtain ⟨h1, h2⟩ := List.mem_filter.mp hx
        exact told_odd ok.ok told (tieAt_mem h1) h2
end
/-! ### whole numbers below a limit -/
def wbelow (lim : Int) : V → Bool
  | .int i => decide (0 ≤ i) && decide (i < lim)
  | _ => false
def spBelow : Sp := fun vs H Q _ => ∃ lim v, vs = [.int lim, v] ∧ Kn H v ∧ Q (.bl (wbelow lim v)) H
section
variable {P : Program} {w : World} {K : PySem.W.Frag} {mg : Str → Option Value} {base : Heap}
theorem ok_is_whole_below {f : Addr} {fd : FuncData} (F : Fun K "is_whole_below" "is_whole_below" s_is_whole_below f fd) (D1 : Df P w K mg base 1 "is_whole" ["thing"] spWhole) : FnOk P w K mg base CX0 2 f fd ["limit", "thing"] spBelow := by
  obtain ⟨f1, fd1, G1, g1, k1, b1⟩ := D1
  refine F.ok sc_is_whole_below (fun vs H Q E h => ?_) (fun cdv A outer s H vs Q E hr h => ?_)
  · obtain ⟨lim, v, rfl, _⟩ := h
    rfl
  · obtain ⟨lim, v, rfl, hk, q⟩ := h
    refine ⟨_, (pss_one (ps_ret (pe_and (pe_call G1 hr (by rfl) g1 k1 b1 .nil pass0 (pa_cons (pv 1) pa_nil)) (pe_one (pe_chain op_le op_lt pe_int (pv 1) (pv 0)))))), ?_⟩
    refine ⟨v, rfl, v, rfl, hk, _, rfl, ?_⟩
    cases v with
    | int i =>
      refine ⟨.int i, rfl, 0, i, rfl, rfl, _, rfl, ?_⟩
      have e : wbelow lim (.int i) = (decide (0 ≤ i) && decide (i < lim)) := rfl
      rw [e] at q
      by_cases h0 : (0 : Int) ≤ i
      · rw [decide_eq_true h0] at q ⊢
        rw [Bool.true_and] at q
        exact ⟨.int lim, rfl, i, lim, rfl, rfl, q⟩
      · rw [decide_eq_false h0] at q ⊢
        exact q
    | _ => exact q
end
/-! ### what holds wherever all but the deck is kept -/
def Stay (d c : Addr) (R : Hp → V → Prop) (H : Hp) (v : V) : Prop := ∀ H', Kp d c H H' → R H' v
theorem Stay.kp {d c : Addr} {R : Hp → V → Prop} {H H' : Hp} {v : V} (h : Stay d c R H v) (k : Kp d c H H') : Stay d c R H' v := fun H'' k' => h H'' (k.trans k')
theorem Stay.now {d c : Addr} {R : Hp → V → Prop} {H : Hp} {v : V} (h : Stay d c R H v) : R H v := h H Kp.refl
theorem Stay.imp {d c : Addr} {R S : Hp → V → Prop} {H : Hp} {v : V} (f : ∀ H', R H' v → S H' v) (h : Stay d c R H v) : Stay d c S H v := fun H' k => f H' (h H' k)
def Own (d c : Addr) (H : Hp) (p : Addr) (o : HO) : Prop := p ≠ d ∧ p ≠ c ∧ H p = some o
theorem Own.kp {d c p : Addr} {o : HO} {H H' : Hp} (h : Own d c H p o) (k : Kp d c H H') : Own d c H' p o := ⟨h.1, h.2.1, k _ _ h.1 h.2.1 h.2.2⟩
theorem Own.new {d c p : Addr} {o : HO} {H : Hp} (D : Deck H d c) (n : H p = none) : Own d c (upd H p o) p o := ⟨(D.ned n).1, (D.ned n).2, upd_same⟩
theorem Own.tup {d c p : Addr} {xs : List V} {H : Hp} (D : Deck H d c) (h : H p = some (.tup xs)) : Own d c H p (.tup xs) := by
  obtain ⟨cells, st, n, e1, e2, _⟩ := D
  exact ⟨ne_of h e1 (by intro z; cases z), ne_of h e2 (by intro z; cases z), h⟩
theorem Own.kn {d c p : Addr} {H : Hp} {xs : List V} (o : Own d c H p (.tup xs)) : Stay d c Kn H (.ref p) := fun _ k => .inr (.inl ⟨_, (o.kp k).2.2⟩)
theorem Own.knL {d c p : Addr} {H : Hp} {xs : List V} (o : Own d c H p (.lst xs)) : Stay d c Kn H (.ref p) := fun _ k => .inl ⟨_, (o.kp k).2.2⟩
theorem Own.knD {d c p : Addr} {H : Hp} {xs : List (Key × V)} (o : Own d c H p (.dK xs)) : Stay d c Kn H (.ref p) := fun _ k => .inr (.inr ⟨_, (o.kp k).2.2⟩)
theorem fm_nil {R : V → Prop} : ∀ x ∈ ([] : List V), R x := fun x h => by cases h
theorem fm {R : V → Prop} {a : V} {l : List V} (h : R a) (t : ∀ x ∈ l, R x) : ∀ x ∈ a :: l, R x := fun x hx => by
  rcases List.mem_cons.mp hx with e | e
  · rw [e]; exact h
  · exact t x e
theorem fm_app {R : V → Prop} {l m : List V} (h : ∀ x ∈ l, R x) (t : ∀ x ∈ m, R x) : ∀ x ∈ l ++ m, R x := fun x hx => by
  rcases List.mem_append.mp hx with e | e
  · exact h x e
  · exact t x e
theorem fm_cut {R : V → Prop} {l : List V} (h : ∀ x ∈ l, R x) (lo hi : Option Int) : ∀ x ∈ cutV l lo hi, R x := fun x hx => by
  unfold cutV at hx
  exact h x (List.mem_of_mem_drop (List.mem_of_mem_take hx))
theorem len_cut (l : List V) (lo hi : Option Int) : (cutV l lo hi).length ≤ l.length := by
  unfold cutV
  rw [List.length_take, List.length_drop]
  omega
theorem pickV {R : V → Prop} {xs : List V} {v : Int} (h0 : 0 ≤ v) (h1 : v < (xs.length : Int)) (all : ∀ x ∈ xs, R x) : ∃ x, atI xs v = some x ∧ R x := by
  obtain ⟨x, e1, e2⟩ := getI h0 h1
  exact ⟨x, e1, all x (List.mem_of_getElem? e2)⟩
theorem pickO {R : V → Prop} {d c L : Addr} {H : Hp} {xs : List V} {v m : Int} (_o : Own d c H L (.lst xs)) (h0 : 0 ≤ v) (h1 : v < m) (hm : (xs.length : Int) = m) (all : ∀ x ∈ xs, R x) : ∃ x, atI xs v = some x ∧ R x := pickV h0 (by rw [hm]; exact h1) all
/-! ### len(set(t)) of a tuple of ints -/
theorem sub_len : ∀ {ks ns : List Int}, ks.Nodup → (∀ x ∈ ks, x ∈ ns) → ks.length ≤ ns.length
  | [], _, _, _ => Nat.zero_le _
  | k :: ks, ns, nd, h => by
    rw [List.nodup_cons] at nd
    have hk := h k (by simp)
    have q := sub_len (ks := ks) (ns := ns.erase k) nd.2 fun x hx => (List.mem_erase_of_ne (fun z => nd.1 (by rw [← z]; exact hx))).mpr (h x (List.mem_cons_of_mem _ hx))
    rw [List.length_erase_of_mem hk] at q
    have : 0 < ns.length := List.length_pos_of_mem hk
    rw [List.length_cons]
    omega
theorem twice : ∀ {ns : List Int}, ¬ ns.Nodup → ∃ x, x ∈ ns ∧ x ∈ ns.erase x
  | [], h => absurd List.nodup_nil h
  | y :: l, h => by
    by_cases hy : y ∈ l
    · exact ⟨y, by simp, by rw [List.erase_cons_head]; exact hy⟩
    · have hl : ¬ l.Nodup := fun z => h (List.nodup_cons.mpr ⟨hy, z⟩)
      obtain ⟨x, h1, h2⟩ := twice hl
      refine ⟨x, List.mem_cons_of_mem _ h1, ?_⟩
      have ne : y ≠ x := fun z => hy (by rw [z]; exact h1)
      rw [List.erase_cons_tail (by simpa using ne)]
      exact List.mem_cons_of_mem _ h2
theorem many_iff {ks ns : List Int} (nd : ks.Nodup) (h : ∀ x, x ∈ ns ↔ x ∈ ks) : ks.length = ns.length ↔ ns.Nodup := by
  constructor
  · intro e
    by_cases hn : ns.Nodup
    · exact hn
    · obtain ⟨x, h1, h2⟩ := twice hn
      have q := sub_len (ns := ns.erase x) nd fun y hy => by
        by_cases e2 : y = x
        · rw [e2]
          exact h2
        · exact (List.mem_erase_of_ne e2).mpr ((h y).mpr hy)
      rw [List.length_erase_of_mem h1] at q
      have : 0 < ns.length := List.length_pos_of_mem h1
      omega
  · intro hn
    have q1 := sub_len nd fun y hy => (h y).mpr hy
    have q2 := sub_len hn fun y hy => (h y).mp hy
    omega
def tLenSet (K : PySem.W.Frag) (ta : TE) : TE := fun σ H Q => ta σ H fun x H1 => ∃ (l : Addr) (ns : List Int), x = .ref l ∧ SqT K H1 l (ns.map V.int) ∧ ns.length ≤ 4000 ∧ ∀ c : Nat, (c = ns.length ↔ ns.Nodup) → Q (.int c) H1
theorem pe_lenSetT {X : Cx} {a : Expr} {ta : TE} {p p2 q pos : Pos} (hg : Gl X "len") (hm : X.mg "len" = none) (hg2 : Gl X "set") (hm2 : X.mg "set" = none) (ha : PE X a ta) (hc : X.calm = true := by rfl)
    (na : starEach [a] X.env = (false, eval a X.env) :: starEach [] X.env := by rfl) : PE X (.Call (.Name "len" p) [.Call (.Name "set" p2) [a] [] q] [] pos) (tLenSet X.K ta) := by
  refine ⟨fun pins s σ H Q I want => Call_ (ld_blt I hg hm PySem.boot_len (PyProof.Rows.callWith_builtin1 (PyProof.Rows.args_cons (Call_ (ld_blt I hg2 hm2 PyProof.Rows.boot_set (PyProof.Rows.callWith_type1 (PyProof.Rows.args_cons (thn (ha.run pins s σ H _ I want) fun v s1 got => PyProof.Rows.args_nil ?_) na) na rfl))) rfl) rfl rfl))⟩
  obtain ⟨x, H1, J, r1, l, ns, ex, hq, hl, q1⟩ := got
  subst ex
  obtain rfl : v = Value.ref l := r1
  obtain ⟨its, rel, tup, _⟩ := J.tuple hq
  refine call_set_tupI ns (J.ok.hd hc) tup (by simpa using rel.ints) (by unfold scanBound; omega) fun h' tk c hS hcl kp => PyProof.Rows.args_nil ?_
  obtain ⟨o, es, ep, t, ho, hex, hd, _, nd, mem, _, hf, hn, _⟩ := hS
  have J2 : Inv X pins σ H1 { s1 with heap := h', toks := tk } := J.kept kp
  have len : (es.toList.map keyOf).length = c := by rw [List.length_map, Array.length_toList, hn]
  have key : c = ns.length ↔ ns.Nodup := by
    rw [← len]
    refine many_iff nd fun y => ?_
    rw [← mem y, decide_eq_true_iff]
  exact call_len_set ho hex hd hf (by omega) ⟨.int c, H1, J2.tok _, ⟨_, by rw [hn]⟩, q1 c key⟩
/-! ### sorted(set(t)) of a tuple of ints, any number of them -/
section
open L2
variable {P : Program} {w : World} {A : PySem.Around} {E : Value → Shared → Prop} {s : Shared} {a : Addr}
theorem sorted_setN {S : Int → Bool} {n : Nat} {Q : Value → Shared → Prop} (R : SetR w s.heap a S n) (hh : A.handled = none) (h4 : n ≤ 4000)
    (hQ : ∀ s' p (out : Array Value) (c : Nat) (ns : List Int), (∀ b o, s.heap.get? b = some o → s'.heap.get? b = some o) → s'.gens = s.gens → s'.os = s.os → s.heap.objs.size ≤ p →
      s'.heap.get? p = some (seqObj "list" out c) → IntsAre out.toList ns → ns.Pairwise (· < ·) → (∀ k, k ∈ ns ↔ S k = true) → ns.length = n → Q (.ref p) s') :
    wpAny (model P w) A (call (.builtin "sorted") [.ref a]) Q E s := by
  obtain ⟨o, es, ep, t, ho, hex, hd, g, nd, hm, hb, hf, hn, hr, hl⟩ := R
  refine Calls.call_function_entry kind_sorted plain_sorted entry_sorted (args_sorted1 _) ?_
  unfold Builtin.«sorted»
  refine wpAny_bind (m := checkCount "sorted" 1 1 _) (wpAny_pure ?_)
  refine wpAny_bind (collect_set (A := A.in1) hh ⟨o, ho, hex.1, hd⟩ hf hb hr hl fun s1 vs k1 hz g1 o1 pm => ?_)
  have hvl : vs.length = n := by rw [pm.length_eq, List.length_map, Array.length_toList]; exact hn
  have hI : IntsAre vs (vs.map Builtin.Re.reRawOf) := ints_of vs fun v hv => by
    obtain ⟨e, he, q⟩ := List.mem_map.mp (pm.mem_iff.mp hv)
    obtain ⟨k, tk, h1, _⟩ := g e he
    exact ⟨k, tk, by rw [← q]; exact h1⟩
  have pk : (vs.map Builtin.Re.reRawOf).Perm (es.toList.map keyOf) := by
    have q := pm.map Builtin.Re.reRawOf
    rw [List.map_map] at q
    exact q
  refine wpAny_bind (wpAny_newList ?_ (by rw [hvl, sizeLine_eq]; omega))
  have hoL : (s1.heap.push (seqObj "list" vs.toArray 0)).get? s1.heap.objs.size = some (seqObj "list" vs.toArray 0) := Heap.get?_push_size _ rfl
  refine wpAny_bind (wpAny_holding (wpAny_call_entry slot_list_sort ⟨_, hoL, rfl⟩ entry_list_sort (SrtO.list_sort_ord SrtO.swo_int hoL (by rw [hvl, sizeLine_eq]; omega) (fun h2 => SrtO.ints_sortable hI h2) fun out h1 h2 => ⟨_, rfl, ?_⟩) (args_list_sort _)))
  obtain ⟨a1, a2, a3⟩ := SrtO.ints_out hI h1 h2
  obtain ⟨c, hc⟩ := sortedHeap_at (vs := vs) (out := out.toArray) hoL
  have pn : (out.map SrtO.iv).Perm (es.toList.map keyOf) := a2.trans pk
  refine wpAny_pure ⟨_, rfl, hQ _ s1.heap.objs.size out.toArray c (out.map SrtO.iv) (fun b u e => ?_) g1 o1 hz hc (by simpa using a1) (lt_of_le_nodup _ a3 (pn.nodup_iff.mpr nd)) (fun k => by rw [pn.mem_iff, ← hm k]) ?_⟩
  · have q := k1 b u e
    have hlt := Heap.lt_size q
    show (sortedHeap (s1.heap.push (seqObj "list" vs.toArray 0)) s1.heap.objs.size vs out.toArray).get? b = some u
    rw [sortedHeap_old (Nat.ne_of_lt hlt) (by rw [size_push']; exact Nat.lt_succ_of_lt hlt)]
    exact Heap.get?_push_of_some _ q
  · rw [pn.length_eq, List.length_map, Array.length_toList]; exact hn
end
def tSortSet (K : PySem.W.Frag) (ta : TE) : TE := fun σ H Q => ta σ H fun x H1 => ∃ (l : Addr) (ns : List Int), x = .ref l ∧ SqT K H1 l (ns.map V.int) ∧ ns.length ≤ 4000 ∧ ∀ (ks : List Int) (p : Addr), ks.Pairwise (· < ·) → (∀ k, k ∈ ks ↔ k ∈ ns) → H1 p = none → Q (.ref p) (upd H1 p (.lst (ks.map V.int)))
theorem pe_sortSetT {X : Cx} {a : Expr} {ta : TE} {p p2 q pos : Pos} (hg : Gl X "sorted") (hm : X.mg "sorted" = none) (hg2 : Gl X "set") (hm2 : X.mg "set" = none) (ha : PE X a ta) (hc : X.calm = true := by rfl)
    (na : starEach [a] X.env = (false, eval a X.env) :: starEach [] X.env := by rfl) : PE X (.Call (.Name "sorted" p) [.Call (.Name "set" p2) [a] [] q] [] pos) (tSortSet X.K ta) := by
  refine ⟨fun pins s σ H Q I want => Call_ (ld_blt I hg hm (show bootBuiltins "sorted" = some (.builtin "sorted") by decide +kernel) (PyProof.Rows.callWith_builtin1 (PyProof.Rows.args_cons (Call_ (ld_blt I hg2 hm2 PyProof.Rows.boot_set (PyProof.Rows.callWith_type1 (PyProof.Rows.args_cons (thn (ha.run pins s σ H _ I want) fun v s1 got => PyProof.Rows.args_nil ?_) na) na rfl))) rfl) rfl rfl))⟩
  obtain ⟨x, H1, J, r1, l, ns, ex, hq, hl, q1⟩ := got
  subst ex
  obtain rfl : v = Value.ref l := r1
  obtain ⟨its, rel, tup, _⟩ := J.tuple hq
  refine call_set_tupI ns (J.ok.hd hc) tup (by simpa using rel.ints) (by unfold scanBound; omega) fun h' tk c hS hcl kp => PyProof.Rows.args_nil ?_
  have J2 : Inv X pins σ H1 { s1 with heap := h', toks := tk } := J.kept kp
  have cl : c ≤ 4000 := by
    obtain ⟨o, es, ep, t, ho, hex, hd, _, nd, mem, _, hf, hn, _⟩ := hS
    have len : (es.toList.map keyOf).length = c := by rw [List.length_map, Array.length_toList, hn]
    have := sub_len nd (ns := ns) fun y hy => by
      have := (mem y).mpr hy
      exact of_decide_eq_true this
    omega
  obtain ⟨s2, es2⟩ : ∃ s2 : Shared, s2 = { s1 with heap := h', toks := tk } := ⟨_, rfl⟩
  rw [← es2] at J2
  show wpAny _ _ _ _ _ { s1 with heap := h', toks := tk }
  rw [← es2]
  refine sorted_setN (by rw [es2]; exact hS) (J2.ok.hd hc) cl fun s' p out c' ks k g o hp hg' hi hs hm' hl' => ?_
  have hlen : (ks.map V.int).length ≤ sizeLine := by rw [List.length_map, hl', sizeLine_eq]; omega
  have hn : H1 p = none := J2.hok.fresh hp
  have J3 : Inv X pins σ (upd H1 p (.lst (ks.map V.int))) { s2 with heap := s'.heap, gens := s'.gens, drawn := s'.drawn, toks := s'.toks } :=
    J2.call (ch := []) (Un.laid k hp hn) (J2.hok.laid k hp ⟨hlen, out.toList, c', vals_of_ints hi, hg'⟩) (by rw [g]; exact J2.bare) (fun _ z => nomatch z)
  have e : s' = { s2 with heap := s'.heap, gens := s'.gens, drawn := s'.drawn, toks := s'.toks } := by
    cases s'
    cases s2
    cases o
    rfl
  rw [e]
  exact ⟨.ref p, _, J3, rfl, q1 ks p hs (fun z => by rw [hm' z, decide_eq_true_iff]) hn⟩
/-! ### rising rows -/
def ltV : V → V → Bool
  | .int a, .int b => decide (a < b)
  | _, _ => false
def chainB (xs : List V) : Bool := (xs.zip (xs.drop 1)).all fun p => ltV p.1 p.2
def riseB (H : Hp) (lim : Int) (v : V) : Bool := match parts H v with
  | some xs => xs.all (wbelow lim) && chainB xs
  | none => false
def RowK (H : Hp) (v : V) : Prop := Kn H v ∧ ∀ xs, parts H v = some xs → (∀ x ∈ xs, Kn H x) ∧ xs.length ≤ 1000
def spRising (Ps : List Addr) : Sp := fun vs H Q _ => ∃ (lim : Int) (v : V), vs = [.int lim, v] ∧ RowK H v ∧ Tabs Ps H ∧ ∀ H', Kt Ps H H' → Q (.bl (riseB H lim v)) H'
theorem take_all {α : Type} {xs : List α} {p : α → Bool} {i : Nat} {x : α} (h : xs[i]? = some x) (ha : (xs.take i).all p = true) : (xs.take (i + 1)).all p = p x := by
  rw [List.take_add_one, h, List.all_append, ha]
  simp
theorem all_not {α : Type} {xs : List α} {p : α → Bool} {i : Nat} {x : α} (h : xs[i]? = some x) (hp : p x = false) : xs.all p = false := by
  rw [Bool.eq_false_iff]
  intro z
  rw [List.all_eq_true] at z
  rw [z x (List.mem_of_getElem? h)] at hp
  cases hp
theorem zip_at {α β : Type} {xs : List α} {ys : List β} {i : Nat} {x : α} {y : β} (h : xs[i]? = some x) (g : ys[i]? = some y) : (xs.zip ys)[i]? = some (x, y) := by
  rw [List.getElem?_zip_eq_some]
  exact ⟨h, g⟩
theorem kt_kn_parts {Ps : List Addr} {H H' : Hp} (k : Kt Ps H H') (t : Tabs Ps H) {v : V} (h : Kn H v) : parts H' v = parts H v := by
  cases v with
  | ref a =>
    unfold parts
    rcases h with ⟨xs, h⟩ | ⟨xs, h⟩ | ⟨xs, h⟩
    · simp only [h, k.lst t h]
    · simp only [h, k.tup t h]
    · simp only [h, k.dct t h]
  | _ => rfl
theorem RowK.kt {Ps : List Addr} {H H' : Hp} {v : V} (h : RowK H v) (k : Kt Ps H H') (t : Tabs Ps H) : RowK H' v := ⟨k.kn t h.1, fun xs e => by
  rw [kt_kn_parts k t h.1] at e
  exact ⟨fun x hx => k.kn t ((h.2 xs e).1 x hx), (h.2 xs e).2⟩⟩
theorem rise_kt {Ps : List Addr} {H H' : Hp} {v : V} (h : RowK H v) (k : Kt Ps H H') (t : Tabs Ps H) (lim : Int) : riseB H' lim v = riseB H lim v := by
  unfold riseB
  rw [kt_kn_parts k t h.1]
theorem cut_tail (xs : List V) : cutV xs (some 1) none = xs.drop 1 := by
  unfold cutV
  rw [HT.sIx_none, show (1 : Int) = ((1 : Nat) : Int) from rfl, HT.sIx_nat]
  cases xs with
  | nil => rfl
  | cons x r =>
    rw [Nat.min_eq_left (by simp)]
    exact List.take_of_length_le (by simp)
section
variable {P : Program} {w : World} {K : PySem.W.Frag} {mg : Str → Option Value} {base : Heap}
theorem ok_are_rising_below {f c Pt : Addr} {fd : FuncData} {Ps : List Addr} (F : FunC K "are_rising_below" "are_rising_below" s_are_rising_below f fd c) (TB : GxR.TabB base mg c Pt) (hPt : Pt ∈ Ps) (M : Free mg) (m_all : mg "all" = none) (m_zip : mg "zip" = none) (D_is_whole_below : Df P w K mg base 2 "is_whole_below" ["limit", "thing"] spBelow) : FnOk P w K mg base CX0 4 f fd ["limit", "thing"] (spRising Ps) := by
  obtain ⟨f_is_whole_below, fd_is_whole_below, G_is_whole_below, g_is_whole_below, k_is_whole_below, b_is_whole_below⟩ := D_is_whole_below
  refine F.ok sc_are_rising_below (fun vs H Q E h => ?_) (fun A outer s H vs Q E hr h => ?_)
  · obtain ⟨lim, v, rfl, _⟩ := h
    rfl
  · obtain ⟨lim, v, rfl, ⟨kv, kp⟩, hT, q⟩ := h
    refine ⟨_, (Evl.pss_cut (ps_if (PW.pt (pw_or (pt_not (pt_val (pe_callB call_isi (by rfl) M.isinstance (by decide +kernel) (pa_cons (pv 1) (pa_cons (pe_bltn (v := .ty "tuple") (by rfl) M.tuple (by decide +kernel) rfl) pa_nil))))) (pw_or1 (pt_not (pt_val (pe_all (k := 2) (own := [("number", 2)]) (g := gName 2) hr TB rfl rfl sc_are_rising_below.nd (by rfl) m_all (pi_tup (pv 1)) (blkOk_by (N := N_are_rising_below) (sc := defScope s_are_rising_below) (own := [("number", 2)]) (by decide +kernel)) ⟨rfl, by decide +kernel, by decide +kernel⟩ (show (".0" : Str) ∉ N_are_rising_below by decide +kernel) (fun _ _ _ _ _ _ _ => (pg_name (i := 2) sc_are_rising_below.nd rfl (.inl rfl))) (fun _ _ _ _ _ _ _ hr' => (pe_call G_is_whole_below hr' (by rfl) g_is_whole_below k_is_whole_below b_is_whole_below .nil pass0 (pa_cons (pv 0) (pa_cons (pv 2) pa_nil))))))))))
        (pss_one (ps_ret pe_bl))
        pss_nil)
      (pss_one (ps_ret (pe_all (k := 2) (own := [("number", 2), ("following", 3)]) (g := gTup K 2 (gCons (gName 2) (gCons (gName 3) gNil))) hr TB rfl rfl sc_are_rising_below.nd (by rfl) m_all (RZ.pi_zipA (by rfl) m_zip (pa_cons (pv 1) (pa_cons (pe_slice sl_tupU (pv 1) (po_some pe_int) po_none) pa_nil))) (blkOk_by (N := N_are_rising_below) (sc := defScope s_are_rising_below) (own := [("number", 2), ("following", 3)]) (by decide +kernel)) ⟨rfl, by decide +kernel, by decide +kernel⟩ (show (".0" : Str) ∉ N_are_rising_below by decide +kernel) (fun _ _ _ _ _ _ _ => (pg_tup rfl (pgs_cons (pg_name (i := 2) sc_are_rising_below.nd rfl (.inl rfl)) (pgs_cons (pg_name (i := 3) sc_are_rising_below.nd rfl (.inl rfl)) pgs_nil)))) (fun _ _ _ _ _ _ _ hr' => (pe_cmpR op_lt (pv 2) (pv 3) (nomark _))))))), ?_⟩
    refine ⟨fun σ' H' => σ' = [some (.int lim), some v, none, none] ∧ Kt Ps H H' ∧ ∃ a xs, v = .ref a ∧ H a = some (.tup xs) ∧ xs.all (wbelow lim) = true, ?_, ?_⟩
    · obtain ⟨t1, h1, e1⟩ := kn_tup (K := K) kv
      refine ⟨v, rfl, v, _, t1, _, _, rfl, .ty "tuple", h1, e1, _, rfl, ?_⟩
      cases hi : isT H v with
      | false =>
        unfold riseB at q
        rw [parts_none hi] at q
        exact q _ (Kt.refl hT)
      | true =>
        obtain ⟨a, xs, rfl, ha⟩ := isT_at hi
        obtain ⟨kx, lx⟩ := kp xs (parts_of' ha)
        refine ⟨.ref a, rfl, a, rfl, ⟨_, SqT.of ha⟩, hT Pt hPt, fun j m H' => j + m = xs.length ∧ Kt Ps H H' ∧ (xs.take j).all (wbelow lim) = true, fun H2 hH2 => ⟨xs.length, by omega, Kt.tabbed hT hPt hH2, rfl⟩, fun j m H' hw => ?_⟩
        obtain ⟨em, kt, hal⟩ := hw
        have ha' := kt.tup hT ha
        by_cases hj : j < xs.length
        · refine .inr ⟨⟨_, _, SqT.of ha', List.getElem?_eq_getElem hj⟩, fun H3 => Kt Ps H H3 ∧ (xs.take (j + 1)).all (wbelow lim) = true, fun H3 n3 => ⟨m - 1, by omega, by omega, n3.1, n3.2⟩, fun x H3 hy => ?_⟩
          obtain ⟨rfl, fy⟩ := hy
          have ex : xs[j]? = some x := fy _ (SqT.of ha')
          refine ⟨rfl, .int lim, rfl, x, rfl, lim, x, rfl, kt.kn hT (kx x (List.mem_of_getElem? ex)), _, rfl, ?_⟩
          cases hb : wbelow lim x with
          | true => exact ⟨kt, (take_all ex hal).trans hb⟩
          | false =>
            have no : riseB H lim (.ref a) = false := by
              unfold riseB
              rw [parts_of' ha]
              show (xs.all (wbelow lim) && chainB xs) = false
              rw [all_not ex hb]
              rfl
            rw [no] at q
            exact ⟨_, rfl, q _ kt⟩
        · refine .inl ⟨⟨_, SqT.of ha', by omega⟩, ?_⟩
          rw [List.take_of_length_le (by omega)] at hal
          exact ⟨_, rfl, rfl, kt, a, xs, rfl, ha, hal⟩
    · rintro σ' H1 ⟨rfl, kt1, a, xs, rfl, ha, hal⟩
      obtain ⟨kx, lx⟩ := kp xs (parts_of' ha)
      have er : riseB H lim (.ref a) = chainB xs := by
        unfold riseB
        rw [parts_of' ha]
        show (xs.all (wbelow lim) && chainB xs) = chainB xs
        rw [hal]
        rfl
      rw [er] at q
      have T1 : Tabs Ps H1 := kt1.tab
      have ha1 := kt1.tup hT ha
      refine ⟨.ref a, rfl, .ref a, rfl, 1, rfl, a, xs, rfl, ha1, fun r H2 s2 hr2 => ?_⟩
      rw [cut_tail] at hr2
      have k2 := Kt.same T1 s2
      have T2 : Tabs Ps H2 := k2.tab
      have ha2 := s2 _ _ ha1
      have k12 := kt1.trans k2
      refine ⟨a, r, xs, xs.drop 1, rfl, .inr ⟨SqT.of ha2, SqT.of hr2, ?_⟩⟩
      refine ⟨T2 Pt hPt, fun i m H' => i + m = xs.length - 1 ∧ Kt Ps H2 H' ∧ ((xs.zip (xs.drop 1)).take i).all (fun p => ltV p.1 p.2) = true, fun H3 hH3 => ⟨xs.length - 1, by omega, Kt.tabbed T2 hPt hH3, rfl⟩, fun i m H' hw => ?_⟩
      obtain ⟨em, kt, hal2⟩ := hw
      have ha' := kt.tup T2 ha2
      have hr' := kt.tup T2 hr2
      by_cases hi : i < xs.length - 1
      · have hd : i < (xs.drop 1).length := by rw [List.length_drop]; exact hi
        refine .inr ⟨⟨xs, xs.drop 1, _, _, SqT.of ha', SqT.of hr', List.getElem?_eq_getElem (by omega), List.getElem?_eq_getElem hd⟩, fun H3 => Kt Ps H2 H3 ∧ ((xs.zip (xs.drop 1)).take (i + 1)).all (fun p => ltV p.1 p.2) = true, fun H3 n3 => ⟨m - 1, by omega, by omega, n3.1, n3.2⟩, fun x H3 hy => ?_⟩
        obtain ⟨T, x1, y1, rfl, nT, rfl, gx, gy⟩ := hy
        have ex := gx _ (SqT.of ha')
        have ey := gy _ (SqT.of hr')
        have ez := zip_at ex ey
        have wb : ∀ z ∈ xs, ∃ k, z = .int k := fun z hz => by
          rw [List.all_eq_true] at hal
          have := hal z hz
          cases z with
          | int k => exact ⟨k, rfl⟩
          | _ => cases this
        obtain ⟨a1, rfl⟩ := wb x1 (List.mem_of_getElem? ex)
        obtain ⟨b1, rfl⟩ := wb y1 (List.mem_of_mem_drop (List.mem_of_getElem? ey))
        have s3 : Same H' (upd H' T (.tup [.int a1, .int b1])) := same_new nT
        have kt3 := kt.trans (Kt.same kt.tab s3)
        refine ⟨T, _, rfl, SqT.of upd_same, rfl, _, _, rfl, _, _, rfl, rfl, rfl, .int a1, rfl, .int b1, rfl, a1, b1, rfl, rfl, _, rfl, ?_⟩
        cases hb : decide (a1 < b1) with
        | true => exact ⟨kt3, (take_all ez hal2).trans hb⟩
        | false =>
          have no : chainB xs = false := all_not ez hb
          rw [no] at q
          exact q _ (k12.trans kt3)
      · refine .inl ⟨⟨xs, xs.drop 1, SqT.of ha', SqT.of hr', .inr (by rw [List.length_drop]; omega)⟩, ?_⟩
        have lz : (xs.zip (xs.drop 1)).length ≤ i := by rw [List.length_zip, List.length_drop]; omega
        rw [List.take_of_length_le lz] at hal2
        have yes : chainB xs = true := hal2
        rw [yes] at q
        exact q _ (k12.trans kt)
end
/-! ### a web without ties -/
def keepTo (ts : List Tie) (ks : List Int) (j : Nat) : List Tie := ((rng j).filter fun i => !ks.contains i).map (tieAt ts)
theorem keepTo_succ (ts : List Tie) (ks : List Int) (j : Nat) : keepTo ts ks (j + 1) = keepTo ts ks j ++ (if ks.contains (j : Int) = true then [] else [tieAt ts j]) := by
  unfold keepTo
  rw [rng_succ, List.filter_append, List.map_append]
  congr 1
  by_cases h : (j : Int) ∈ ks
  · rw [List.filter_cons_of_neg (by simp [h]), if_pos (by simpa using h)]
    rfl
  · rw [List.filter_cons_of_pos (by simp [h]), if_neg (by simpa using h)]
    rfl
theorem keepTo_len (ts : List Tie) (ks : List Int) (j : Nat) : (keepTo ts ks j).length ≤ j := by
  unfold keepTo
  rw [List.length_map]
  have := List.length_filter_le (fun i => !ks.contains i) (rng j)
  rw [rng_length] at this
  exact this
theorem keepTo_mem {ts : List Tie} {ks : List Int} {t : Tie} (h : t ∈ keepTo ts ks ts.length) : t ∈ ts := by
  unfold keepTo at h
  obtain ⟨i, hi, rfl⟩ := List.mem_map.mp h
  exact tieAt_mem (List.mem_filter.mp hi).1
theorem keepTo_ok {n : Int} {ts : List Tie} (ok : WebOk n ts) (ks : List Int) : WebOk n (keepTo ts ks ts.length) := ⟨ok.lo, ok.hi, by have := keepTo_len ts ks ts.length; have := ok.few; omega, fun t ht => ok.ok t (keepTo_mem ht)⟩
def toI : V → Int
  | .int i => i
  | _ => 0
theorem toI_map (ks : List Int) : (ks.map V.int).map toI = ks := by
  rw [List.map_map]
  exact List.map_id' ks
theorem ints_below {lim : Int} {xs : List V} (h : xs.all (wbelow lim) = true) : xs = (xs.map toI).map V.int ∧ ∀ k ∈ xs.map toI, 0 ≤ k ∧ k < lim := by
  rw [List.all_eq_true] at h
  constructor
  · rw [List.map_map]
    refine (List.map_id' xs).symm.trans (List.map_congr_left fun x hx => ?_)
    have := h x hx
    cases x with
    | int i => rfl
    | _ => cases this
  · intro k hk
    obtain ⟨x, hx, rfl⟩ := List.mem_map.mp hk
    have := h x hx
    cases x with
    | int i =>
      have this : (decide (0 ≤ i) && decide (i < lim)) = true := this
      rw [Bool.and_eq_true, decide_eq_true_iff, decide_eq_true_iff] at this
      exact this
    | _ => cases this
noncomputable def noOdd (ts : List Tie) (n : Nat) : Bool := @decide (¬ Odd ts n) (Classical.propDecidable _)
theorem noOdd_true {ts : List Tie} {n : Nat} (h : ¬ Odd ts n) : noOdd ts n = true := by unfold noOdd; exact @decide_eq_true _ (Classical.propDecidable _) h
theorem noOdd_false {ts : List Tie} {n : Nat} (h : Odd ts n) : noOdd ts n = false := by unfold noOdd; exact @decide_eq_false _ (Classical.propDecidable _) (fun z => z h)
noncomputable def mendB (H : Hp) (n : Nat) (ts : List Tie) (v : V) : Bool := riseB H ts.length v && match parts H v with
  | some xs => noOdd (keepTo ts (xs.map toI) ts.length) n
  | none => false
def spWithout : Sp := fun vs H Q _ => ∃ (wv : V) (p : Addr) (n : Int) (ts : List Tie) (ks : List Int), vs = [wv, .ref p] ∧ WebAt H wv n ts ∧ ts.length ≤ 120 ∧ H p = some (.tup (ks.map V.int)) ∧ ks.length ≤ 1000 ∧ ∀ v H', Same H H' → WebAt H' v n (keepTo ts ks ts.length) → Q v H'
def spMendHolds (Ps : List Addr) : Sp := fun vs H Q _ => ∃ (wv v : V) (n : Nat) (ts : List Tie), vs = [wv, v] ∧ WebAt H wv n ts ∧ WebOk n ts ∧ RowK H v ∧ Tabs Ps H ∧ ∀ H', Kt Ps H H' → Q (.bl (mendB H n ts v)) H'
section
variable {P : Program} {w : World} {K : PySem.W.Frag} {mg : Str → Option Value} {base : Heap}
theorem ok_without {f : Addr} {fd : FuncData} (F : Fun K "without" "without" s_without f fd) (M : Free mg) (m_enumerate : mg "enumerate" = none) : FnOk P w K mg base CX0 1 f fd ["web", "numbers"] spWithout := by
  refine F.ok sc_without (fun vs H Q E h => ?_) (fun cdv A outer s H vs Q E hr h => ?_)
  · obtain ⟨wv, p, n, ts, ks, rfl, _⟩ := h
    rfl
  · obtain ⟨wv, p, n, ts, ks, rfl, ⟨wa, wb, us, rfl, hwa, hwb, hp⟩, few, hP, lk, q⟩ := h
    have hu := room1 hr
    refine ⟨_, (pss_cons (ps_set (i := 2) sc_without.nd rfl (.inr rfl) (pe_dc (own := [("number", 3)]) (g := gName 3) (tt := tYes) rfl sc_without.nd (pi_tup (pv 1)) (blkOk_by (N := N_without) (sc := defScope s_without) (own := [("number", 3)]) (by decide +kernel)) (fun _ _ _ _ _ => (pg_name (i := 3) sc_without.nd rfl (.inl rfl))) (fun _ _ _ _ _ => pts_nil) (fun _ _ _ _ _ => (pv 3)) (fun _ _ _ _ _ => pe_bl)))
      (pss_one (ps_ret (pe_tup (pa_cons (pe_ix ix_tup (pv 0) pe_int (fun _ _ => rfl)) (pa_cons (pe_callTy call_tuple_of (by rfl) M.tuple (by decide +kernel) (pa_cons (pe_lc (own := [("number", 3), ("tie", 4)]) (g := (gTup K 2 (gCons (gName 3) (gCons (gName 4) gNil)))) (te := tVar 4) rfl sc_without.nd (pi_enumT (by rfl) m_enumerate (pa_cons (pe_ix ix_tup (pv 0) pe_int (fun _ _ => rfl)) pa_nil)) (blkOk_by (N := N_without) (sc := defScope s_without) (own := [("number", 3), ("tie", 4)]) (by decide +kernel)) (fun _ _ _ _ _ => (pg_tup rfl (pgs_cons (pg_name (i := 3) sc_without.nd rfl (.inl rfl)) (pgs_cons (pg_name (i := 4) sc_without.nd rfl (.inl rfl)) pgs_nil)))) (fun _ _ _ _ _ => (pts_one (pt_cmp (pc_dnotin hu (pv 3) (pv 2))))) (fun _ _ _ _ _ => (pv 4))) pa_nil)) pa_nil)))))), ?_⟩
    have hlen : us.length = ts.length := Paired.length hp
    refine ⟨.ref p, rfl, p, rfl, ⟨_, SqT.of hP⟩, fun D nD => ?_⟩
    refine dc_tup (xs := ks.map V.int) (fun i H' => ∃ kvs : List (Key × V), H' D = some (.dK kvs) ∧ kvs.length ≤ i ∧ (∀ k : Int, (valV kvs (Sum.inl k)).isSome = (ks.take i).contains k) ∧ Same H H') ⟨[], upd_same, Nat.le_refl _, fun k => rfl, same_new nD⟩ (fun i H' _ h => by
      obtain ⟨kvs, _, _, _, s1⟩ := h
      exact SqT.of (s1 _ _ hP)) ?_ ?_
    · rintro i x H1 ex ⟨kvs, hD, hl, hk, s1⟩
      rw [List.getElem?_map] at ex
      obtain ⟨y, hy, rfl⟩ := Option.map_eq_some_iff.mp ex
      have hi : i < ks.length := (List.getElem?_eq_some_iff.mp hy).1
      refine ⟨rfl, .int y, rfl, kvs, Sum.inl y, rfl, hD, small1000 (by omega), putK kvs (Sum.inl y) (.bl true), upd_same, ?_, fun k => ?_, Same.mut s1 nD⟩
      · have := length_putK kvs (Sum.inl y) (.bl true)
        omega
      · rw [valV_put, List.take_add_one, hy, Bool.eq_iff_iff]
        have hk' := hk k
        rw [Bool.eq_iff_iff] at hk'
        by_cases e : k = y
        · subst e
          rw [if_pos rfl]
          simp
        · rw [if_neg (fun z => e (Sum.inl.inj z)), hk']
          simp [e]
    · rintro H1 ⟨kvs, hD, hl, hk, s1⟩
      rw [List.length_map, List.take_length] at hk
      refine ⟨.ref wa, rfl, wa, _, 0, .int n, rfl, rfl, SqT.of (s1 _ _ hwa), rfl, .ref wa, rfl, wa, _, 1, .ref wb, rfl, rfl, SqT.of (s1 _ _ hwa), rfl, wb, us, rfl, SqT.of (s1 _ _ hwb), fun Z nZ => ?_⟩
      refine lc_it (walk_enumT (xs := us)) (fun i H' => ∃ vs : List V, H' Z = some (.lst vs) ∧ Paired (TieV H') vs (keepTo ts ks i) ∧ Same H1 H') ⟨[], upd_same, .nil, same_new nZ⟩ (fun i H' _ h => by
        obtain ⟨vs, _, _, s2⟩ := h
        exact SqT.of (s2 _ _ (s1 _ _ hwb))) ?_ ?_
      · rintro i x H2 H3 hi ⟨vs, hZ, hv, s2⟩ ⟨T, x1, y, rfl, nT, rfl, e1, e2⟩
        obtain rfl : V.int (i : Nat) = x1 := Option.some.inj e1
        obtain ⟨t, et, ht⟩ := Paired.at hp e2
        have s3 := s2.trans (same_new (o := .tup [.int (i : Nat), y]) nT)
        have hZ2 := same_new (o := .tup [.int (i : Nat), y]) nT _ _ hZ
        have hv2 := ties_tk (Same.tk (same_new (o := .tup [.int (i : Nat), y]) nT)) hv
        have lv : vs.length ≤ i := by
          rw [Paired.length hv]
          exact keepTo_len ts ks i
        refine ⟨T, _, rfl, SqT.of upd_same, rfl, _, _, rfl, _, _, rfl, rfl, rfl, .int (i : Nat), rfl, .ref D, rfl, D, _, rfl, DGet.k (k := Sum.inl (i : Int)) (s3 _ _ hD), _, rfl, ?_⟩
        have hki := hk i
        rw [keepTo_succ, tieAt_of et]
        cases hv3 : valV kvs (Sum.inl (i : Int)) with
        | none =>
          rw [hv3] at hki
          rw [← hki]
          refine ⟨y, rfl, vs, hZ2, small1000 (by omega), vs ++ [y], upd_same, ?_, Same.mut s3 nZ⟩
          exact Paired.snoc (ties_tk (tk_lst hZ2) hv2) ((ht.tk (Same.tk (s1.trans s3))).tk (tk_lst hZ2))
        | some z =>
          rw [hv3] at hki
          rw [← hki]
          refine ⟨vs, hZ2, ?_, s3⟩
          simp only [Option.isSome_some, if_true, List.append_nil]
          exact hv2
      · rintro H2 ⟨vs, hZ, hv, s2⟩
        rw [hlen] at hv
        refine ⟨Z, vs, rfl, .inl ⟨SqL.of hZ, fun r nr => ⟨by show 2 ≤ sizeLine; decide, fun o no => ?_⟩⟩⟩
        have s3 : Same H2 _ := (same_new (o := .tup vs) nr).trans (same_new (o := .tup [.int n, .ref r]) no)
        exact q _ _ ((s1.trans s2).trans s3) ⟨o, r, vs, rfl, upd_same, same_new no _ _ upd_same, ties_tk (Same.tk s3) hv⟩
theorem ok_mend_holds {f : Addr} {fd : FuncData} {Ps : List Addr} (F : Fun K "mend_holds" "mend_holds" s_mend_holds f fd) (M : Free mg) (D_without : Df P w K mg base 1 "without" ["web", "numbers"] spWithout) (D_sides_of : Df P w K mg base 3 "sides_of" ["web"] spFixed) (D_are_rising_below : Df P w K mg base 4 "are_rising_below" ["limit", "thing"] (spRising Ps)) : FnOk P w K mg base CX0 5 f fd ["web", "thing"] (spMendHolds Ps) := by
  obtain ⟨f_without, fd_without, G_without, g_without, k_without, b_without⟩ := D_without
  obtain ⟨f_sides_of, fd_sides_of, G_sides_of, g_sides_of, k_sides_of, b_sides_of⟩ := D_sides_of
  obtain ⟨f_are_rising_below, fd_are_rising_below, G_are_rising_below, g_are_rising_below, k_are_rising_below, b_are_rising_below⟩ := D_are_rising_below
  refine F.ok sc_mend_holds (fun vs H Q E h => ?_) (fun cdv A outer s H vs Q E hr h => ?_)
  · obtain ⟨wv, v, n, ts, rfl, _⟩ := h
    rfl
  · obtain ⟨wv, v, n, ts, rfl, hW, ok, hv, hT, q⟩ := h
    refine ⟨_, (pss_one (ps_ret (pe_and (pe_call G_are_rising_below (hr.mono (by decide)) (by rfl) g_are_rising_below k_are_rising_below b_are_rising_below .nil pass0 (pa_cons (pe_callB call_len_seq (by rfl) M.len PySem.boot_len (pa_cons (pe_ix ix_tup (pv 0) pe_int (fun _ _ => rfl)) pa_nil)) (pa_cons (pv 1) pa_nil))) (pe_one (pe_cmpR op_notN (pe_call G_sides_of (hr.mono (by decide)) (by rfl) g_sides_of k_sides_of b_sides_of .nil pass0 (pa_cons (pe_call G_without (hr.mono (by decide)) (by rfl) g_without k_without b_without .nil pass0 (pa_cons (pv 0) (pa_cons (pv 1) pa_nil))) pa_nil)) pe_non (nomark _)))))), ?_⟩
    obtain ⟨wa, wb, us, rfl, hwa, hwb, hp⟩ := hW
    have hlen : us.length = ts.length := Paired.length hp
    refine ⟨.ref wa, rfl, wa, _, 1, .ref wb, rfl, rfl, SqT.of hwa, rfl, wb, us, rfl, .inr (SqT.of hwb), v, rfl, us.length, v, rfl, hv, hT, fun H1 k1 => ?_⟩
    rw [hlen]
    refine ⟨_, rfl, ?_⟩
    have T1 : Tabs Ps H1 := k1.tab
    unfold mendB at q
    cases hb : riseB H ts.length v with
    | false =>
      rw [hb] at q
      exact q _ k1
    | true =>
      rw [hb, Bool.true_and] at q
      have hb' := hb
      unfold riseB at hb'
      cases hpt : parts H v with
      | none =>
        rw [hpt] at hb'
        cases hb'
      | some xs =>
        rw [hpt] at hb' q
        have hb' : (xs.all (wbelow ts.length) && chainB xs) = true := hb'
        rw [Bool.and_eq_true] at hb'
        obtain ⟨ei, hk⟩ := ints_below hb'.1
        obtain ⟨a, rfl, ha⟩ := parts_at hpt
        replace q : ∀ H', Kt Ps H H' → Q (.bl (noOdd (keepTo ts (xs.map toI) ts.length) n)) H' := q
        generalize hks : xs.map toI = ks at ei hk q
        subst ei
        have lk : ks.length ≤ 1000 := by
          have := (hv.2 _ hpt).2
          rw [List.length_map] at this
          exact this
        refine ⟨.ref wa, rfl, .ref a, rfl, .ref wa, a, n, ts, ks, rfl, ⟨wa, wb, us, rfl, k1.tup hT hwa, k1.tup hT hwb, ties_tk (k1.tk hT) hp⟩, ok.few, k1.tup hT ha, lk, fun v' H2 s2 hW2 => ?_⟩
        have k2 := k1.trans (Kt.same T1 s2)
        refine ⟨v', n, _, rfl, hW2, keepTo_ok ok ks, fun ss r H3 told cons s3 h3 => ?_, fun H3 odd s3 => ?_⟩
        · refine ⟨rfl, ?_⟩
          have no : ¬ Odd (keepTo ts ks ts.length) n := cons_no_odd told.bin (fun t ht => by rw [told.len]; exact ok.ok t (keepTo_mem ht)) cons
          rw [noOdd_true no] at q
          exact q _ (k2.trans (Kt.same k2.tab s3))
        · refine ⟨rfl, ?_⟩
          rw [noOdd_false odd] at q
          exact q _ (k2.trans (Kt.same k2.tab s3))
end
/-! ### the law's own sides, walked -/
structure CS (ts : List Tie) (n : Nat) (ks : List Nb) (i : Nat) : Prop where
  nd : (ks.map (·.1)).Nodup
  ld : ∀ p ∈ ks, ∃ m, leader ts m ∧ RP ts m p.1 p.2
  cl : ∀ x ∈ ks.map (·.1), ∀ y, Rch ts x y → y ∈ ks.map (·.1)
  low : ∀ x : Int, 0 ≤ x → x < i → x ∈ ks.map (·.1)
  rg : ∀ x : Int, x ∈ ks.map (·.1) → 0 ≤ x ∧ x < n
theorem CS.lead {ts : List Tie} {n : Nat} {ks : List Nb} {i : Nat} (h : CS ts n ks i) (ok : ∀ t ∈ ts, TieOk n t) (hi : i < n) (no : (i : Int) ∉ ks.map (·.1)) : leader ts i := by
  rw [lead_iff ok ⟨by omega, by omega⟩]
  rintro ⟨x, x0, x1, r⟩
  exact no (h.cl x (h.low x x0 x1) i r)
theorem CS.off {ts : List Tie} {n : Nat} {ks : List Nb} {i : Nat} (h : CS ts n ks i) (no : (i : Int) ∉ ks.map (·.1)) {y : Int} (r : Rch ts i y) : y ∉ ks.map (·.1) := fun z => no (h.cl y z i r.symm)
theorem CS.more {ts : List Tie} {n : Nat} {ks : List Nb} {i : Nat} (h : CS ts n ks i) (ok : ∀ t ∈ ts, TieOk n t) (hi : i < n) (no : (i : Int) ∉ ks.map (·.1)) {k1 : List Nb} (sf : SF ts i k1 [] []) : CS ts n (ks ++ k1) (i + 1) := by
  have hl := h.lead ok hi no
  have em : (ks ++ k1).map (·.1) = ks.map (·.1) ++ k1.map (·.1) := List.map_append
  refine ⟨?_, fun p hp => ?_, fun x hx y r => ?_, fun x x0 x1 => ?_, fun x hx => ?_⟩
  · rw [em, List.nodup_append]
    refine ⟨h.nd, sf.nd, fun x hx z hz e => ?_⟩
    subst e
    exact h.off no ((sf.all x).mp hz) hx
  · rcases List.mem_append.mp hp with q | q
    · exact h.ld p q
    · exact ⟨_, hl, sf.rp p q⟩
  · rw [em] at hx ⊢
    rcases List.mem_append.mp hx with q | q
    · exact List.mem_append_left _ (h.cl x q y r)
    · exact List.mem_append_right _ ((sf.all y).mpr (((sf.all x).mp q).trans r))
  · rw [em]
    by_cases e : x < i
    · exact List.mem_append_left _ (h.low x x0 e)
    · have : x = i := by omega
      subst this
      exact List.mem_append_right _ ((sf.all _).mpr Rch.refl)
  · rw [em] at hx
    rcases List.mem_append.mp hx with q | q
    · exact h.rg x q
    · exact Rch.rng ok ⟨by omega, by omega⟩ ((sf.all x).mp q)
def valI (ks : List Nb) (j : Nat) : Int := match valV (kvOf ks) (Sum.inl (j : Int)) with
  | some (.int v) => v
  | _ => 0
theorem CS.told {ts : List Tie} {n : Nat} {ks : List Nb} (h : CS ts n ks n) : Told ts n ((List.range n).map (valI ks)) ∧ ∀ x : Int, 0 ≤ x → x < n → valV (kvOf ks) (Sum.inl x) = some (.int (sd ((List.range n).map (valI ks)) x)) := by
  have at' : ∀ j : Nat, j < n → ∃ b m, valV (kvOf ks) (Sum.inl (j : Int)) = some (.int (sideI b)) ∧ valI ks j = sideI b ∧ leader ts m ∧ RP ts m j b := fun j hj => by
    obtain ⟨⟨x, b⟩, hp, e⟩ := List.mem_map.mp (h.low j (by omega) (by omega))
    have e : x = (j : Int) := e
    subst e
    obtain ⟨m, h1, h2⟩ := h.ld _ hp
    have hv := kvOf_some h.nd hp
    refine ⟨b, m, hv, ?_, h1, h2⟩
    unfold valI
    rw [hv]
  refine ⟨told_of (by simp) fun i x e => ?_, fun x x0 x1 => ?_⟩
  · rw [List.getElem?_map] at e
    obtain ⟨j, e1, e2⟩ := Option.map_eq_some_iff.mp e
    have hj := List.mem_range.mp (List.mem_of_getElem? e1)
    rw [List.getElem?_range (by have := (List.getElem?_eq_some_iff.mp e1).1; simpa using this)] at e1
    cases e1
    obtain ⟨b, m, _, h2, h3, h4⟩ := at' i hj
    exact ⟨m, b, h3, h4, by rw [← e2, h2]⟩
  · obtain ⟨j, rfl⟩ : ∃ j : Nat, x = j := ⟨x.toNat, by omega⟩
    obtain ⟨b, m, h1, h2, _⟩ := at' j (by omega)
    rw [h1]
    unfold sd
    rw [Int.toNat_natCast, List.getD_eq_getElem?_getD, List.getElem?_map, List.getElem?_range (by omega)]
    show some (V.int (sideI b)) = some (V.int (valI ks j))
    rw [h2]
def prs (t : Tie) : List (Int × Int) := [(t.one, t.other), (t.other, t.one)]
def PairV (H : Hp) (v : V) (q : Int × Int) : Prop := ∃ a, v = .ref a ∧ H a = some (.tup [.int q.1, .int q.2])
theorem PairV.tk {H H' : Hp} (k : Tk H H') {v : V} {q : Int × Int} (h : PairV H v q) : PairV H' v q := by
  obtain ⟨a, rfl, e⟩ := h
  exact ⟨a, rfl, k _ _ e⟩
def nbE (t : Tie) (p : Int) (e : Nat) : List Nb := ((prs t).take e).flatMap fun q => if q.1 = p then [(q.2, t.foe)] else []
theorem nbE_two (t : Tie) (p : Int) : nbE t p 2 = nb1 t p := by
  unfold nbE nb1 prs
  simp only [List.take_succ_cons, List.take_nil, List.take_zero, List.flatMap_cons, List.flatMap_nil, List.append_nil]
  by_cases h1 : t.one = p <;> by_cases h2 : t.other = p
  · rw [if_pos h1, if_pos h2, if_pos h1.symm, if_pos h2.symm]
  · rw [if_pos h1, if_neg h2, if_pos h1.symm, if_neg (Ne.symm h2)]
  · rw [if_neg h1, if_pos h2, if_neg (Ne.symm h1), if_pos h2.symm]
  · rw [if_neg h1, if_neg h2, if_neg (Ne.symm h1), if_neg (Ne.symm h2)]
theorem nbE_succ {t : Tie} {p : Int} {e : Nat} {q : Int × Int} (h : (prs t)[e]? = some q) : nbE t p (e + 1) = nbE t p e ++ (if q.1 = p then [(q.2, t.foe)] else []) := by
  unfold nbE
  rw [List.take_add_one, h, List.flatMap_append]
  simp
def spLSides : Sp := fun vs H Q _ => ∃ (n : Nat) (L : Addr) (us : List V) (ts : List Tie), vs = [.int n, .ref L] ∧ H L = some (.lst us) ∧ Paired (TieV H) us ts ∧ WebOk n ts ∧ ∀ r H', Same H H' → (r = .non ↔ Odd ts n) → Q r H'
theorem side_add (b f : Bool) : (sideI b + (if decide (V.str (kindS f) = V.str "foe") = true then 1 else 0)) % 2 = sideI (b ^^ f) := by
  cases f <;> cases b <;> rfl
theorem Paired.app2 {α β : Type} {F : α → β → Prop} {a b : α} {x y : β} (h : F a x) (g : F b y) : Paired F [a, b] [x, y] := .cons h (.cons g .nil)
section
variable {P : Program} {w : World} {K : PySem.W.Frag} {mg : Str → Option Value} {base : Heap}
theorem ok_l_sides {f : Addr} {fd : FuncData} (F : Fun K "_law_sides" "_law_sides" s_l_sides f fd) (M : Free mg) : FnOk P w K mg base CX0 1 f fd ["_law_many", "_law_ties_here"] spLSides := by
  refine F.ok sc_l_sides (fun vs H Q E h => ?_) (fun cdv A outer s H vs Q E hr h => ?_)
  · obtain ⟨n, L, us, ts, rfl, _⟩ := h
    rfl
  · obtain ⟨n, L, us, ts, rfl, hL, hp, ok, q⟩ := h
    have hu := room1 hr
    refine ⟨_, (pss_cons (ps_set (i := 2) sc_l_sides.nd rfl (.inl rfl) pe_dnewK)
      (pss_cons (ps_for PassesOwn.never rfl (pi_range1 (by rfl) M.range (pa_cons (pv 0) pa_nil)) (pg_name (i := 3) sc_l_sides.nd rfl (.inl rfl))
        (pss_one (ps_if (pt_cmp (pc_dnotin hu (pv 3) (pv 2)))
          (pss_cons (ps_dput hu (pv 2) (pv 3) pe_int rfl)
          (pss_cons (ps_set (i := 4) sc_l_sides.nd rfl (.inl rfl) (pe_lst (pa_cons (pv 3) pa_nil)))
          (pss_one (ps_while PassesOwn.never (pt_cmpR (op_neE hr.units0) (pv 4) (pe_lst pa_nil) (nomark _))
            (pss_cons (ps_set (i := 5) sc_l_sides.nd rfl (.inl rfl) (pe_bm0 PySem.F.plainAttrs_list PySem.F.slot_list_pop PySem.F.type_list_pop mt_pop (pv 4)))
            (pss_one (ps_for PassesOwn.never rfl (pi_list (pv 1)) (pg_tup rfl (pgs_cons (pg_name (i := 6) sc_l_sides.nd rfl (.inl rfl)) (pgs_cons (pg_name (i := 7) sc_l_sides.nd rfl (.inl rfl)) (pgs_cons (pg_name (i := 8) sc_l_sides.nd rfl (.inl rfl)) pgs_nil))))
              (pss_one (ps_for PassesOwn.never rfl (pi_tup (pe_tup (pa_cons (pe_tup (pa_cons (pv 6) (pa_cons (pv 7) pa_nil))) (pa_cons (pe_tup (pa_cons (pv 7) (pa_cons (pv 6) pa_nil))) pa_nil)))) (pg_tup rfl (pgs_cons (pg_name (i := 9) sc_l_sides.nd rfl (.inl rfl)) (pgs_cons (pg_name (i := 10) sc_l_sides.nd rfl (.inl rfl)) pgs_nil)))
                (pss_one (ps_if (PW.pt (pw_and (pt_cmpR op_eq (pv 9) (pv 5) (nomark _)) (pw_and1 (pt_cmp (pc_dnotin hu (pv 10) (pv 2))))))
                  (Evl.pss_cut (ps_dput hu (pv 2) (pv 10) (pe_op op_mod (pe_op op_add (pe_dget hu (pv 2) (pv 5) (fun _ _ => rfl)) (pe_callTy call_int1 (by rfl) M.int (by decide +kernel) (pa_cons (pe_cmpR op_eq (pv 8) pe_str (nomark _)) pa_nil))) pe_int) rfl)
                  (pss_one (ps_expr (pe_bm PySem.F.plainAttrs_list PySem.F.slot_list_append PySem.F.type_list_append mt_append (pv 4) (pa_cons (pv 10) pa_nil)))))
                  pss_nil)))))))))))
          pss_nil)))
      (pss_cons (ps_for PassesOwn.never rfl (pi_list (pv 1)) (pg_tup rfl (pgs_cons (pg_name (i := 6) sc_l_sides.nd rfl (.inl rfl)) (pgs_cons (pg_name (i := 7) sc_l_sides.nd rfl (.inl rfl)) (pgs_cons (pg_name (i := 8) sc_l_sides.nd rfl (.inl rfl)) pgs_nil))))
        (pss_one (ps_if (pt_cmpR op_eq (pe_cmpR op_eq (pe_dget hu (pv 2) (pv 6) (fun _ _ => rfl)) (pe_dget hu (pv 2) (pv 7) (fun _ _ => rfl)) (nomark _)) (pe_cmpR op_eq (pv 8) pe_str (nomark _)) (nomark _))
          (pss_one (ps_ret pe_non))
          pss_nil)))
      (pss_one (ps_ret (pv 2)))))), ?_⟩
    have few := ok.few
    have nhi := ok.hi
    have nlo := ok.lo
    have hlen : us.length = ts.length := Paired.length hp
    refine fun d nd => ?_
    refine ⟨.int n, rfl, _, rfl, by omega, by omega, ?_⟩
    refine for_range (lo := 0) (n := n) (fun i σ' H' => ∃ (y3 y4 y5 y6 y7 y8 y9 y10 : Option V) (ks : List Nb), σ' = [some (.int n), some (.ref L), some (.ref d), y3, y4, y5, y6, y7, y8, y9, y10] ∧ H' d = some (.dK (kvOf ks)) ∧ Same H H' ∧ CS ts n ks i) ⟨none, none, none, none, none, none, none, none, [], rfl, upd_same, same_new nd, ⟨by simp, fun p hp => by simp at hp, fun x hx => by simp at hx, fun x x0 x1 => by omega, fun x hx => by simp at hx⟩⟩ ?_ ?_
    · rintro i σ' H1 hi ⟨y3, y4, y5, y6, y7, y8, y9, y10, ks, rfl, hd, s1, cs⟩
      rw [show (0 : Int) + (i : Nat) = (i : Nat) from by omega]
      refine ⟨.int (i : Nat), rfl, .ref d, rfl, d, _, rfl, DGet.k (k := Sum.inl (i : Int)) hd, _, rfl, ?_⟩
      have lks : ks.length ≤ n := by
        have := pigeon n (ks.map (·.1)) cs.nd cs.rg
        rw [List.length_map] at this
        exact this
      by_cases hin : (i : Int) ∈ ks.map (·.1)
      · obtain ⟨⟨x, b⟩, hpb, e⟩ := List.mem_map.mp hin
        have e : x = (i : Int) := e
        subst e
        rw [kvOf_some cs.nd hpb]
        refine ⟨_, _, _, _, _, _, _, _, ks, rfl, hd, s1, ⟨cs.nd, cs.ld, cs.cl, fun x x0 x1 => ?_, cs.rg⟩⟩
        by_cases e : x < i
        · exact cs.low x x0 e
        · have : x = i := by omega
          rw [this]
          exact hin
      · rw [kvOf_none hin]
        have ep := kvOf_put (b := false) hin
        refine ⟨.ref d, rfl, .int (i : Nat), rfl, d, _, rfl, DPut.k (k := Sum.inl (i : Int)) hd (by rw [kvOf_len]; exact small1000 (by omega)), ?_⟩
        rw [show putK (kvOf ks) (Sum.inl (i : Int)) (V.int 0) = kvOf (ks ++ [((i : Int), false)]) from ep]
        have hd2 : (upd H1 d (.dK (kvOf (ks ++ [((i : Int), false)])))) d = some (.dK (kvOf (ks ++ [((i : Int), false)]))) := upd_same
        have s2 : Same H (upd H1 d (.dK (kvOf (ks ++ [((i : Int), false)])))) := Same.mut s1 nd
        generalize upd H1 d (.dK (kvOf (ks ++ [((i : Int), false)]))) = H2 at hd2 s2
        refine ⟨.int (i : Nat), rfl, by show 1 ≤ sizeLine; decide, fun W nW => ?_⟩
        have hdW : W ≠ d := (ne_of_none hd2 nW).symm
        have nWH : H W = none := s2.free nW
        have adr : ∀ x : Int, (0 ≤ (i : Int) ∧ (i : Int) < n) := fun _ => ⟨by omega, by omega⟩
        refine ⟨fun m σ' H' => ∃ (y5 y6 y7 y8 y9 y10 : Option V) (k1 : List Nb) (wl : List Int), σ' = [some (.int n), some (.ref L), some (.ref d), some (.int (i : Nat)), some (.ref W), y5, y6, y7, y8, y9, y10] ∧ H' d = some (.dK (kvOf (ks ++ k1))) ∧ H' W = some (.lst (wl.map V.int)) ∧ Same H H' ∧ SF ts i k1 wl [] ∧ m = 2 * (n - k1.length) + wl.length, ⟨_, y5, y6, y7, y8, y9, y10, [((i : Int), false)], [(i : Int)], rfl, ?_, upd_same, Same.mut s2 nWH, ?_, rfl⟩, ?_⟩
        · rw [upd_ne (Ne.symm hdW)]
          exact hd2
        · exact ⟨by simp, fun p hp => by rw [List.mem_singleton.mp hp]; exact .nil, by simp, fun x hx => hx, Nat.le_refl _, fun x hx h1 => absurd hx h1⟩
        · clear hd hd2 s1 s2 nW
          rintro m σ' H3 ⟨y5, y6, y7, y8, y9, y10, k1, wl, rfl, hd3, hW3, s3, sf, hm⟩
          refine ⟨.ref W, rfl, Nat.zero_le _, fun p0 n0 => ⟨W, p0, wl.map V.int, rfl, rfl, SqL.of (same_new n0 _ _ hW3), SqL.of upd_same, _, rfl, ?_⟩⟩
          have hd4 := same_new (o := .lst []) n0 _ _ hd3
          have hW4 := same_new (o := .lst []) n0 _ _ hW3
          have s4 := s3.trans (same_new (o := .lst []) n0)
          clear hd3 hW3 s3
          generalize upd H3 p0 (.lst []) = H4 at hd4 hW4 s4
          have fewk := sf.few ok.ok ⟨by omega, by omega⟩
          cases hwl : wl with
          | nil =>
            subst hwl
            refine ⟨_, _, _, _, _, _, _, _, ks ++ k1, rfl, hd4, s4, ?_⟩
            exact cs.more ok.ok hi hin sf
          | cons z zs =>
            obtain ⟨ys, p, e⟩ : ∃ (ys : List Int) (p : Int), z :: zs = ys ++ [p] := ⟨(z :: zs).dropLast, (z :: zs).getLast (by simp), (List.dropLast_concat_getLast (by simp)).symm⟩
            have hb : (!(List.map V.int (z :: zs)).isEmpty) = true := rfl
            rw [hb]
            rw [hwl, e] at hW4 sf hm
            have hpk := sf.sub p (by simp)
            obtain ⟨b, hb1, hb2⟩ := sf.keys hpk
            have sp := sf.pop
            have e3 : ((ys ++ [p]).map V.int).dropLast = ys.map V.int := by simp
            refine ⟨fun σ' H' => ∃ m', m' < m ∧ ∃ (y5 y6 y7 y8 y9 y10 : Option V) (k1 : List Nb) (wl : List Int), σ' = [some (.int n), some (.ref L), some (.ref d), some (.int (i : Nat)), some (.ref W), y5, y6, y7, y8, y9, y10] ∧ H' d = some (.dK (kvOf (ks ++ k1))) ∧ H' W = some (.lst (wl.map V.int)) ∧ Same H H' ∧ SF ts i k1 wl [] ∧ m' = 2 * (n - k1.length) + wl.length, fun _ _ h => h, ?_⟩
            refine ⟨.ref W, rfl, .inl ⟨rfl, _, SqL.of hW4⟩, W, _, .int p, rfl, rfl, hW4, by simp, ?_⟩
            rw [e3]
            have hd5 : (upd H4 W (.lst (ys.map V.int))) d = some (.dK (kvOf (ks ++ k1))) := by rw [upd_ne (Ne.symm hdW)]; exact hd4
            have hW5 : (upd H4 W (.lst (ys.map V.int))) W = some (.lst (ys.map V.int)) := upd_same
            have s5 : Same H (upd H4 W (.lst (ys.map V.int))) := Same.mut s4 nWH
            generalize upd H4 W (.lst (ys.map V.int)) = H5 at hd5 hW5 s5
            refine ⟨.ref L, rfl, L, rfl, ⟨_, SqL.of (s5 _ _ hL)⟩, ?_⟩
            refine for_list (xs := us) (fun j σ' H' => ∃ (y6 y7 y8 y9 y10 : Option V) (k1 : List Nb) (wl : List Int), σ' = [some (.int n), some (.ref L), some (.ref d), some (.int (i : Nat)), some (.ref W), some (.int p), y6, y7, y8, y9, y10] ∧ H' d = some (.dK (kvOf (ks ++ k1))) ∧ H' W = some (.lst (wl.map V.int)) ∧ Same H H' ∧ SF ts i k1 wl [p] ∧ (p, b) ∈ k1 ∧ (∀ q ∈ nbs (ts.take j) p, q.1 ∈ k1.map (·.1)) ∧ 2 * (n - k1.length) + wl.length < m) ?_ ?_ ?_ ?_
            · exact ⟨y6, y7, y8, y9, y10, k1, ys, rfl, hd5, hW5, s5, sp, hb1, fun q hq => by simp [nbs] at hq, by rw [hm, List.length_append]; simp⟩
            · rintro j σ' H' _ ⟨y6, y7, y8, y9, y10, k1, wl, rfl, _, _, s6, _⟩
              exact SqL.of (s6 _ _ hL)
            · clear hd5 hW5 s5 sp hb1 hpk sf hm hd4 hW4 s4
              rintro j u σ' H6 eu ⟨y6, y7, y8, y9, y10, k1, wl, rfl, hd6, hW6, s6, sf6, hb6, hdn, hlt⟩
              obtain ⟨t, et, c, rfl, hc⟩ := Paired.at hp eu
              have tmem := List.mem_of_getElem? et
              refine ⟨c, _, rfl, SqT.of (s6 _ _ hc), rfl, _, _, rfl, _, _, rfl, _, _, rfl, rfl, ?_⟩
              refine ⟨.int t.one, rfl, .int t.other, rfl, by show 2 ≤ sizeLine; decide, fun p1 n1 => ?_⟩
              refine ⟨.int t.other, rfl, .int t.one, rfl, by show 2 ≤ sizeLine; decide, fun p2 n2 => ⟨by show 2 ≤ sizeLine; decide, fun p3 n3 => ?_⟩⟩
              have s7 := (same_new (o := .tup [.int t.one, .int t.other]) n1)
              have s8 := (same_new (o := .tup [.int t.other, .int t.one]) n2)
              have s9 := (same_new (o := .tup [.ref p1, .ref p2]) n3)
              have s789 := (s7.trans s8).trans s9
              have pp : Paired (PairV _) [V.ref p1, .ref p2] (prs t) := Paired.app2 ⟨p1, rfl, s9 _ _ (s8 _ _ upd_same)⟩ ⟨p2, rfl, s9 _ _ upd_same⟩
              have h3 : _ = some (HO.tup [.ref p1, .ref p2]) := upd_same (H := upd (upd H6 p1 (.tup [.int t.one, .int t.other])) p2 (.tup [.int t.other, .int t.one])) (a := p3)
              have hd9 := s789 _ _ hd6
              have hW9 := s789 _ _ hW6
              have s10 := s6.trans s789
              clear hd6 hW6 s6 s7 s8 s9 s789 n1 n2 n3
              generalize upd (upd (upd H6 p1 (.tup [.int t.one, .int t.other])) p2 (.tup [.int t.other, .int t.one])) p3 (.tup [.ref p1, .ref p2]) = H9 at pp h3 hd9 hW9 s10
              refine ⟨p3, rfl, ⟨_, SqT.of h3⟩, ?_⟩
              refine for_tup (xs := [.ref p1, .ref p2]) (fun e σ' H' => ∃ (y9 y10 : Option V) (k1 : List Nb) (wl : List Int), σ' = [some (.int n), some (.ref L), some (.ref d), some (.int (i : Nat)), some (.ref W), some (.int p), some (.int t.one), some (.int t.other), some (.str (kindS t.foe)), y9, y10] ∧ H' d = some (.dK (kvOf (ks ++ k1))) ∧ H' W = some (.lst (wl.map V.int)) ∧ Same H H' ∧ Tk H9 H' ∧ SF ts i k1 wl [p] ∧ (p, b) ∈ k1 ∧ (∀ q ∈ nbs (ts.take j) p ++ nbE t p e, q.1 ∈ k1.map (·.1)) ∧ 2 * (n - k1.length) + wl.length < m) ?_ ?_ ?_ ?_
              · exact ⟨y9, y10, k1, wl, rfl, hd9, hW9, s10, fun _ _ z => z, sf6, hb6, fun q hq => hdn q (by simpa [nbE] using hq), hlt⟩
              · rintro e σ' H' _ ⟨y9, y10, k1, wl, rfl, _, _, _, tk, _⟩
                exact SqT.of (tk _ _ h3)
              · clear hd9 hW9 s10 sf6 hb6 hdn hlt
                rintro e v σ' H10 ev ⟨y9, y10, k1, wl, rfl, hd10, hW10, s10, tk10, sf10, hb10, hdn, hlt⟩
                obtain ⟨q, eq, a, rfl, ha⟩ := Paired.at pp ev
                refine ⟨a, _, rfl, SqT.of (tk10 _ _ ha), rfl, _, _, rfl, _, _, rfl, rfl, ?_⟩
                refine ⟨.int q.1, rfl, .int p, rfl, rfl, _, rfl, ?_⟩
                rw [dec_int]
                have esucc := nbE_succ (p := p) eq
                by_cases h1 : q.1 = p
                · rw [decide_eq_true h1]
                  rw [if_pos h1] at esucc
                  have ady : Adj ts p q.2 t.foe := by
                    refine ⟨t, tmem, rfl, ?_⟩
                    have hq : q ∈ prs t := List.mem_of_getElem? eq
                    unfold prs at hq
                    simp only [List.mem_cons, List.not_mem_nil, or_false] at hq
                    rcases hq with e | e
                    · subst e
                      exact .inl ⟨h1, rfl⟩
                    · subst e
                      exact .inr ⟨rfl, h1⟩
                  have few10 := sf10.few ok.ok ⟨by omega, by omega⟩
                  have off : q.2 ∉ ks.map (·.1) := cs.off hin ((show Rch ts i p from ⟨b, sf10.rp _ hb10⟩).trans (Rch.adj ady))
                  have nd10 : ((ks ++ k1).map (·.1)).Nodup := by
                    rw [List.map_append, List.nodup_append]
                    refine ⟨cs.nd, sf10.nd, fun x hx z hz e => ?_⟩
                    subst e
                    obtain ⟨bb, _, r⟩ := sf10.keys hz
                    exact cs.off hin ⟨bb, r⟩ hx
                  refine ⟨.int q.2, rfl, .ref d, rfl, d, _, rfl, DGet.k (k := Sum.inl q.2) hd10, _, rfl, ?_⟩
                  by_cases hy : q.2 ∈ k1.map (·.1)
                  · obtain ⟨yb, yb1, _⟩ := sf10.keys hy
                    rw [kvOf_some nd10 (List.mem_append_right _ yb1)]
                    refine ⟨_, _, k1, wl, rfl, hd10, hW10, s10, tk10, sf10, hb10, fun z hz => ?_, hlt⟩
                    rw [esucc, ← List.append_assoc] at hz
                    rcases List.mem_append.mp hz with z1 | z1
                    · exact hdn z z1
                    · rw [List.mem_singleton.mp z1]
                      exact hy
                  · have hy' : q.2 ∉ (ks ++ k1).map (·.1) := by
                      rw [List.map_append, List.mem_append]
                      exact fun z => z.elim off hy
                    rw [kvOf_none hy']
                    have sfp := sf10.push (sf10.rp _ hb10) ady hy
                    have few2 := sfp.few ok.ok ⟨by omega, by omega⟩
                    have l10 : (kvOf (ks ++ k1)).length < sizeLine := by rw [kvOf_len, List.length_append]; exact small1000 (by omega)
                    have vp := kvOf_some nd10 (List.mem_append_right ks hb10)
                    have ep := kvOf_put (b := b ^^ t.foe) hy'
                    refine ⟨fun σ' H' => σ' = [some (.int n), some (.ref L), some (.ref d), some (.int (i : Nat)), some (.ref W), some (.int p), some (.int t.one), some (.int t.other), some (.str (kindS t.foe)), some (.int q.1), some (.int q.2)] ∧ H' = upd H10 d (.dK (kvOf (ks ++ (k1 ++ [(q.2, b ^^ t.foe)])))), ?_, ?_⟩
                    · refine ⟨.ref d, rfl, .int p, rfl, d, _, rfl, (by rw [← vp]; exact DGet.k (k := Sum.inl p) hd10), .str (kindS t.foe), rfl, rfl, .inr ⟨_, rfl, _, _, rfl, rfl, _, 2, rfl, rfl, (show (0 : Int) < 2 by decide), .ref d, rfl, .int q.2, rfl, d, _, rfl, DPut.k (k := Sum.inl q.2) hd10 l10, rfl, ?_⟩⟩
                      rw [← List.append_assoc, ← ep, ← side_add]
                    · rintro σ' H11 ⟨rfl, rfl⟩
                      have hW11 : (upd H10 d (.dK (kvOf (ks ++ (k1 ++ [(q.2, b ^^ t.foe)]))))) W = some (.lst (wl.map V.int)) := by rw [upd_ne hdW]; exact hW10
                      have lw := sf10.le
                      refine ⟨.ref W, rfl, .inl ⟨rfl, _, SqL.of hW11⟩, .int q.2, rfl, W, _, _, rfl, rfl, hW11, by rw [List.length_map]; exact small1000 (by omega), ?_⟩
                      refine ⟨_, _, k1 ++ [(q.2, b ^^ t.foe)], wl ++ [q.2], rfl, ?_, by rw [upd_same, List.map_append]; rfl, Same.mut (Same.mut s10 nd) nWH, fun b xs z => ?_, sfp, List.mem_append_left _ hb10, fun z hz => ?_, ?_⟩
                      · rw [upd_ne (Ne.symm hdW)]
                        exact upd_same
                      · have z1 := tk10 _ _ z
                        rw [upd_ne (ne_of z1 hW10 (by intro y; cases y)), upd_ne (ne_of z1 hd10 (by intro y; cases y))]
                        exact z1
                      · rw [List.map_append]
                        rw [esucc, ← List.append_assoc] at hz
                        rcases List.mem_append.mp hz with z1 | z1
                        · exact List.mem_append_left _ (hdn z z1)
                        · rw [List.mem_singleton.mp z1]
                          exact List.mem_append_right _ (by simp)
                      · rw [List.length_append, List.length_append] at *
                        simp only [List.length_cons, List.length_nil] at *
                        omega
                · rw [decide_eq_false h1]
                  rw [if_neg h1, List.append_nil] at esucc
                  exact ⟨_, _, k1, wl, rfl, hd10, hW10, s10, tk10, sf10, hb10, by rw [esucc]; exact hdn, hlt⟩
              · clear hd9 hW9 s10 sf6 hb6 hdn hlt
                rintro σ' H10 ⟨y9, y10, k1, wl, rfl, hd10, hW10, s10, tk10, sf10, hb10, hdn, hlt⟩
                refine ⟨_, _, _, _, _, k1, wl, rfl, hd10, hW10, s10, sf10, hb10, ?_, hlt⟩
                rw [List.take_add_one, et]
                show ∀ q ∈ nbs (List.take j ts ++ [t]) p, _
                rw [nbs_snoc, ← nbE_two]
                exact hdn
            · clear hd5 hW5 s5 sp hb1 hpk sf hm hd4 hW4 s4
              rintro σ' H6 ⟨y6, y7, y8, y9, y10, k1, wl, rfl, hd6, hW6, s6, sf6, hb6, hdn, hlt⟩
              rw [hlen, List.take_length] at hdn
              exact ⟨_, hlt, _, _, _, _, _, _, k1, wl, rfl, hd6, hW6, s6, sf6.done hdn, rfl⟩
    · rintro σ' H1 ⟨y3, y4, y5, y6, y7, y8, y9, y10, ks, rfl, hd, s1, cs⟩
      obtain ⟨told, vals⟩ := cs.told
      generalize (List.range n).map (valI ks) = ss at told vals
      have okt : ∀ t ∈ ts, TieOk ss.length t := fun t ht => by rw [told.len]; exact ok.ok t ht
      refine ⟨.ref L, rfl, L, rfl, ⟨_, SqL.of (s1 _ _ hL)⟩, ?_⟩
      refine for_list (xs := us) (fun j σ' H' => ∃ (y6 y7 y8 : Option V), σ' = [some (.int n), some (.ref L), some (.ref d), y3, y4, y5, y6, y7, y8, y9, y10] ∧ H' = H1 ∧ ∀ t ∈ ts.take j, brk ss t = false) ⟨y6, y7, y8, rfl, rfl, fun t ht => by simp at ht⟩ (fun j σ' H' _ h => by
        obtain ⟨_, _, _, _, e, _⟩ := h
        rw [e]
        exact SqL.of (s1 _ _ hL)) ?_ ?_
      · rintro j u σ' H2 eu ⟨y6, y7, y8, rfl, e, hal⟩
        subst e
        obtain ⟨t, et, c, rfl, hc⟩ := Paired.at hp eu
        have tmem := List.mem_of_getElem? et
        have o := ok.ok t tmem
        have g1 : DGet H2 d (.int t.one) (some (.int (sd ss t.one))) := by rw [← vals t.one o.1 o.2.1]; exact DGet.k (k := Sum.inl t.one) hd
        have g2 : DGet H2 d (.int t.other) (some (.int (sd ss t.other))) := by rw [← vals t.other o.2.2.1 o.2.2.2.1]; exact DGet.k (k := Sum.inl t.other) hd
        refine ⟨c, _, rfl, SqT.of (s1 _ _ hc), rfl, _, _, rfl, _, _, rfl, _, _, rfl, rfl, ?_⟩
        refine ⟨.ref d, rfl, .int t.one, rfl, d, _, rfl, g1, .ref d, rfl, .int t.other, rfl, d, _, rfl, g2, rfl, .str (kindS t.foe), rfl, rfl, rfl, _, rfl, ?_⟩
        rw [eq_brk]
        have eb : (decide (sd ss t.one = sd ss t.other) == t.foe) = brk ss t := rfl
        rw [eb]
        cases hb : brk ss t with
        | true => exact q _ _ s1 ⟨fun _ => told_odd ok.ok told tmem hb, fun _ => rfl⟩
        | false =>
          refine ⟨_, _, _, rfl, rfl, fun z hz => ?_⟩
          rw [List.take_add_one, et] at hz
          rcases List.mem_append.mp hz with h | h
          · exact hal z h
          · have : z = t := by simpa using h
            rw [this]
            exact hb
      · rintro σ' H2 ⟨y6, y7, y8, rfl, e, hal⟩
        subst e
        rw [hlen, List.take_length] at hal
        exact ⟨_, rfl, q _ _ s1 ⟨(fun z => by cases z), fun odd => absurd odd (cons_no_odd told.bin okt hal)⟩⟩
end
/-! ### t[::-1] of a tuple -/
theorem fm_congr {α β : Type} {f g : α → Option β} : ∀ {l : List α}, (∀ x ∈ l, f x = g x) → l.filterMap f = l.filterMap g
  | [], _ => rfl
  | x :: l, h => by
    rw [List.filterMap_cons, List.filterMap_cons, h x (by simp), fm_congr (l := l) fun y hy => h y (List.mem_cons_of_mem _ hy)]
theorem back_pick (items : Array Value) : ((List.range items.size).filterMap fun (k : Nat) => items[((items.size : Int) - 1 + (k : Int) * (-1)).toNat]?).toArray = items.toList.reverse.toArray := by
  have e : (List.range items.size).filterMap (fun (k : Nat) => items[((items.size : Int) - 1 + (k : Int) * (-1)).toNat]?) = ((List.range items.size).map fun k => items.size - 1 - k).filterMap (items[·]?) := by
    rw [List.filterMap_map]
    refine fm_congr fun k hk => ?_
    have := List.mem_range.mp hk
    show _ = items[items.size - 1 - k]?
    congr 1
    omega
  rw [e, PySem.W.krv_range, List.filterMap_reverse, PySem.W.krv_all]
section
variable {P : Program} {w : World} {A : PySem.Around} {E : Value → Shared → Prop} {s : Shared}
theorem applied_back {sl : Addr} {vk : Value} {n : Nat} {Q : Int × Int × Nat → Shared → Prop} (hs : s.heap.IsSliceOf sl .none .none vk) (pk : IsPart vk (some (-1))) (h : Q ((n : Int) - 1, -1, n) s) : wpAny (model P w) A (Builtin.Slice.sliceApplied (.ref sl) (pure (n : Int))) Q E s := by
  obtain ⟨os, look, _, flds⟩ := id hs
  unfold Builtin.Slice.sliceApplied Builtin.Slice.sliceFields
  refine wpAny_bind (wpAny_bind (wpAny_field look flds (x := .none) rfl (wpAny_bind (wpAny_field look flds (x := .none) rfl (wpAny_bind (wpAny_field look flds (x := vk) rfl (wpAny_pure ?_)))))))
  refine wpAny_bind (HT.slicePart_ pk ?_)
  show wpAny _ _ (if ((-1 : Int) == 0) = true then _ else _) _ _ s
  rw [if_neg (by decide)]
  refine wpAny_bind (HT.slicePart_ .none (wpAny_bind (HT.slicePart_ .none (wpAny_bind (wpAny_pure ?_)))))
  have pl : Builtin.Slice.slicePlaces ((n : Int) - 1) (-1) (-1) = n := by
    unfold Builtin.Slice.slicePlaces
    rw [if_neg (by decide)]
    by_cases z : (n : Int) - 1 > -1
    · rw [if_pos z, show (-(-1) : Int) = 1 from by decide, Int.ediv_one]
      omega
    · rw [if_neg z]
      omega
  show wpAny _ _ (pure ((n : Int) - 1, (-1 : Int), Builtin.Slice.slicePlaces ((n : Int) - 1) (-1) (-1))) _ _ s
  rw [pl]
  exact wpAny_pure h
theorem getItem_back {t sl : Addr} {items : Array Value} {vk : Value} {Q : Value → Shared → Prop} (ht : IsTup s.heap t items) (hs : s.heap.IsSliceOf sl .none .none vk) (pk : IsPart vk (some (-1))) (hsz : items.size ≤ sizeLine)
    (h : Q (.ref s.heap.objs.size) { s with heap := s.heap.push { cls := .type "tuple", data := .seq items.toList.reverse.toArray } }) : wpAny (model P w) A (getItem (.ref t) (.ref sl)) Q E s := by
  have small : sizeOk (.seq items.toList.reverse.toArray) := by
    show items.toList.reverse.toArray.size ≤ sizeLine
    rw [List.size_toArray, List.length_reverse, Array.length_toList]
    exact hsz
  obtain ⟨os, look, kind, _⟩ := id hs
  have isSl : s.TypeIs (.ref sl) "slice" := ⟨os, look, kind⟩
  unfold getItem
  try with_reducible refine wpAny_holding ?_
  first | refine wpAny_bind (wpAny_pure ?_) | skip
  refine wpAny_bind (wpAny_sequenceKey ht.typeIs (by decide) ?_)
  refine wpAny_bind (wpAny_callSpecial?_slot (name := Str.ofString "__getitem__") ht.typeIs PyProof.Rows.slot_tuple_getitem (wpAny_call_entry PyProof.Rows.slot_tuple_getitem ht.typeIs PySem.F.entry_tuple_getitem ?_ (PySem.F.args_tuple_getitem_2 _ _)))
  show wpAny _ _ (Builtin.Tuple.tupleItemsOf (.ref t) >>= _) _ _ s
  refine wpAny_bind (tupleItemsOf_ ht ?_)
  refine wpAny_bind (wpAny_typeOf isSl ?_)
  rw [if_pos (by decide)]
  refine wpAny_bind (applied_back hs pk ?_)
  have no : ¬ (((items.size : Int) - 1 == 0 && (-1 : Int) == 1 && items.size == items.size) = true) := by
    intro z
    rw [Bool.and_eq_true, Bool.and_eq_true] at z
    exact absurd z.1.2 (by decide)
  show wpAny _ _ (if ((items.size : Int) - 1 == 0 && (-1 : Int) == 1 && items.size == items.size) = true then _ else _) _ _ s
  rw [if_neg no, back_pick]
  first
    | exact wpAny_bind (m := Builtin.Tuple.tupleExact _) (wpAny_newObj_type (wpAny_pure ⟨_, rfl, wpAny_pure h⟩) small)
    | exact wpAny_bind (wpAny_bind (m := Builtin.Tuple.tupleExact _) (wpAny_newObj_type (wpAny_pure (wpAny_pure ⟨_, rfl, wpAny_pure h⟩)) small))
    | exact wpAny_bind (m := Builtin.Tuple.tupleExact _) (wpAny_newObj_type (wpAny_bind (wpAny_pure (wpAny_pure ⟨_, rfl, wpAny_pure h⟩))) small)
end
def tRevT (K : PySem.W.Frag) (te : TE) : TE := fun σ H Q => te σ H fun x H1 => ∃ a xs, x = .ref a ∧ SqT K H1 a xs ∧ ∀ p, H1 p = none → Q (.ref p) (upd H1 p (.tup xs.reverse))
theorem pe_revT {X : Cx} {e : Expr} {te : TE} {k : Nat} {p1 p2 p3 pos : Pos} (he : PE X e te) : PE X (.Subscript e (.Slice none none (some (.UnaryOp .USub (.Constant (.int 1) k p1) p2)) p3) pos) (tRevT X.K te) := by
  refine ⟨fun pins s σ H Q I want => Subscript_ (thn (he.run pins s σ H _ I want) fun v s1 got => ?_)⟩
  obtain ⟨x, H1, I1, r1, a, xs, ex, hx, q⟩ := got
  subst ex
  obtain rfl : v = Value.ref a := r1
  have step : PO X (some (.UnaryOp .USub (.Constant (.int 1) k p1) p2)) (tPart (tUn (rU fun i => .int (-i)) (tC (.int 1)))) := po_some (pe_un un_neg pe_int)
  refine wpAny_Slice (thn (po_none.run pins s1 σ H1 (fun o H2 => o = none ∧ H2 = H1) I1 ⟨rfl, rfl⟩) fun vl s2 got2 => ?_)
  obtain ⟨_, _, I2, pl, rfl, rfl⟩ := got2
  refine thn (po_none.run pins s2 σ _ (fun o H3 => o = none ∧ H3 = _) I2 ⟨rfl, rfl⟩) fun vu s3 got3 => ?_
  obtain ⟨_, _, I3, pu, rfl, rfl⟩ := got3
  refine thn (step.run pins s3 σ _ (fun o H4 => o = some (-1) ∧ H4 = _) I3 ⟨1, rfl, -1, rfl, rfl, rfl⟩) fun vk s4 got4 => ?_
  obtain ⟨_, H4, I4, pk, rfl, rfl⟩ := got4
  cases pl
  cases pu
  have I5 : Inv X pins σ H4 { s4 with heap := s4.heap.push { cls := .type "slice", data := .fields #[.none, .none, vk] } } := I4.kept (t' := s4.toks) fun b ob z => Heap.get?_push_of_some _ z
  obtain ⟨its, rel, tup, small⟩ := I5.tuple hx
  have hlen := rel.length
  show wpAny (model X.prog X.w) X.A (subscriptTail e (.Slice none none (some (.UnaryOp .USub (.Constant (.int 1) k p1) p2)) p3) (.ref a) (.ref s4.heap.objs.size)) (EP X pins σ Q) X.xe _
  refine tail_any (ops := [.ref a, .ref s4.heap.objs.size]) tup.typeIs PyProof.Rows.slot_tuple_getitem.lookup ?_ (by with_unfolding_all rfl)
  refine getItem_back tup (Heap.IsSliceOf.new _ .none .none vk) pk (by rw [List.size_toArray]; omega) ?_
  refine ⟨.ref _, _, I5.laid (t' := s4.toks) (o := .tup xs.reverse) (fun b ob z => Heap.get?_push_of_some _ z) (Nat.le_refl _) ?_, rfl, q _ (I5.hok.fresh (Nat.le_refl _))⟩
  exact ⟨by rw [List.length_reverse]; exact small, _, rel.reverse, IsTup.new _ _⟩
/-! ### what holds wherever all but the deck and one list is kept -/
def K3 (d c L : Addr) (H H' : Hp) : Prop := ∀ b o, b ≠ d → b ≠ c → b ≠ L → H b = some o → H' b = some o
theorem K3.trans {d c L : Addr} {H H1 H2 : Hp} (a : K3 d c L H H1) (b : K3 d c L H1 H2) : K3 d c L H H2 := fun x o h1 h2 h3 h => b x o h1 h2 h3 (a x o h1 h2 h3 h)
theorem Kp.k3 {d c L : Addr} {H H' : Hp} (k : Kp d c H H') : K3 d c L H H' := fun b o h1 h2 _ h => k b o h1 h2 h
theorem K3.at {d c L : Addr} {H : Hp} {o : HO} : K3 d c L H (upd H L o) := fun b u _ _ h3 h => by rw [upd_ne h3]; exact h
def Stay3 (d c L : Addr) (R : Hp → V → Prop) (H : Hp) (v : V) : Prop := ∀ H', K3 d c L H H' → R H' v
theorem Stay3.weak {d c L : Addr} {R : Hp → V → Prop} {H : Hp} {v : V} (h : Stay3 d c L R H v) : Stay d c R H v := fun H' k => h H' k.k3
theorem Stay3.k3 {d c L : Addr} {R : Hp → V → Prop} {H H' : Hp} {v : V} (h : Stay3 d c L R H v) (k : K3 d c L H H') : Stay3 d c L R H' v := fun H'' k' => h H'' (k.trans k')
theorem Stay.conv {d c L : Addr} {R : Hp → V → Prop} {H : Hp} {v : V} {o : HO} (h : Stay d c R H v) (n : H L = none) : Stay3 d c L R (upd H L o) v := fun H' k => h H' fun b u h1 h2 e => by
  have hb : b ≠ L := ne_of_none e n
  exact k b u h1 h2 hb (by rw [upd_ne hb]; exact e)
theorem K3.own {d c L p : Addr} {H H' : Hp} {o : HO} (k : K3 d c L H H') (h : Own d c H p o) (n : p ≠ L) : Own d c H' p o := ⟨h.1, h.2.1, k _ _ h.1 h.2.1 n h.2.2⟩
/-! ### k36: webs, and what is a mend, by the law -/
def spLTies : Sp := fun vs H Q _ => ∃ (d c : Addr) (n m : Int), vs = [.ref d, .int n, .int m] ∧ Deck H d c ∧ 1 ≤ n ∧ n ≤ 40 ∧ 0 ≤ m ∧ m ≤ 120 ∧ ∀ r us ts H', H' r = some (.tup us) → Paired (TieV H') us ts → WebOk n ts → Deck H' d c → Kp d c H H' → Q (.ref r) H'
def spLBroken : Sp := fun vs H Q _ => ∃ (a b : Addr) (us : List V) (ts : List Tie) (n : Int) (ss : List Int), vs = [.ref a, .ref b] ∧ H a = some (.tup us) ∧ Paired (TieV H) us ts ∧ WebOk n ts ∧ H b = some (.lst (ss.map V.int)) ∧ (ss.length : Int) = n ∧ ∀ r (ks : List Int) H', Same H H' → H' r = some (.tup (ks.map V.int)) → ks.length ≤ 120 → Q (.ref r) H'
def listD (xs : List Int) : PyData := .list (xs.map PyData.int)
theorem shaped_listD (xs : List Int) : SeqAt.shaped (listD xs) = true := by
  unfold SeqAt.shaped listD
  rw [PyData.canLay0, PyData.depth, lay_ints, deep_ints]
  rfl
theorem eqvAll_ints : ∀ xs ys : List Int, PyData.eqvAll (xs.map PyData.int) (ys.map PyData.int) = decide (xs = ys)
  | [], [] => by simp [PyData.eqvAll]
  | [], y :: ys => by simp [PyData.eqvAll]
  | x :: xs, [] => by simp [PyData.eqvAll]
  | x :: xs, y :: ys => by
    rw [List.map_cons, List.map_cons, PyData.eqvAll, eqvAll_ints xs ys, PyData.eqv]
    by_cases h1 : x = y <;> by_cases h2 : xs = ys <;> simp [h1, h2]
theorem eqv_listD (xs ys : List Int) : PyData.eqv (listD xs) (listD ys) = decide (xs = ys) := by
  unfold listD
  rw [PyData.eqv]
  exact eqvAll_ints xs ys
theorem chain_ints : ∀ ks : List Int, chainB (ks.map V.int) = true ↔ ks.Pairwise (· < ·)
  | [] => by simp [chainB]
  | [x] => by simp [chainB]
  | x :: y :: r => by
    have ih := chain_ints (y :: r)
    have e : chainB ((x :: y :: r).map V.int) = (decide (x < y) && chainB ((y :: r).map V.int)) := rfl
    rw [e, Bool.and_eq_true, ih, decide_eq_true_iff, List.pairwise_cons (a := x)]
    constructor
    · rintro ⟨h1, h2⟩
      refine ⟨fun z hz => ?_, h2⟩
      rcases List.mem_cons.mp hz with h | h
      · rw [h]; exact h1
      · have := (List.pairwise_cons.mp h2).1 z h
        omega
    · rintro ⟨h1, h2⟩
      exact ⟨h1 y (by simp), h2⟩
theorem sorted_same {ks zs : List Int} (p : zs.Pairwise (· < ·)) (m : ∀ k, k ∈ zs ↔ k ∈ ks) : ks = zs ↔ ks.Pairwise (· < ·) := by
  constructor
  · intro e
    rw [e]
    exact p
  · intro q
    exact rising_ext q p fun z => (m z).symm
theorem in_ints (k : Int) (ks : List Int) : inV (.int k) (ks.map V.int) = ks.contains k := by
  unfold inV
  rw [Bool.eq_iff_iff, List.any_map, List.any_eq_true, List.contains_iff_mem]
  constructor
  · rintro ⟨x, hx, e⟩
    have e' : (x == k) = true := e
    rw [beq_iff_eq] at e'
    rw [← e']
    exact hx
  · intro h
    exact ⟨k, h, by show (k == k) = true; simp⟩
def spLIsMend : Sp := fun vs H Q _ => ∃ (wv v : V) (n : Nat) (ts : List Tie), vs = [wv, v] ∧ WebAt H wv n ts ∧ WebOk n ts ∧ RowK H v ∧ ∀ H', Same H H' → Q (.bl (mendB H n ts v)) H'
section
variable {P : Program} {w : World} {K : PySem.W.Frag} {mg : Str → Option Value} {base : Heap}
theorem ok_l_ties {f : Addr} {fd : FuncData} (F : Fun K "_law_ties" "_law_ties" s_l_ties f fd) (M : Free mg) (D_l_take : Df P w K mg base 1 "_law_take" ["_law_deck_here", "_law_many"] spDraw) : FnOk P w K mg base CX0 2 f fd ["_law_deck_here", "_law_many", "_law_most"] spLTies := by
  obtain ⟨f_l_take, fd_l_take, G_l_take, g_l_take, k_l_take, b_l_take⟩ := D_l_take
  refine F.ok sc_l_ties (fun vs H Q E h => ?_) (fun cdv A outer s H vs Q E hr h => ?_)
  · obtain ⟨d, c, n, m, rfl, _⟩ := h
    rfl
  · obtain ⟨d, c, n, m, rfl, hD, n1, n2, m0, m1, q⟩ := h
    refine ⟨_, (pss_cons (ps_set (i := 3) sc_l_ties.nd rfl (.inl rfl) (pe_lst pa_nil))
      (pss_cons (ps_while PassesOwn.never (PW.pt (pw_and (pt_cmpR op_gt (pv 1) pe_int (nomark _)) (pw_and1 (pt_cmpR op_lt (pe_callB call_len_seq (by rfl) M.len PySem.boot_len (pa_cons (pv 3) pa_nil)) (pv 2) (nomark _)))))
        (pss_cons (ps_set (i := 4) sc_l_ties.nd rfl (.inl rfl) (pe_call G_l_take (hr.mono (by decide)) (by rfl) g_l_take k_l_take b_l_take .nil pass0 (pa_cons (pv 0) (pa_cons (pv 1) pa_nil))))
        (Evl.pss_cut (ps_set (i := 5) sc_l_ties.nd rfl (.inl rfl) (pe_op op_mod (pe_op op_add (pe_op op_add (pv 4) pe_int) (pe_call G_l_take (hr.mono (by decide)) (by rfl) g_l_take k_l_take b_l_take .nil pass0 (pa_cons (pv 0) (pa_cons (pe_op op_sub (pv 1) pe_int) pa_nil)))) (pv 1)))
        (Evl.pss_cut (ps_expr (pe_bm PySem.F.plainAttrs_list PySem.F.slot_list_append PySem.F.type_list_append mt_append (pv 3) (pa_cons (pe_tup (pa_cons (pv 4) (pa_cons (pv 5) (pa_cons (pe_ix ix_list (pe_lst (pa_cons pe_str (pa_cons pe_str pa_nil))) (pe_call G_l_take (hr.mono (by decide)) (by rfl) g_l_take k_l_take b_l_take .nil pass0 (pa_cons (pv 0) (pa_cons pe_int pa_nil))) (fun _ _ => rfl)) pa_nil)))) pa_nil)))
        (pss_one (ps_if (PW.pt (pw_and (pt_cmpR op_eq (pe_call G_l_take (hr.mono (by decide)) (by rfl) g_l_take k_l_take b_l_take .nil pass0 (pa_cons (pv 0) (pa_cons pe_int pa_nil))) pe_int (nomark _)) (pw_and1 (pt_cmpR op_lt (pe_callB call_len_seq (by rfl) M.len PySem.boot_len (pa_cons (pv 3) pa_nil)) (pv 2) (nomark _)))))
          (pss_one (ps_expr (pe_bm PySem.F.plainAttrs_list PySem.F.slot_list_append PySem.F.type_list_append mt_append (pv 3) (pa_cons (pe_tup (pa_cons (pv 5) (pa_cons (pv 4) (pa_cons (pe_ix ix_list (pe_lst (pa_cons pe_str (pa_cons pe_str pa_nil))) (pe_call G_l_take (hr.mono (by decide)) (by rfl) g_l_take k_l_take b_l_take .nil pass0 (pa_cons (pv 0) (pa_cons pe_int pa_nil))) (fun _ _ => rfl)) pa_nil)))) pa_nil))))
          pss_nil))))))
      (pss_one (ps_ret (pe_callTy call_tuple_of (by rfl) M.tuple (by decide +kernel) (pa_cons (pv 3) pa_nil)))))), ?_⟩
    refine ⟨Nat.zero_le _, fun L nL => ?_⟩
    have hLd := hD.ned nL
    let W : Int → List V → List Tie → Hp → Prop := fun k us ts H' => H' L = some (.lst us) ∧ Paired (TieV H') us ts ∧ (∀ t ∈ ts, TieOk n t) ∧ (ts.length : Int) ≤ m ∧ k = m - ts.length ∧ Deck H' d c ∧ Kp d c H H'
    have exit : ∀ k us ts H', W k us ts H' → ∀ b, H' b = none → Q (.ref b) (upd H' b (.tup us)) := fun k us ts H' ⟨hL, hp, ok, hl, _, D, K⟩ b nb => q b us ts _ upd_same (ties_tk (Same.tk (same_new nb)) hp) ⟨n1, n2, by omega, ok⟩ (D.new nb) (K.trans (Kp.new nb))
    -- one tie more
    have more : ∀ (us : List V) (ts : List Tie) (H' : Hp) (t : Tie) (p : Addr), W (m - ts.length) us ts H' → (ts.length : Int) < m → TieOk n t → H' p = none → us.length < sizeLine ∧ W (m - ts.length - 1) (us ++ [.ref p]) (ts ++ [t]) (upd (upd H' p (.tup [.int t.one, .int t.other, .str (kindS t.foe)])) L (.lst (us ++ [.ref p]))) := fun us ts H' t p ⟨hL, hp, ok, hl, _, D, K⟩ lt okt np => by
      have lu : us.length = ts.length := Paired.length hp
      have hL2 := same_new (o := .tup [.int t.one, .int t.other, .str (kindS t.foe)]) np _ _ hL
      refine ⟨small1000 (by omega), upd_same, ?_, fun z hz => ?_, ?_, ?_, (D.new np).mut hLd.1 hLd.2, (K.trans (Kp.new np)).mut nL⟩
      · exact Paired.snoc (ties_tk (tk_lst hL2) (ties_tk (Same.tk (same_new np)) hp)) ⟨p, rfl, tk_lst hL2 _ _ upd_same⟩
      · rcases List.mem_append.mp hz with h | h
        · exact ok z h
        · rw [List.mem_singleton.mp h]
          exact okt
      · rw [List.length_append]
        show ((ts.length + 1 : Nat) : Int) ≤ m
        omega
      · rw [List.length_append]
        show m - (ts.length : Int) - 1 = m - ((ts.length + 1 : Nat) : Int)
        omega
    have pick : ∀ v5 : Int, 0 ≤ v5 → v5 < 2 → atI [V.str "friend", V.str "foe"] v5 = some (.str (kindS (decide (v5 = 1)))) := fun v5 h0 h1 => by
      have h01 : v5 = 0 ∨ v5 = 1 := by omega
      rcases h01 with e | e <;> subst e <;> rfl
    refine ⟨fun k σ' H' => ∃ (y4 y5 : Option V) (us : List V) (ts : List Tie), σ' = [some (.ref d), some (.int n), some (.int m), some (.ref L), y4, y5] ∧ W k us ts H', ⟨m.toNat, none, none, [], [], rfl, upd_same, .nil, fun t ht => by simp at ht, by simpa using m0, by simp; omega, hD.new nL, Kp.new nL⟩, ?_⟩
    rintro k σ' H1 ⟨y4, y5, us, ts, rfl, w1⟩
    obtain ⟨hL, hp, ok, hl, hk, D1, K1⟩ := id w1
    refine ⟨.int n, rfl, n, 1, rfl, rfl, _, rfl, ?_⟩
    refine ite2 (fun hn => ?_) (fun hn => ⟨.ref L, rfl, L, us, rfl, .inl ⟨SqL.of hL, fun b nb => exit _ us ts H1 w1 b nb⟩⟩)
    have hn : 1 < n := of_decide_eq_true hn
    refine ⟨.ref L, rfl, L, us, rfl, .inl (SqL.of hL), .int m, rfl, _, _, rfl, rfl, _, rfl, ?_⟩
    refine ite2 (fun hm => ?_) (fun hm => ⟨.ref L, rfl, L, us, rfl, .inl ⟨SqL.of hL, fun b nb => exit _ us ts H1 w1 b nb⟩⟩)
    have hm : (us.length : Int) < m := of_decide_eq_true hm
    have lu : us.length = ts.length := Paired.length hp
    refine ⟨fun σ' H' => ∃ k', k' < k ∧ ∃ (y4 y5 : Option V) (us : List V) (ts : List Tie), σ' = [some (.ref d), some (.int n), some (.int m), some (.ref L), y4, y5] ∧ W (k' : Nat) us ts H', fun _ _ h => h, ?_⟩
    refine ⟨.ref d, rfl, .int n, rfl, d, c, n, rfl, D1, by omega, by omega, fun v1 H2 a1 b1 D2 K2 => ?_⟩
    refine ⟨fun σ' H' => ∃ o2 : Int, σ' = [some (.ref d), some (.int n), some (.int m), some (.ref L), some (.int v1), some (.int o2)] ∧ TieOk n ⟨v1, o2, false⟩ ∧ W (m - ts.length) us ts H', ?_, ?_⟩
    · refine ⟨.int v1, rfl, v1, 1, rfl, rfl, .ref d, rfl, .int n, rfl, n, 1, rfl, rfl, d, c, n - 1, rfl, D2, by omega, by omega, fun v2 H3 a2 b2 D3 K3 => ⟨v1 + 1, v2, rfl, rfl, .int n, rfl, _, n, rfl, rfl, show (0 : Int) < n by omega, _, rfl, ⟨a1, b1, (mod_rng (by omega)).1, (mod_rng (by omega)).2, other_ne a1 b1 a2 b2⟩, ?_⟩⟩
      have K13 := K2.trans K3
      exact ⟨K13 _ _ hLd.1 hLd.2 hL, ties_tk ((K2.tk D1).trans (K3.tk D2)) hp, ok, hl, rfl, D3, K1.trans K13⟩
    rintro σ' H3 ⟨o2, rfl, okt, w3⟩
    refine ⟨fun σ' H' => ∃ (us : List V) (ts' : List Tie), σ' = [some (.ref d), some (.int n), some (.int m), some (.ref L), some (.int v1), some (.int o2)] ∧ ts'.length = ts.length + 1 ∧ W (m - ts'.length) us ts' H', ?_, ?_⟩
    · obtain ⟨hL3, hp3, ok3, hl3, _, D3, K3⟩ := id w3
      refine ⟨.ref L, rfl, .inl ⟨rfl, _, SqL.of hL3⟩, .int v1, rfl, .int o2, rfl, by show 2 ≤ sizeLine; decide, fun p np => ⟨.ref d, rfl, d, c, 2, rfl, D3.new np, by decide, by decide, fun v5 H5 a5 b5 D5 K5 => ?_⟩⟩
      refine ⟨p, _, v5, _, rfl, rfl, SqL.of (K5 p _ (D3.ned np).1 (D3.ned np).2 upd_same), pick v5 a5 b5, by show 3 ≤ sizeLine; decide, fun q2 nq => ?_⟩
      have K35 := (Kp.new (d := d) (c := c) np).trans K5
      have w5 : W (m - ts.length) us ts H5 := ⟨K35 _ _ hLd.1 hLd.2 hL3, ties_tk (K35.tk D3) hp3, ok3, hl3, rfl, D5, K3.trans K35⟩
      obtain ⟨z1, z2⟩ := more us ts H5 ⟨v1, o2, decide (v5 = 1)⟩ q2 w5 (by omega) okt nq
      refine ⟨L, us, _, rfl, rfl, same_new nq _ _ w5.1, z1, us ++ [.ref q2], ts ++ [⟨v1, o2, decide (v5 = 1)⟩], rfl, by simp, ?_⟩
      have e : m - (ts.length : Int) - 1 = m - ((ts ++ [(⟨v1, o2, decide (v5 = 1)⟩ : Tie)]).length : Nat) := by rw [List.length_append]; show _ = m - ((ts.length + 1 : Nat) : Int); omega
      rw [← e]
      exact z2
    rintro σ' H4 ⟨us4, ts4, rfl, l4, w4⟩
    obtain ⟨hL4, hp4, ok4, hl4, _, D4, K4⟩ := id w4
    refine ⟨.ref d, rfl, d, c, 4, rfl, D4, by decide, by decide, fun v6 H5 a6 b6 D5 K5 => ⟨rfl, _, rfl, ?_⟩⟩
    have w5 : W (m - ts4.length) us4 ts4 H5 := ⟨K5 _ _ hLd.1 hLd.2 hL4, ties_tk (K5.tk D4) hp4, ok4, hl4, rfl, D5, K4.trans K5⟩
    have out : ∃ k', k' < k ∧ W (k' : Nat) us4 ts4 H5 := ⟨(m - ts4.length).toNat, by omega, by rw [show (((m - ts4.length).toNat : Nat) : Int) = m - ts4.length from by omega]; exact w5⟩
    refine ite2 (fun _ => ?_) (fun _ => ?_)
    · refine ⟨.ref L, rfl, L, us4, rfl, .inl (SqL.of w5.1), .int m, rfl, _, _, rfl, rfl, _, rfl, ?_⟩
      refine ite2 (fun h7 => ?_) (fun _ => ?_)
      · have h7 : (us4.length : Int) < m := of_decide_eq_true h7
        have lu4 : us4.length = ts4.length := Paired.length hp4
        refine ⟨.ref L, rfl, .inl ⟨rfl, _, SqL.of w5.1⟩, .int o2, rfl, .int v1, rfl, by show 2 ≤ sizeLine; decide, fun p np => ⟨.ref d, rfl, d, c, 2, rfl, D5.new np, by decide, by decide, fun v7 H7 a7 b7 D7 K7 => ?_⟩⟩
        refine ⟨p, _, v7, _, rfl, rfl, SqL.of (K7 p _ (D5.ned np).1 (D5.ned np).2 upd_same), pick v7 a7 b7, by show 3 ≤ sizeLine; decide, fun q2 nq => ?_⟩
        have K57 := (Kp.new (d := d) (c := c) np).trans K7
        have w7 : W (m - ts4.length) us4 ts4 H7 := ⟨K57 _ _ hLd.1 hLd.2 w5.1, ties_tk (K57.tk D5) w5.2.1, ok4, hl4, rfl, D7, w5.2.2.2.2.2.2.trans K57⟩
        obtain ⟨z1, z2⟩ := more us4 ts4 H7 ⟨o2, v1, decide (v7 = 1)⟩ q2 w7 (by omega) ⟨okt.2.2.1, okt.2.2.2.1, okt.1, okt.2.1, Ne.symm okt.2.2.2.2⟩ nq
        refine ⟨L, us4, _, rfl, rfl, same_new nq _ _ w7.1, z1, (m - ts4.length - 1).toNat, by omega, _, _, us4 ++ [.ref q2], ts4 ++ [⟨o2, v1, decide (v7 = 1)⟩], rfl, ?_⟩
        rw [show (((m - ts4.length - 1).toNat : Nat) : Int) = m - ts4.length - 1 from by omega]
        exact z2
      · obtain ⟨k', h1, h2⟩ := out
        exact ⟨k', h1, _, _, us4, ts4, rfl, h2⟩
    · obtain ⟨k', h1, h2⟩ := out
      exact ⟨k', h1, _, _, us4, ts4, rfl, h2⟩
theorem ok_l_broken {f : Addr} {fd : FuncData} (F : Fun K "_law_broken" "_law_broken" s_l_broken f fd) (M : Free mg) (m_enumerate : mg "enumerate" = none) : FnOk P w K mg base CX0 1 f fd ["_law_ties_here", "_law_side"] spLBroken := by
  refine F.ok sc_l_broken (fun vs H Q E h => ?_) (fun cdv A outer s H vs Q E hr h => ?_)
  · obtain ⟨a, b, us, ts, n, ss, rfl, _⟩ := h
    rfl
  · obtain ⟨a, b, us, ts, n, ss, rfl, ha, hp, ok, hb, hl, q⟩ := h
    refine ⟨_, (pss_cons (ps_set (i := 2) sc_l_broken.nd rfl (.inl rfl) (pe_lst pa_nil))
      (pss_cons (ps_for PassesOwn.never rfl (pi_enumT (by rfl) m_enumerate (pa_cons (pv 0) pa_nil)) (pg_tup rfl (pgs_cons (pg_name (i := 3) sc_l_broken.nd rfl (.inl rfl)) (pgs_cons (pg_tup rfl (pgs_cons (pg_name (i := 4) sc_l_broken.nd rfl (.inl rfl)) (pgs_cons (pg_name (i := 5) sc_l_broken.nd rfl (.inl rfl)) (pgs_cons (pg_name (i := 6) sc_l_broken.nd rfl (.inl rfl)) pgs_nil)))) pgs_nil)))
        (pss_one (ps_if (pt_cmpR op_eq (pe_cmpR op_eq (pe_ix ix_list (pv 1) (pv 4) (fun _ _ => rfl)) (pe_ix ix_list (pv 1) (pv 5) (fun _ _ => rfl)) (nomark _)) (pe_cmpR op_eq (pv 6) pe_str (nomark _)) (nomark _))
          (pss_one (ps_expr (pe_bm PySem.F.plainAttrs_list PySem.F.slot_list_append PySem.F.type_list_append mt_append (pv 2) (pa_cons (pv 3) pa_nil))))
          pss_nil)))
      (pss_one (ps_ret (pe_callTy call_tuple_of (by rfl) M.tuple (by decide +kernel) (pa_cons (pv 2) pa_nil)))))), ?_⟩
    have hlen : us.length = ts.length := Paired.length hp
    have few := ok.few
    refine ⟨Nat.zero_le _, fun Z nZ => ?_⟩
    refine ⟨.ref a, rfl, a, us, rfl, SqT.of (same_new nZ _ _ ha), ?_⟩
    refine for_it (walk_enumT (xs := us)) (fun i σ' H' => ∃ (y3 y4 y5 y6 : Option V) (ks : List Int), σ' = [some (.ref a), some (.ref b), some (.ref Z), y3, y4, y5, y6] ∧ H' Z = some (.lst (ks.map V.int)) ∧ ks.length ≤ i ∧ Same H H') ⟨none, none, none, none, [], rfl, upd_same, Nat.le_refl _, same_new nZ⟩ (fun i σ' H' _ h => by
      obtain ⟨_, _, _, _, _, _, _, _, s3⟩ := h
      exact SqT.of (s3 _ _ ha)) ?_ ?_
    · rintro i x σ' H2 H3 hi ⟨y3, y4, y5, y6, ks, rfl, hZ, lk, s2⟩ ⟨T, x1, y1, rfl, nT, rfl, gx, gy⟩
      obtain rfl : V.int (i : Nat) = x1 := Option.some.inj gx
      obtain ⟨t, et, c, rfl, hc⟩ := Paired.at hp gy
      have o := ok.ok t (List.mem_of_getElem? et)
      have sT := same_new (o := .tup [.int (i : Nat), .ref c]) nT
      have s3 := s2.trans sT
      have hZ3 := sT _ _ hZ
      refine ⟨T, _, rfl, SqT.of upd_same, rfl, _, _, rfl, _, _, rfl, c, _, rfl, SqT.of (s3 _ _ hc), rfl, _, _, rfl, _, _, rfl, _, _, rfl, rfl, rfl, ?_⟩
      refine ⟨.ref b, rfl, .int t.one, rfl, b, _, t.one, _, rfl, rfl, SqL.of (s3 _ _ hb), atI_sd o.1 (by rw [hl]; exact o.2.1), .ref b, rfl, .int t.other, rfl, b, _, t.other, _, rfl, rfl, SqL.of (s3 _ _ hb), atI_sd o.2.2.1 (by rw [hl]; exact o.2.2.2.1), rfl, .str (kindS t.foe), rfl, rfl, rfl, _, rfl, ?_⟩
      refine ite2 (fun _ => ?_) (fun _ => ⟨_, _, _, _, ks, rfl, hZ3, by omega, s3⟩)
      refine ⟨.ref Z, rfl, .inl ⟨rfl, _, SqL.of hZ3⟩, .int (i : Nat), rfl, Z, _, _, rfl, rfl, hZ3, by rw [List.length_map]; exact small1000 (by omega), ?_⟩
      exact ⟨_, _, _, _, ks ++ [(i : Int)], rfl, by rw [upd_same, List.map_append]; rfl, by rw [List.length_append]; show ks.length + 1 ≤ i + 1; omega, Same.mut s3 nZ⟩
    · rintro σ' H2 ⟨y3, y4, y5, y6, ks, rfl, hZ, lk, s2⟩
      exact ⟨.ref Z, rfl, Z, _, rfl, .inl ⟨SqL.of hZ, fun r nr => q r ks _ (s2.trans (same_new nr)) upd_same (by omega)⟩⟩
end
section
variable {P : Program} {w : World} {K : PySem.W.Frag} {mg : Str → Option Value} {base : Heap}
theorem ok_l_is_mend {f : Addr} {fd : FuncData} (F : Fun K "_law_is_mend" "_law_is_mend" s_l_is_mend f fd) (M : Free mg) (m_enumerate : mg "enumerate" = none) (m_set : mg "set" = none) (m_sorted : mg "sorted" = none) (D_l_sides : Df P w K mg base 1 "_law_sides" ["_law_many", "_law_ties_here"] spLSides) : FnOk P w K mg base CX0 2 f fd ["_law_web", "_law_thing"] spLIsMend := by
  obtain ⟨f_l_sides, fd_l_sides, G_l_sides, g_l_sides, k_l_sides, b_l_sides⟩ := D_l_sides
  refine F.ok sc_l_is_mend (fun vs H Q E h => ?_) (fun cdv A outer s H vs Q E hr h => ?_)
  · obtain ⟨wv, v, n, ts, rfl, _⟩ := h
    rfl
  · obtain ⟨wv, v, n, ts, rfl, ⟨wa, wb, us, rfl, hwa, hwb, hp⟩, ok, ⟨kv, kp⟩, q⟩ := h
    refine ⟨_, (pss_cons (ps_if (pt_not (pt_val (pe_callB call_isi (by rfl) M.isinstance (by decide +kernel) (pa_cons (pv 1) (pa_cons (pe_bltn (v := .ty "tuple") (by rfl) M.tuple (by decide +kernel) rfl) pa_nil)))))
        (pss_one (ps_ret pe_bl))
        pss_nil)
      (pss_cons (ps_for PassesOwn.never rfl (pi_tup (pv 1)) (pg_name (i := 2) sc_l_is_mend.nd rfl (.inl rfl))
        (pss_cons (ps_if (PW.pt (pw_or (pt_not (pt_val (pe_callB call_isi (by rfl) M.isinstance (by decide +kernel) (pa_cons (pv 2) (pa_cons (pe_bltn (v := .ty "int") (by rfl) M.int (by decide +kernel) rfl) pa_nil))))) (pw_or1 (pt_val (pe_callB call_isi (by rfl) M.isinstance (by decide +kernel) (pa_cons (pv 2) (pa_cons (pe_bltn (v := .ty "bool") (by rfl) M.bool (by decide +kernel) rfl) pa_nil)))))))
          (pss_one (ps_ret pe_bl))
          pss_nil)
        (pss_one (ps_if (pt_not (pt_chain op_le op_lt pe_int (pv 2) (pe_callB call_len_seq (by rfl) M.len PySem.boot_len (pa_cons (pe_ix ix_tup (pv 0) pe_int (fun _ _ => rfl)) pa_nil))))
          (pss_one (ps_ret pe_bl))
          pss_nil))))
      (pss_cons (ps_if (pt_cmpR (op_neD hr.units) (pe_callTy call_list_of (by rfl) M.list (by decide +kernel) (pa_cons (pv 1) pa_nil)) (pe_sortSetT (by rfl) m_sorted (by rfl) m_set (pv 1)) (nomark _))
        (pss_one (ps_ret pe_bl))
        pss_nil)
      (pss_one (ps_ret (pe_cmpR op_notN (pe_call G_l_sides (hr.mono (by decide)) (by rfl) g_l_sides k_l_sides b_l_sides .nil pass0 (pa_cons (pe_ix ix_tup (pv 0) pe_int (fun _ _ => rfl)) (pa_cons (pe_lc (own := [("_law_k", 3), ("_law_tie", 4)]) (g := (gTup K 2 (gCons (gName 3) (gCons (gName 4) gNil)))) (te := tVar 4) rfl sc_l_is_mend.nd (pi_enumT (by rfl) m_enumerate (pa_cons (pe_ix ix_tup (pv 0) pe_int (fun _ _ => rfl)) pa_nil)) (blkOk_by (N := N_l_is_mend) (sc := defScope s_l_is_mend) (own := [("_law_k", 3), ("_law_tie", 4)]) (by decide +kernel)) (fun _ _ _ _ _ => (pg_tup rfl (pgs_cons (pg_name (i := 3) sc_l_is_mend.nd rfl (.inl rfl)) (pgs_cons (pg_name (i := 4) sc_l_is_mend.nd rfl (.inl rfl)) pgs_nil)))) (fun _ _ _ _ _ => (pts_one (pt_cmpR (r := rIn K true) op_notIn_seq (pv 3) (pv 1) rfl))) (fun _ _ _ _ _ => (pv 4))) pa_nil))) pe_non (nomark _))))))), ?_⟩
    have hlen : us.length = ts.length := Paired.length hp
    have few := ok.few
    obtain ⟨t1, h1, e1⟩ := kn_tup (K := K) kv
    refine ⟨v, rfl, v, _, t1, _, _, rfl, .ty "tuple", h1, e1, _, rfl, ?_⟩
    cases hi : isT H v with
    | false =>
      unfold mendB riseB at q
      rw [parts_none hi] at q
      exact q _ (Same.refl H)
    | true =>
      obtain ⟨a, xs, rfl, ha⟩ := isT_at hi
      obtain ⟨kx, lx⟩ := kp xs (parts_of' ha)
      have eR : riseB H ts.length (.ref a) = (xs.all (wbelow ts.length) && chainB xs) := by
        unfold riseB
        rw [parts_of' ha]
      refine ⟨.ref a, rfl, a, rfl, ⟨_, SqT.of ha⟩, ?_⟩
      refine for_tup (xs := xs) (fun j σ' H' => ∃ y2 : Option V, σ' = [some (.ref wa), some (.ref a), y2, none, none] ∧ H' = H ∧ (xs.take j).all (wbelow ts.length) = true) ⟨none, rfl, rfl, rfl⟩ (fun j σ' H' _ h => by
        obtain ⟨_, _, e, _⟩ := h
        rw [e]
        exact SqT.of ha) ?_ ?_
      · rintro j x σ' H1 ex ⟨y2, rfl, e, hal⟩
        subst e
        have kxx := kx x (List.mem_of_getElem? ex)
        have bad : wbelow ts.length x = false → Q (.bl false) H1 := fun hb => by
          have no : mendB H1 n ts (.ref a) = false := by
            unfold mendB
            rw [eR, all_not ex hb]
            rfl
          rw [no] at q
          exact q _ (Same.refl _)
        obtain ⟨t2, h2, e2⟩ := kn_int (K := K) kxx
        obtain ⟨t3, h3, e3⟩ := kn_bool (K := K) kxx
        refine ⟨x, rfl, x, _, t2, _, _, rfl, .ty "int", h2, e2, _, rfl, ?_⟩
        cases x with
        | int k =>
          refine ⟨.int k, rfl, .int k, _, t3, _, _, rfl, .ty "bool", h3, e3, _, rfl, ?_⟩
          refine ⟨.int k, rfl, 0, k, rfl, rfl, _, rfl, ?_⟩
          by_cases h0 : (0 : Int) ≤ k
          · rw [decide_eq_true h0]
            refine ⟨.ref wa, rfl, wa, _, 1, .ref wb, rfl, rfl, SqT.of hwa, rfl, wb, us, rfl, .inr (SqT.of hwb), k, _, rfl, rfl, _, rfl, ?_⟩
            rw [hlen]
            by_cases h4 : k < (ts.length : Int)
            · rw [decide_eq_true h4]
              refine ⟨_, rfl, rfl, ?_⟩
              rw [take_all ex hal]
              show (decide (0 ≤ k) && decide (k < (ts.length : Int))) = true
              rw [decide_eq_true h0, decide_eq_true h4]
              rfl
            · rw [decide_eq_false h4]
              refine bad ?_
              show (decide (0 ≤ k) && decide (k < (ts.length : Int))) = false
              rw [decide_eq_false h4, Bool.and_false]
          · rw [decide_eq_false h0]
            refine ite2 (fun z => by cases z) (fun _ => ⟨_, rfl, bad ?_⟩)
            show (decide (0 ≤ k) && decide (k < (ts.length : Int))) = false
            rw [decide_eq_false h0]
            rfl
        | bl b => exact ⟨.bl b, rfl, .bl b, _, t3, _, _, rfl, .ty "bool", h3, e3, _, rfl, bad rfl⟩
        | non => exact bad rfl
        | str z => exact bad rfl
        | ref z => exact bad rfl
        | byt z => exact kxx.elim
        | flt z => exact kxx.elim
        | ty z => exact kxx.elim
      · rintro σ' H1 ⟨y2, rfl, e, hal⟩
        subst e
        rw [List.take_length] at hal
        rw [hal, Bool.true_and] at eR
        obtain ⟨ei, hk⟩ := ints_below hal
        have eM : mendB H1 n ts (.ref a) = (chainB xs && noOdd (keepTo ts (xs.map toI) ts.length) n) := by
          unfold mendB
          rw [eR, parts_of' ha]
        generalize hks : xs.map toI = ks at ei hk eM
        rw [eM] at q
        clear eM eR
        subst ei
        rw [List.length_map] at lx
        refine ⟨.ref a, rfl, a, _, rfl, .inr (SqT.of ha), fun l nl => ?_⟩
        have s2 := same_new (o := .lst (ks.map V.int)) nl
        refine ⟨.ref a, rfl, a, ks, rfl, SqT.of (s2 _ _ ha), by omega, fun zs p pw mem np => ?_⟩
        have s3 := s2.trans (same_new (o := .lst (zs.map V.int)) np)
        refine ⟨listD ks, listD zs, .lst (SqL.of (same_new np _ _ upd_same)) (dp_ints _), .lst (SqL.of upd_same) (dp_ints _), shaped_listD _, shaped_listD _, _, rfl, ?_⟩
        rw [eqv_listD]
        by_cases e : ks = zs
        · rw [decide_eq_true e]
          have hch : chainB (ks.map V.int) = true := (chain_ints ks).mpr ((sorted_same pw mem).mp e)
          rw [hch, Bool.true_and] at q
          generalize upd (upd H1 l (.lst (ks.map V.int))) p (.lst (zs.map V.int)) = H3 at s3
          refine ⟨.ref wa, rfl, wa, _, 0, .int n, rfl, rfl, SqT.of (s3 _ _ hwa), rfl, .ref wa, rfl, wa, _, 1, .ref wb, rfl, rfl, SqT.of (s3 _ _ hwa), rfl, wb, us, rfl, SqT.of (s3 _ _ hwb), fun Z nZ => ?_⟩
          refine lc_it (walk_enumT (xs := us)) (fun i H' => ∃ vs : List V, H' Z = some (.lst vs) ∧ Paired (TieV H') vs (keepTo ts ks i) ∧ Same H3 H') ⟨[], upd_same, .nil, same_new nZ⟩ (fun i H' _ h => by
            obtain ⟨vs, _, _, s4⟩ := h
            exact SqT.of (s4 _ _ (s3 _ _ hwb))) ?_ ?_
          · rintro i x H4 H5 hi ⟨vs, hZ, hv, s4⟩ ⟨T, x1, y, rfl, nT, rfl, g1, g2⟩
            obtain rfl : V.int (i : Nat) = x1 := Option.some.inj g1
            obtain ⟨t, et, ht⟩ := Paired.at hp g2
            have s5 := s4.trans (same_new (o := .tup [.int (i : Nat), y]) nT)
            have hZ2 := same_new (o := .tup [.int (i : Nat), y]) nT _ _ hZ
            have hv2 := ties_tk (Same.tk (same_new (o := .tup [.int (i : Nat), y]) nT)) hv
            have lv : vs.length ≤ i := by
              rw [Paired.length hv]
              exact keepTo_len ts ks i
            refine ⟨T, _, rfl, SqT.of upd_same, rfl, _, _, rfl, _, _, rfl, rfl, rfl, .int (i : Nat), rfl, .ref a, rfl, a, _, rfl, .inr (SqT.of (s5 _ _ (s3 _ _ ha))), rfl, flat_ints ks, _, rfl, ?_⟩
            rw [in_ints, keepTo_succ, tieAt_of et]
            cases hc : ks.contains (i : Int) with
            | false =>
              refine ⟨y, rfl, vs, hZ2, small1000 (by omega), vs ++ [y], upd_same, ?_, Same.mut s5 nZ⟩
              exact Paired.snoc (ties_tk (tk_lst hZ2) hv2) ((ht.tk (Same.tk (s3.trans s5))).tk (tk_lst hZ2))
            | true =>
              refine ⟨vs, hZ2, ?_, s5⟩
              simp only [if_true, List.append_nil]
              exact hv2
          · rintro H4 ⟨vs, hZ, hv, s4⟩
            rw [hlen] at hv
            refine ⟨n, Z, vs, keepTo ts ks ts.length, rfl, hZ, hv, keepTo_ok ok ks, fun r H5 s5 hodd => ⟨rfl, ?_⟩⟩
            have S := (s3.trans s4).trans s5
            by_cases er : r = .non
            · rw [decide_eq_true er]
              rw [noOdd_false (hodd.mp er)] at q
              exact q _ S
            · rw [decide_eq_false er]
              rw [noOdd_true (fun z => er (hodd.mpr z))] at q
              exact q _ S
        · rw [decide_eq_false e]
          have hch : chainB (ks.map V.int) = false := by
            rw [Bool.eq_false_iff]
            intro z
            exact e ((sorted_same pw mem).mpr ((chain_ints ks).mp z))
          rw [hch] at q
          exact q _ s3
end
theorem RowK.same {H H' : Hp} {v : V} (h : RowK H v) (s : Same H H') : RowK H' v := by
  have kn : ∀ {v : V}, Kn H v → Kn H' v := fun {v} h => by
    cases v with
    | ref a =>
      rcases h with ⟨xs, h⟩ | ⟨xs, h⟩ | ⟨xs, h⟩
      · exact .inl ⟨xs, s _ _ h⟩
      · exact .inr (.inl ⟨xs, s _ _ h⟩)
      · exact .inr (.inr ⟨xs, s _ _ h⟩)
    | _ => exact h
  refine ⟨kn h.1, fun xs e => ?_⟩
  have e2 : parts H' v = parts H v := by
    cases v with
    | ref a =>
      unfold parts
      rcases h.1 with ⟨xs, h⟩ | ⟨xs, h⟩ | ⟨xs, h⟩
      · simp only [h, s _ _ h]
      · simp only [h, s _ _ h]
      · simp only [h, s _ _ h]
    | _ => rfl
  rw [e2] at e
  exact ⟨fun x hx => kn ((h.2 xs e).1 x hx), (h.2 xs e).2⟩
theorem mend_kt {Ps : List Addr} {H H' : Hp} {v : V} (h : RowK H v) (k : Kt Ps H H') (t : Tabs Ps H) (n : Nat) (ts : List Tie) : mendB H' n ts v = mendB H n ts v := by
  unfold mendB
  rw [rise_kt h k t, kt_kn_parts k t h.1]
def spRight (Ps : List Addr) : Sp := fun vs H Q _ => ∃ (wv v : V) (n : Nat) (ts : List Tie), vs = [wv, v] ∧ WebAt H wv n ts ∧ WebOk n ts ∧ RowK H v ∧ Tabs Ps H ∧ ∀ H', Kt Ps H H' → Q (.bl true) H'
section
variable {P : Program} {w : World} {K : PySem.W.Frag} {mg : Str → Option Value} {base : Heap}
theorem ok_l_right {f : Addr} {fd : FuncData} {Ps : List Addr} (F : Fun K "_law_right" "_law_right" s_l_right f fd) (M : Free mg) (D_l_is_mend : Df P w K mg base 2 "_law_is_mend" ["_law_web", "_law_thing"] spLIsMend) (D_mend_holds : Df P w K mg base 5 "mend_holds" ["web", "thing"] (spMendHolds Ps)) : FnOk P w K mg base CX0 6 f fd ["_law_web", "_law_thing"] (spRight Ps) := by
  obtain ⟨f_l_is_mend, fd_l_is_mend, G_l_is_mend, g_l_is_mend, k_l_is_mend, b_l_is_mend⟩ := D_l_is_mend
  obtain ⟨f_mend_holds, fd_mend_holds, G_mend_holds, g_mend_holds, k_mend_holds, b_mend_holds⟩ := D_mend_holds
  refine F.ok sc_l_right (fun vs H Q E h => ?_) (fun cdv A outer s H vs Q E hr h => ?_)
  · obtain ⟨wv, v, n, ts, rfl, _⟩ := h
    rfl
  · obtain ⟨wv, v, n, ts, rfl, hW, ok, hv, hT, q⟩ := h
    refine ⟨_, (pss_cons (ps_set (i := 2) sc_l_right.nd rfl (.inl rfl) (pe_call G_l_is_mend (hr.mono (by decide)) (by rfl) g_l_is_mend k_l_is_mend b_l_is_mend .nil pass0 (pa_cons (pv 0) (pa_cons (pv 1) pa_nil))))
      (pss_cons (ps_for PassesOwn.never rfl (pi_range1 (by rfl) M.range (pa_cons pe_int pa_nil)) (pg_name (i := 3) sc_l_right.nd rfl (.inl rfl))
        (pss_cons (ps_set (i := 4) sc_l_right.nd rfl (.inl rfl) (pe_call G_mend_holds (hr.mono (by decide)) (by rfl) g_mend_holds k_mend_holds b_mend_holds .nil pass0 (pa_cons (pv 0) (pa_cons (pv 1) pa_nil))))
        (pss_one (ps_if (PW.pt (pw_or (pt_not (pt_val (pe_callB call_isi (by rfl) M.isinstance (by decide +kernel) (pa_cons (pv 4) (pa_cons (pe_bltn (v := .ty "bool") (by rfl) M.bool (by decide +kernel) rfl) pa_nil))))) (pw_or1 (pt_cmpR op_ne (pv 4) (pv 2) (nomark _)))))
          (pss_one (ps_ret pe_bl))
          pss_nil))))
      (pss_one (ps_ret pe_bl)))), ?_⟩
    refine ⟨wv, rfl, v, rfl, wv, v, n, ts, rfl, hW, ok, hv, fun H1 s1 => ?_⟩
    have k1 := Kt.same hT s1
    generalize hb : mendB H n ts v = b
    refine ⟨2, rfl, by decide, by decide, ?_⟩
    refine for_range (lo := 0) (n := 2) (fun i σ' H' => ∃ y3 y4 : Option V, σ' = [some wv, some v, some (.bl b), y3, y4] ∧ Kt Ps H H') ⟨none, none, rfl, k1⟩ ?_ ?_
    · rintro i σ' H2 hi ⟨y3, y4, rfl, k2⟩
      have T2 : Tabs Ps H2 := k2.tab
      refine ⟨wv, rfl, v, rfl, wv, v, n, ts, rfl, hW.tk (k2.tk hT), ok, hv.kt k2 hT, T2, fun H3 k3 => ?_⟩
      rw [mend_kt hv k2 hT, hb]
      obtain ⟨t2, h2, e2⟩ := kn_bool (K := K) (H := H3) (v := .bl b) trivial
      refine ⟨.bl b, rfl, .bl b, _, t2, _, _, rfl, .ty "bool", h2, e2, _, rfl, ?_⟩
      refine ⟨.bl b, rfl, .bl b, rfl, rfl, _, rfl, ?_⟩
      rw [decide_eq_true rfl]
      exact ⟨_, _, rfl, k2.trans k3⟩
    · rintro σ' H2 ⟨y3, y4, rfl, k2⟩
      exact q _ k2
end
/-! ### k36: things bent -/
theorem row_tup {H : Hp} {r : Addr} {xs : List V} (h : H r = some (.tup xs)) (k : ∀ x ∈ xs, Kn H x) (l : xs.length ≤ 1000) : RowK H (.ref r) := ⟨.inr (.inl ⟨xs, h⟩), fun ys e => by
  rw [parts_of' h] at e
  cases e
  exact ⟨k, l⟩⟩
theorem row_no {H : Hp} {v : V} (h : Kn H v) (n : isT H v = false) : RowK H v := ⟨h, fun xs e => by rw [parts_none n] at e; cases e⟩
theorem row_lst {H : Hp} {r : Addr} {xs : List V} (h : H r = some (.lst xs)) : RowK H (.ref r) := row_no (.inl ⟨xs, h⟩) (by unfold isT; simp only [h])
theorem row_dct {H : Hp} {r : Addr} {xs : List (Key × V)} (h : H r = some (.dK xs)) : RowK H (.ref r) := row_no (.inr (.inr ⟨xs, h⟩)) (by unfold isT; simp only [h])
theorem st_row {d c r : Addr} {H : Hp} {xs : List V} (o : Own d c H r (.tup xs)) (k : ∀ x ∈ xs, Stay d c Kn H x) (l : xs.length ≤ 1000) : Stay d c RowK H (.ref r) := fun H' k' => row_tup (o.kp k').2.2 (fun x hx => k x hx H' k') l
def spLBent : Sp := fun vs H Q _ => ∃ (d c ra : Addr) (m : Int) (ks : List Int), vs = [.ref d, .int m, .ref ra] ∧ Deck H d c ∧ 0 ≤ m ∧ m ≤ 120 ∧ H ra = some (.tup (ks.map V.int)) ∧ ks.length ≤ 120 ∧ ∀ v H', Deck H' d c → Kp d c H H' → Stay d c RowK H' v → Q v H'
section
variable {P : Program} {w : World} {K : PySem.W.Frag} {mg : Str → Option Value} {base : Heap}
theorem ok_l_bent {f : Addr} {fd : FuncData} (F : Fun K "_law_bent" "_law_bent" s_l_bent f fd) (M : Free mg) (m_dict : mg "dict" = none) (D_l_take : Df P w K mg base 1 "_law_take" ["_law_deck_here", "_law_many"] spDraw) : FnOk P w K mg base CX0 2 f fd ["_law_deck_here", "_law_many", "_law_row"] spLBent := by
  obtain ⟨f_l_take, fd_l_take, G_l_take, g_l_take, k_l_take, b_l_take⟩ := D_l_take
  refine F.ok sc_l_bent (fun vs H Q E h => ?_) (fun cdv A outer s H vs Q E hr h => ?_)
  · obtain ⟨d, c, ra, m, ks, rfl, _⟩ := h
    rfl
  · obtain ⟨d, c, ra, m, ks, rfl, hD, m0, m1, hra, lk, q⟩ := h
    refine ⟨_, (Evl.pss_cut (ps_set (i := 3) sc_l_bent.nd rfl (.inl rfl) (pe_call G_l_take (hr.mono (by decide)) (by rfl) g_l_take k_l_take b_l_take .nil pass0 (pa_cons (pv 0) (pa_cons (pe_op op_add (pe_callB call_len_seq (by rfl) M.len PySem.boot_len (pa_cons (pv 2) pa_nil)) pe_int) pa_nil))))
      (pss_cons (ps_set (i := 4) sc_l_bent.nd rfl (.inl rfl) (pe_lst (pa_cons (pe_call G_l_take (hr.mono (by decide)) (by rfl) g_l_take k_l_take b_l_take .nil pass0 (pa_cons (pv 0) (pa_cons (pe_op op_add (pv 1) pe_int) pa_nil))) (pa_cons (pv 1) (pa_cons (pe_op op_sub (pe_un un_neg pe_int) (pe_call G_l_take (hr.mono (by decide)) (by rfl) g_l_take k_l_take b_l_take .nil pass0 (pa_cons (pv 0) (pa_cons pe_int pa_nil)))) (pa_cons pe_bl (pa_cons pe_bl (pa_cons pe_non (pa_cons pe_str (pa_cons pe_str (pa_cons (pe_tup (pa_cons pe_int pa_nil)) (pa_cons (pe_lst (pa_cons pe_int pa_nil)) pa_nil))))))))))))
      (Evl.pss_cut (ps_set (i := 4) sc_l_bent.nd rfl (.inl rfl) (pe_ix ix_list (pv 4) (pe_call G_l_take (hr.mono (by decide)) (by rfl) g_l_take k_l_take b_l_take .nil pass0 (pa_cons (pv 0) (pa_cons pe_int pa_nil))) (fun _ _ => rfl)))
      (Evl.pss_cut (ps_set (i := 5) sc_l_bent.nd rfl (.inl rfl) (pe_lst (pa_cons (pe_op op_catU (pe_slice sl_tupU (pv 2) po_none (po_some (pv 3))) (pe_slice sl_tupU (pv 2) (po_some (pe_op op_add (pv 3) pe_int)) po_none)) (pa_cons (pe_op op_catU (pe_op op_catU (pe_slice sl_tupU (pv 2) po_none (po_some (pv 3))) (pe_tup (pa_cons (pv 4) pa_nil))) (pe_slice sl_tupU (pv 2) (po_some (pv 3)) po_none)) pa_nil))))
      (Evl.pss_cut (ps_set (i := 5) sc_l_bent.nd rfl (.inl rfl) (pe_op op_cat (pv 5) (pe_lst (pa_cons (pe_op op_catU (pe_op op_catU (pe_slice sl_tupU (pv 2) po_none (po_some (pv 3))) (pe_tup (pa_cons (pv 4) pa_nil))) (pe_slice sl_tupU (pv 2) (po_some (pe_op op_add (pv 3) pe_int)) po_none)) (pa_cons (pe_op op_catU (pv 2) (pe_slice sl_tupU (pv 2) (po_some (pe_un un_neg pe_int)) po_none)) pa_nil)))))
      (Evl.pss_cut (ps_set (i := 6) sc_l_bent.nd rfl (.inl rfl) (pe_callTy call_tuple_of (by rfl) M.tuple (by decide +kernel) (pa_cons (pe_lc (own := [("_law_number", 7)]) (g := (gName 7)) (tt := tYes) rfl sc_l_bent.nd (pi_tup (pe_slice sl_tupU (pv 2) (po_some (pv 3)) (po_some (pe_op op_add (pv 3) pe_int)))) (blkOk_by (N := N_l_bent) (sc := defScope s_l_bent) (own := [("_law_number", 7)]) (by decide +kernel)) (fun _ _ _ _ _ => (pg_name (i := 7) sc_l_bent.nd rfl (.inl rfl))) (fun _ _ _ _ _ => pts_nil) (fun _ _ _ _ _ => (pe_op op_add (pv 7) pe_int))) pa_nil)))
      (Evl.pss_cut (ps_expr (pe_bm PySem.F.plainAttrs_list PySem.F.slot_list_append PySem.F.type_list_append mt_append (pv 5) (pa_cons (pe_op op_catU (pe_op op_catU (pe_slice sl_tupU (pv 2) po_none (po_some (pv 3))) (pv 6)) (pe_slice sl_tupU (pv 2) (po_some (pe_op op_add (pv 3) pe_int)) po_none)) pa_nil)))
      (Evl.pss_cut (ps_set (i := 5) sc_l_bent.nd rfl (.inl rfl) (pe_op op_cat (pv 5) (pe_lst (pa_cons (pe_revT (pv 2)) (pa_cons (pe_callTy call_list_of (by rfl) M.list (by decide +kernel) (pa_cons (pv 2) pa_nil)) pa_nil)))))
      (Evl.pss_cut (ps_set (i := 8) sc_l_bent.nd rfl (.inl rfl) (pe_callTy call_tuple_of (by rfl) M.tuple (by decide +kernel) (pa_cons (pe_lc (own := [("_law_number", 7)]) (g := (gName 7)) (tt := tYes) rfl sc_l_bent.nd (pi_tup (pe_slice sl_tupU (pv 2) (po_some (pv 3)) (po_some (pe_op op_add (pv 3) pe_int)))) (blkOk_by (N := N_l_bent) (sc := defScope s_l_bent) (own := [("_law_number", 7)]) (by decide +kernel)) (fun _ _ _ _ _ => (pg_name (i := 7) sc_l_bent.nd rfl (.inl rfl))) (fun _ _ _ _ _ => pts_nil) (fun _ _ _ _ _ => (pe_op op_sub (pv 7) pe_int))) pa_nil)))
      (Evl.pss_cut (ps_expr (pe_bm PySem.F.plainAttrs_list PySem.F.slot_list_append PySem.F.type_list_append mt_append (pv 5) (pa_cons (pe_op op_catU (pe_op op_catU (pe_slice sl_tupU (pv 2) po_none (po_some (pv 3))) (pv 8)) (pe_slice sl_tupU (pv 2) (po_some (pe_op op_add (pv 3) pe_int)) po_none)) pa_nil)))
      (Evl.pss_cut (ps_set (i := 5) sc_l_bent.nd rfl (.inl rfl) (pe_op op_cat (pv 5) (pe_lst (pa_cons (pe_tup (pa_cons (pv 2) pa_nil)) (pa_cons pe_non (pa_cons (pv 4) pa_nil))))))
      (Evl.pss_cut (ps_set (i := 9) sc_l_bent.nd rfl (.inl rfl) (pe_op op_catU (pe_slice sl_tupU (pv 2) (po_some (pe_op op_add (pv 3) pe_int)) (po_some (pe_op op_add (pv 3) pe_int))) (pe_slice sl_tupU (pv 2) (po_some (pv 3)) (po_some (pe_op op_add (pv 3) pe_int)))))
      (Evl.pss_cut (ps_expr (pe_bm PySem.F.plainAttrs_list PySem.F.slot_list_append PySem.F.type_list_append mt_append (pv 5) (pa_cons (pe_op op_catU (pe_op op_catU (pe_slice sl_tupU (pv 2) po_none (po_some (pv 3))) (pv 9)) (pe_slice sl_tupU (pv 2) (po_some (pe_op op_add (pv 3) pe_int)) po_none)) pa_nil)))
      (Evl.pss_cut (ps_expr (pe_bm PySem.F.plainAttrs_list PySem.F.slot_list_append PySem.F.type_list_append mt_append (pv 5) (pa_cons (pe_callTy (call_dictP rfl) (by rfl) m_dict (by decide +kernel) (pa_cons (pe_lst (pa_cons (pe_tup (pa_cons pe_int (pa_cons (pv 2) pa_nil))) pa_nil)) pa_nil)) pa_nil)))
      (Evl.pss_cut (ps_expr (pe_bm PySem.F.plainAttrs_list PySem.F.slot_list_append PySem.F.type_list_append mt_append (pv 5) (pa_cons (pe_tupRg rfl (by rfl) M.tuple (prg_1 (by rfl) M.range (pv 1))) pa_nil)))
      (pss_one (ps_ret (pe_ix ix_list (pv 5) (pe_call G_l_take (hr.mono (by decide)) (by rfl) g_l_take k_l_take b_l_take .nil pass0 (pa_cons (pv 0) (pa_cons pe_int pa_nil))) (fun _ _ => rfl))))))))))))))))))), ?_⟩
    have sKn : ∀ {R : Hp → V → Prop} {H' : Hp} {v : V}, (∀ H'', R H'' v) → Stay d c R H' v := fun h H'' _ => h H''
    have iK : ∀ {H' : Hp} (i : Int), Stay d c Kn H' (.int i) := fun i => sKn fun _ => trivial
    have lm : (ks.map V.int).length = ks.length := List.length_map ..
    refine ⟨fun σ' H' => ∃ at_ : Int, σ' = [some (.ref d), some (.int m), some (.ref ra), some (.int at_), none, none, none, none, none, none] ∧ 0 ≤ at_ ∧ Deck H' d c ∧ Kp d c H H', ?_, ?_⟩
    · exact ⟨.ref d, rfl, .ref ra, rfl, ra, _, rfl, .inr (SqT.of hra), _, 1, rfl, rfl, d, c, _, rfl, hD, by omega, by omega, fun v H' a b D K => ⟨v, rfl, a, D, K⟩⟩
    rintro σ' H1 ⟨at_, rfl, at0, D1, K1⟩
    refine ⟨.ref d, rfl, .int m, rfl, m, 1, rfl, rfl, d, c, m + 1, rfl, D1, by omega, by omega, fun u2 H2 a2 b2 D2 K2 => ?_⟩
    refine ⟨.int m, rfl, 1, rfl, .ref d, rfl, d, c, 3, rfl, D2, by decide, by decide, fun u3 H3 a3 b3 D3 K3 => ⟨-1, u3, rfl, rfl, ?_⟩⟩
    refine ⟨by show 1 ≤ sizeLine; decide, fun p1 n1 => ?_⟩
    have o1 : Own d c _ p1 (.tup [.int 0]) := Own.new D3 n1
    have D4 := D3.new (o := .tup [.int 0]) n1
    have K4 := Kp.new (d := d) (c := c) (o := .tup [.int 0]) n1
    refine ⟨by show 1 ≤ sizeLine; decide, fun p2 n2 => ?_⟩
    have o2 : Own d c _ p2 (.lst [.int 0]) := Own.new D4 n2
    have D5 := D4.new (o := .lst [.int 0]) n2
    have K5 := Kp.new (d := d) (c := c) (o := .lst [.int 0]) n2
    refine ⟨by show 10 ≤ sizeLine; decide, fun L0 nL0 => ?_⟩
    refine ⟨fun σ' H' => ∃ (odd : V), σ' = [some (.ref d), some (.int m), some (.ref ra), some (.int at_), some odd, none, none, none, none, none] ∧ Stay d c Kn H' odd ∧ Stay d c RowK H' odd ∧ Deck H' d c ∧ Kp d c H H', ?_, ?_⟩
    · refine ⟨.ref L0, rfl, .ref d, rfl, d, c, 10, rfl, D5.new nL0, by decide, by decide, fun v H6 a6 b6 D6 K6 => ?_⟩
      have oL := (Own.new D5 nL0).kp K6
      have K56 := (Kp.new (d := d) (c := c) nL0).trans K6
      have q1 := (o1.kp K5).kp K56
      have q2 := o2.kp K56
      have sc : ∀ v : V, (∀ H', Kn H' v) → (∀ H', isT H' v = false) → Stay d c Kn H6 v ∧ Stay d c RowK H6 v := fun v h1 h2 => ⟨sKn h1, sKn fun H' => row_no (h1 H') (h2 H')⟩
      obtain ⟨z, e1, hz⟩ := pickO (R := fun x => Stay d c Kn H6 x ∧ Stay d c RowK H6 x) oL a6 b6 rfl (fm (sc _ (fun _ => trivial) (fun _ => rfl)) (fm (sc _ (fun _ => trivial) (fun _ => rfl)) (fm (sc _ (fun _ => trivial) (fun _ => rfl)) (fm (sc _ (fun _ => trivial) (fun _ => rfl)) (fm (sc _ (fun _ => trivial) (fun _ => rfl)) (fm (sc _ (fun _ => trivial) (fun _ => rfl)) (fm (sc _ (fun _ => trivial) (fun _ => rfl)) (fm (sc _ (fun _ => trivial) (fun _ => rfl)) (fm ⟨q1.kn, st_row q1 (fm (iK _) fm_nil) (by show 1 ≤ 1000; decide)⟩ (fm ⟨q2.knL, fun H' k => row_lst (q2.kp k).2.2⟩ fm_nil))))))))))
      exact ⟨L0, _, v, z, rfl, rfl, SqL.of oL.2.2, e1, z, rfl, hz.1, hz.2, D6, ((((K1.trans K2).trans K3).trans K4).trans K5).trans K56⟩
    clear o1 o2 D4 D5 K4 K5 n1 n2 nL0 D3 K3 D2 K2 D1 K1 L0 p1 p2
    rintro σ' H1 ⟨odd, rfl, ho1, ho2, D1, K1⟩
    have hra1 := (K1.tk hD) _ _ hra
    -- what holds from here on
    let J : Hp → Addr → List V → Prop := fun H' L xs => Own d c H' L (.lst xs) ∧ Deck H' d c ∧ Kp d c H1 H' ∧ H1 L = none ∧ ∀ x ∈ xs, Stay3 d c L RowK H' x
    have Jra : ∀ {H' L xs}, J H' L xs → H' ra = some (.tup (ks.map V.int)) := fun ⟨_, _, K, _⟩ => (K.tk D1) _ _ hra1
    -- a new list
    have Jnew : ∀ {H' : Hp} {L : Addr} {xs : List V}, Deck H' d c → Kp d c H1 H' → H' L = none → (∀ x ∈ xs, Stay d c RowK H' x) → J (upd H' L (.lst xs)) L xs := fun {H' L xs} D K n h => by
      refine ⟨Own.new D n, D.new n, K.trans (Kp.new n), ?_, fun x hx => (h x hx).conv n⟩
      cases e : H1 L with
      | none => rfl
      | some o =>
        have z := D1
        by_cases e1 : L = d
        · obtain ⟨cells, st, n', z1, _⟩ := D
          rw [e1, z1] at n
          cases n
        · by_cases e2 : L = c
          · obtain ⟨cells, st, n', z1, z2, _⟩ := D
            rw [e2, z2] at n
            cases n
          · rw [K L o e1 e2 e] at n
            cases n
    have Jsame : ∀ {H' H'' : Hp} {L : Addr} {xs : List V}, J H' L xs → Same H' H'' → J H'' L xs := fun ⟨o, D, K, n, h⟩ s => ⟨o.kp (Same.kp s), D.same s, K.trans (Same.kp s), n, fun x hx => (h x hx).k3 (Kp.k3 (Same.kp s))⟩
    -- append
    have Jput : ∀ {H' : Hp} {L : Addr} {xs : List V} {v : V}, J H' L xs → Stay3 d c L RowK H' v → J (upd H' L (.lst (xs ++ [v]))) L (xs ++ [v]) := fun {H' L xs v} ⟨o, D, K, n, h⟩ hv => ⟨⟨o.1, o.2.1, upd_same⟩, D.mut o.1 o.2.1, K.mut n, n, fun x hx => by
      rcases List.mem_append.mp hx with z | z
      · exact (h x z).k3 K3.at
      · rw [List.mem_singleton.mp z]
        exact hv.k3 K3.at⟩
    have Jtup : ∀ {H' : Hp} {L r : Addr} {xs ys : List V}, J H' L xs → H' r = some (.tup ys) → (∀ x ∈ ys, ∃ i, x = .int i) → ys.length ≤ 1000 → Stay3 d c L RowK H' (.ref r) := fun {H' L r xs ys} ⟨o, D, K, n, h⟩ hr hi l H'' k => row_tup (k r _ (Own.tup D hr).1 (Own.tup D hr).2.1 (ne_of hr o.2.2 (by intro z; cases z)) hr) (fun x hx => by
      obtain ⟨i, rfl⟩ := hi x hx
      trivial) l
    have intsI : ∀ ms : List Int, ∀ x ∈ ms.map V.int, ∃ i, x = V.int i := fun ms x hx => by
      obtain ⟨i, _, rfl⟩ := List.mem_map.mp hx
      exact ⟨i, rfl⟩
    have cutI : ∀ lo hi, ∀ x ∈ cutV (ks.map V.int) lo hi, ∃ i, x = V.int i := fun lo hi => fm_cut (intsI ks) lo hi
    have cl : ∀ lo hi, (cutV (ks.map V.int) lo hi).length ≤ 120 := fun lo hi => by
      have := len_cut (ks.map V.int) lo hi
      omega
    have kn_of : ∀ {H' : Hp} {ys : List V}, (∀ x ∈ ys, ∃ i, x = V.int i) → ∀ x ∈ ys, Stay d c Kn H' x := fun h x hx => by
      obtain ⟨i, rfl⟩ := h x hx
      exact iK i
    -- some = [.., ..]
    refine ⟨fun σ' H' => ∃ (L : Addr) (xs : List V), σ' = [some (.ref d), some (.int m), some (.ref ra), some (.int at_), some odd, some (.ref L), none, none, none, none] ∧ xs.length = 2 ∧ J H' L xs, ?_, ?_⟩
    · refine ⟨.ref ra, rfl, .int at_, rfl, at_, rfl, ra, _, rfl, hra1, fun r1 H2 s2 h2 => ?_⟩
      refine ⟨.ref ra, rfl, .int at_, rfl, at_, 1, rfl, rfl, _, rfl, ra, _, rfl, s2 _ _ hra1, fun r2 H3 s3 h3 => ?_⟩
      refine ⟨r1, r2, _, _, rfl, rfl, s3 _ _ h2, h3, by have := cl none (some at_); have := cl (some (at_ + 1)) none; omega, fun r3 H4 s4 h4 => ?_⟩
      have s14 := (s2.trans s3).trans s4
      refine ⟨.ref ra, rfl, .int at_, rfl, at_, rfl, ra, _, rfl, s14 _ _ hra1, fun r4 H5 s5 h5 => ?_⟩
      refine ⟨odd, rfl, by show 1 ≤ sizeLine; decide, fun p6 n6 => ?_⟩
      have s6 := same_new (o := .tup [odd]) n6
      refine ⟨r4, p6, _, _, rfl, rfl, s6 _ _ h5, upd_same, by have := cl none (some at_); show _ + 1 ≤ 100000; omega, fun r7 H7 s7 h7 => ?_⟩
      have s17 := ((s14.trans s5).trans s6).trans s7
      refine ⟨.ref ra, rfl, .int at_, rfl, at_, rfl, ra, _, rfl, s17 _ _ hra1, fun r8 H8 s8 h8 => ?_⟩
      refine ⟨r7, r8, _, _, rfl, rfl, s8 _ _ h7, h8, by have := cl none (some at_); have := cl (some at_) none; rw [List.length_append]; show _ + 1 + _ ≤ 100000; omega, fun r9 H9 s9 h9 => ?_⟩
      have s49 := (((s5.trans s6).trans s7).trans s8).trans s9
      have s19 := s14.trans s49
      have D9 := D1.same s19
      have K9 := Same.kp (d := d) (c := c) s19
      refine ⟨by show 2 ≤ sizeLine; decide, fun L nL => ⟨L, _, rfl, rfl, Jnew D9 K9 nL (fm (st_row (Own.tup D9 (s49 _ _ h4)) (fm_app (kn_of (cutI _ _)) (kn_of (cutI _ _))) ?_) (fm (st_row (Own.tup D9 h9) (fm_app (fm_app (kn_of (cutI _ _)) (fm (ho1.kp K9) fm_nil)) (kn_of (cutI _ _))) ?_) fm_nil))⟩⟩
      · have := cl none (some at_); have := cl (some (at_ + 1)) none; rw [List.length_append]; omega
      · have := cl none (some at_); have := cl (some at_) none; rw [List.length_append, List.length_append]; show _ + 1 + _ ≤ 1000; omega
    rintro σ' H2 ⟨L, xs, rfl, lx, j2⟩
    -- some = some + [.., ..]
    refine ⟨fun σ' H' => ∃ (L : Addr) (xs : List V), σ' = [some (.ref d), some (.int m), some (.ref ra), some (.int at_), some odd, some (.ref L), none, none, none, none] ∧ xs.length = 4 ∧ J H' L xs, ?_, ?_⟩
    · have hra2 := Jra j2
      refine ⟨.ref L, rfl, .ref ra, rfl, .int at_, rfl, at_, rfl, ra, _, rfl, hra2, fun r4 H5 s5 h5 => ?_⟩
      refine ⟨odd, rfl, by show 1 ≤ sizeLine; decide, fun p6 n6 => ?_⟩
      have s6 := same_new (o := .tup [odd]) n6
      refine ⟨r4, p6, _, _, rfl, rfl, s6 _ _ h5, upd_same, by have := cl none (some at_); show _ + 1 ≤ 100000; omega, fun r7 H7 s7 h7 => ?_⟩
      have s17 := (s5.trans s6).trans s7
      refine ⟨.ref ra, rfl, .int at_, rfl, at_, 1, rfl, rfl, _, rfl, ra, _, rfl, s17 _ _ hra2, fun r8 H8 s8 h8 => ?_⟩
      refine ⟨r7, r8, _, _, rfl, rfl, s8 _ _ h7, h8, by have := cl none (some at_); have := cl (some (at_ + 1)) none; rw [List.length_append]; show _ + 1 + _ ≤ 100000; omega, fun r9 H9 s9 h9 => ?_⟩
      have s19 := (s17.trans s8).trans s9
      refine ⟨.ref ra, rfl, .ref ra, rfl, 1, rfl, _, rfl, ra, _, rfl, s19 _ _ hra2, fun r10 H10 s10 h10 => ?_⟩
      refine ⟨ra, r10, _, _, rfl, rfl, s10 _ _ (s19 _ _ hra2), h10, by have := cl (some (-1)) none; show _ + (cutV (ks.map V.int) (some (-1)) none).length ≤ 100000; omega, fun r11 H11 s11 h11 => ?_⟩
      have s911 := s10.trans s11
      have s111 := s19.trans s911
      refine ⟨by show 2 ≤ sizeLine; decide, fun B nB => ?_⟩
      have s12 := same_new (o := .lst [.ref r9, .ref r11]) nB
      have j12 := Jsame j2 (s111.trans s12)
      have D12 := j12.2.1
      have K12 := j12.2.2.1
      refine ⟨L, B, _, _, rfl, rfl, j12.1.2.2, upd_same, by rw [lx]; show 4 ≤ sizeLine; decide, fun L' nL' => ⟨L', _, rfl, by rw [List.length_append, lx]; rfl, Jnew D12 K12 nL' (fm_app (fun x hx => (j12.2.2.2.2 x hx).weak) (fm (st_row (Own.tup D12 (s12 _ _ (s911 _ _ h9))) (fm_app (fm_app (kn_of (cutI _ _)) (fm (ho1.kp K12) fm_nil)) (kn_of (cutI _ _))) ?_) (fm (st_row (Own.tup D12 (s12 _ _ h11)) (fm_app (kn_of (intsI _)) (kn_of (cutI _ _))) ?_) fm_nil)))⟩⟩
      · have := cl none (some at_); have := cl (some (at_ + 1)) none; rw [List.length_append, List.length_append]; show _ + 1 + _ ≤ 1000; omega
      · have := cl (some (-1)) none
        rw [List.length_append]
        show _ + (cutV (ks.map V.int) (some (-1)) none).length ≤ 1000
        omega
    clear j2 lx xs L H2
    rintro σ' H2 ⟨L, xs, rfl, lx, j2⟩
    -- more
    refine ⟨fun σ' H' => ∃ (r : Addr) (ms : List Int), σ' = [some (.ref d), some (.int m), some (.ref ra), some (.int at_), some odd, some (.ref L), some (.ref r), none, none, none] ∧ H' r = some (.tup (ms.map V.int)) ∧ ms.length ≤ 120 ∧ J H' L xs, ?_, ?_⟩
    · refine ⟨.ref ra, rfl, .int at_, rfl, at_, rfl, .int at_, rfl, at_, 1, rfl, rfl, _, rfl, ra, _, rfl, Jra j2, fun r H3 s3 h3 => ?_⟩
      obtain ⟨ms, em, lms⟩ := cutV_ints ks (some at_) (some (at_ + 1))
      replace h3 : H3 r = some (.tup (ms.map V.int)) := by rw [← em]; exact h3
      refine ⟨r, rfl, ⟨_, SqT.of h3⟩, fun Z nZ => ?_⟩
      refine lc_tup (xs := ms.map V.int) (fun i H' => H' Z = some (.lst ((ms.take i).map fun x => V.int (x + 1))) ∧ Same H3 H') ⟨upd_same, same_new nZ⟩ (fun i H' _ h => SqT.of (h.2 _ _ h3)) ?_ ?_
      · rintro i x H4 ex ⟨hZ, s4⟩
        rw [List.getElem?_map] at ex
        obtain ⟨y, hy, rfl⟩ := Option.map_eq_some_iff.mp ex
        have hi := (List.getElem?_eq_some_iff.mp hy).1
        refine ⟨rfl, .int y, rfl, y, 1, rfl, rfl, _, hZ, small1000 (by rw [List.length_map, List.length_take]; omega), ?_, Same.mut s4 nZ⟩
        rw [upd_same, List.take_add_one, hy, List.map_append]
        rfl
      · rintro H4 ⟨hZ, s4⟩
        rw [List.length_map, List.take_length] at hZ
        refine ⟨Z, _, rfl, .inl ⟨SqL.of hZ, fun r' nr => ⟨r', ms.map (fun x => x + 1), rfl, ?_, by rw [List.length_map]; omega, Jsame j2 ((s3.trans s4).trans (same_new nr))⟩⟩⟩
        rw [upd_same, List.map_map]
        rfl
    clear j2 H2
    rintro σ' H2 ⟨r6, ms, rfl, h6, lms, j2⟩
    -- append
    refine ⟨fun σ' H' => ∃ (xs : List V), σ' = [some (.ref d), some (.int m), some (.ref ra), some (.int at_), some odd, some (.ref L), some (.ref r6), none, none, none] ∧ xs.length = 5 ∧ J H' L xs, ?_, ?_⟩
    · have hra2 := Jra j2
      refine ⟨.ref L, rfl, .inl ⟨rfl, _, SqL.of j2.1.2.2⟩, .ref ra, rfl, .int at_, rfl, at_, rfl, ra, _, rfl, hra2, fun r4 H5 s5 h5 => ?_⟩
      refine ⟨.ref r6, rfl, r4, r6, _, _, rfl, rfl, h5, s5 _ _ h6, by have := cl none (some at_); rw [List.length_map]; omega, fun r7 H7 s7 h7 => ?_⟩
      have s17 := s5.trans s7
      refine ⟨.ref ra, rfl, .int at_, rfl, at_, 1, rfl, rfl, _, rfl, ra, _, rfl, s17 _ _ hra2, fun r8 H8 s8 h8 => ?_⟩
      refine ⟨r7, r8, _, _, rfl, rfl, s8 _ _ h7, h8, by have := cl none (some at_); have := cl (some (at_ + 1)) none; rw [List.length_append, List.length_map]; omega, fun r9 H9 s9 h9 => ?_⟩
      have j9 := Jsame j2 ((s17.trans s8).trans s9)
      refine ⟨L, xs, _, rfl, rfl, j9.1.2.2, small1000 (by omega), xs ++ [.ref r9], rfl, by rw [List.length_append, lx]; rfl, Jput j9 (Jtup j9 h9 (fm_app (fm_app (cutI _ _) (intsI _)) (cutI _ _)) ?_)⟩
      have := cl none (some at_); have := cl (some (at_ + 1)) none; rw [List.length_append, List.length_append, List.length_map]; omega
    clear j2 lx xs H2 h6
    rintro σ' H2 ⟨xs, rfl, lx, j2⟩
    -- reversed, a list
    refine ⟨fun σ' H' => ∃ (L : Addr) (xs : List V), σ' = [some (.ref d), some (.int m), some (.ref ra), some (.int at_), some odd, some (.ref L), some (.ref r6), none, none, none] ∧ xs.length = 7 ∧ J H' L xs, ?_, ?_⟩
    · have hra2 := Jra j2
      refine ⟨.ref L, rfl, .ref ra, rfl, ra, _, rfl, SqT.of hra2, fun p3 n3 => ?_⟩
      have s3 := same_new (o := .tup (ks.map V.int).reverse) n3
      refine ⟨.ref ra, rfl, ra, _, rfl, .inr (SqT.of (s3 _ _ hra2)), fun p4 n4 => ?_⟩
      have s4 := same_new (o := .lst (ks.map V.int)) n4
      have D4 := (j2.2.1.same s3)
      have o4 : Own d c _ p4 (.lst (ks.map V.int)) := Own.new D4 n4
      refine ⟨by show 2 ≤ sizeLine; decide, fun B nB => ?_⟩
      have s5 := same_new (o := .lst [.ref p3, .ref p4]) nB
      have j5 := Jsame j2 ((s3.trans s4).trans s5)
      have D5 := j5.2.1
      have o3 := Own.tup D5 (s5 _ _ (s4 _ _ (upd_same (H := H2) (a := p3) (o := .tup (ks.map V.int).reverse))))
      have o4' := o4.kp (Same.kp s5)
      refine ⟨L, B, _, _, rfl, rfl, j5.1.2.2, upd_same, by rw [lx]; show 7 ≤ sizeLine; decide, fun L' nL' => ⟨L', _, rfl, by rw [List.length_append, lx]; rfl, Jnew D5 j5.2.2.1 nL' (fm_app (fun x hx => (j5.2.2.2.2 x hx).weak) (fm (st_row o3 (fun x hx => kn_of (intsI ks) x (List.mem_reverse.mp hx)) (by rw [List.length_reverse, List.length_map]; omega)) (fm (fun H' k => row_lst (o4'.kp k).2.2) fm_nil)))⟩⟩
    clear j2 lx xs H2 L
    rintro σ' H2 ⟨L, xs, rfl, lx, j2⟩
    -- less
    refine ⟨fun σ' H' => ∃ (r : Addr) (ms : List Int), σ' = [some (.ref d), some (.int m), some (.ref ra), some (.int at_), some odd, some (.ref L), some (.ref r6), none, some (.ref r), none] ∧ H' r = some (.tup (ms.map V.int)) ∧ ms.length ≤ 120 ∧ J H' L xs, ?_, ?_⟩
    · refine ⟨.ref ra, rfl, .int at_, rfl, at_, rfl, .int at_, rfl, at_, 1, rfl, rfl, _, rfl, ra, _, rfl, Jra j2, fun r H3 s3 h3 => ?_⟩
      obtain ⟨ms, em, lms⟩ := cutV_ints ks (some at_) (some (at_ + 1))
      replace h3 : H3 r = some (.tup (ms.map V.int)) := by rw [← em]; exact h3
      refine ⟨r, rfl, ⟨_, SqT.of h3⟩, fun Z nZ => ?_⟩
      refine lc_tup (xs := ms.map V.int) (fun i H' => H' Z = some (.lst ((ms.take i).map fun x => V.int (x - 1))) ∧ Same H3 H') ⟨upd_same, same_new nZ⟩ (fun i H' _ h => SqT.of (h.2 _ _ h3)) ?_ ?_
      · rintro i x H4 ex ⟨hZ, s4⟩
        rw [List.getElem?_map] at ex
        obtain ⟨y, hy, rfl⟩ := Option.map_eq_some_iff.mp ex
        have hi := (List.getElem?_eq_some_iff.mp hy).1
        refine ⟨rfl, .int y, rfl, y, 1, rfl, rfl, _, hZ, small1000 (by rw [List.length_map, List.length_take]; omega), ?_, Same.mut s4 nZ⟩
        rw [upd_same, List.take_add_one, hy, List.map_append]
        rfl
      · rintro H4 ⟨hZ, s4⟩
        rw [List.length_map, List.take_length] at hZ
        refine ⟨Z, _, rfl, .inl ⟨SqL.of hZ, fun r' nr => ⟨r', ms.map (fun x => x - 1), rfl, ?_, by rw [List.length_map]; omega, Jsame j2 ((s3.trans s4).trans (same_new nr))⟩⟩⟩
        rw [upd_same, List.map_map]
        rfl
    clear j2 H2 ms lms
    rintro σ' H2 ⟨r8, ms, rfl, h6, lms, j2⟩
    refine ⟨fun σ' H' => ∃ (xs : List V), σ' = [some (.ref d), some (.int m), some (.ref ra), some (.int at_), some odd, some (.ref L), some (.ref r6), none, some (.ref r8), none] ∧ xs.length = 8 ∧ J H' L xs, ?_, ?_⟩
    · have hra2 := Jra j2
      refine ⟨.ref L, rfl, .inl ⟨rfl, _, SqL.of j2.1.2.2⟩, .ref ra, rfl, .int at_, rfl, at_, rfl, ra, _, rfl, hra2, fun r4 H5 s5 h5 => ?_⟩
      refine ⟨.ref r8, rfl, r4, r8, _, _, rfl, rfl, h5, s5 _ _ h6, by have := cl none (some at_); rw [List.length_map]; omega, fun r7 H7 s7 h7 => ?_⟩
      have s17 := s5.trans s7
      refine ⟨.ref ra, rfl, .int at_, rfl, at_, 1, rfl, rfl, _, rfl, ra, _, rfl, s17 _ _ hra2, fun r8' H8 s8 h8 => ?_⟩
      refine ⟨r7, r8', _, _, rfl, rfl, s8 _ _ h7, h8, by have := cl none (some at_); have := cl (some (at_ + 1)) none; rw [List.length_append, List.length_map]; omega, fun r9 H9 s9 h9 => ?_⟩
      have j9 := Jsame j2 ((s17.trans s8).trans s9)
      refine ⟨L, xs, _, rfl, rfl, j9.1.2.2, small1000 (by omega), xs ++ [.ref r9], rfl, by rw [List.length_append, lx]; rfl, Jput j9 (Jtup j9 h9 (fm_app (fm_app (cutI _ _) (intsI _)) (cutI _ _)) ?_)⟩
      have := cl none (some at_); have := cl (some (at_ + 1)) none; rw [List.length_append, List.length_append, List.length_map]; omega
    clear j2 lx xs H2 h6
    rintro σ' H2 ⟨xs, rfl, lx, j2⟩
    refine ⟨fun σ' H' => ∃ (L : Addr) (xs : List V), σ' = [some (.ref d), some (.int m), some (.ref ra), some (.int at_), some odd, some (.ref L), some (.ref r6), none, some (.ref r8), none] ∧ xs.length = 11 ∧ J H' L xs, ?_, ?_⟩
    · have hra2 := Jra j2
      refine ⟨.ref L, rfl, .ref ra, rfl, by show 1 ≤ sizeLine; decide, fun p3 n3 => ?_⟩
      have s3 := same_new (o := .tup [.ref ra]) n3
      refine ⟨odd, rfl, by show 3 ≤ sizeLine; decide, fun B nB => ?_⟩
      have s5 := same_new (o := .lst [.ref p3, .non, odd]) nB
      have j5 := Jsame j2 (s3.trans s5)
      have D5 := j5.2.1
      have K5 := j5.2.2.1
      have o3 := Own.tup D5 (s5 _ _ (upd_same (H := H2) (a := p3) (o := .tup [.ref ra])))
      have ora := Own.tup D5 (Jra j5)
      refine ⟨L, B, _, _, rfl, rfl, j5.1.2.2, upd_same, by rw [lx]; show 11 ≤ sizeLine; decide, fun L' nL' => ⟨L', _, rfl, by rw [List.length_append, lx]; rfl, Jnew D5 K5 nL' (fm_app (fun x hx => (j5.2.2.2.2 x hx).weak) (fm (st_row o3 (fm ora.kn fm_nil) (by show 1 ≤ 1000; decide)) (fm (sKn fun _ => row_no trivial rfl) (fm (ho2.kp K5) fm_nil))))⟩⟩
    clear j2 lx xs H2 L
    rintro σ' H2 ⟨L, xs, rfl, lx, j2⟩
    -- later
    refine ⟨fun σ' H' => ∃ (r : Addr) (ys : List V), σ' = [some (.ref d), some (.int m), some (.ref ra), some (.int at_), some odd, some (.ref L), some (.ref r6), none, some (.ref r8), some (.ref r)] ∧ H' r = some (.tup ys) ∧ (∀ x ∈ ys, ∃ i, x = .int i) ∧ ys.length ≤ 240 ∧ J H' L xs, ?_, ?_⟩
    · have hra2 := Jra j2
      refine ⟨.ref ra, rfl, .int at_, rfl, at_, 1, rfl, rfl, _, rfl, .int at_, rfl, at_, 2, rfl, rfl, _, rfl, ra, _, rfl, hra2, fun r H3 s3 h3 => ?_⟩
      refine ⟨.ref ra, rfl, .int at_, rfl, at_, rfl, .int at_, rfl, at_, 1, rfl, rfl, _, rfl, ra, _, rfl, s3 _ _ hra2, fun r' H4 s4 h4 => ?_⟩
      refine ⟨r, r', _, _, rfl, rfl, s4 _ _ h3, h4, by have := cl (some (at_ + 1)) (some (at_ + 2)); have := cl (some at_) (some (at_ + 1)); omega, fun r5 H5 s5 h5 => ⟨r5, _, rfl, h5, fm_app (cutI _ _) (cutI _ _), ?_, Jsame j2 ((s3.trans s4).trans s5)⟩⟩
      have := cl (some (at_ + 1)) (some (at_ + 2)); have := cl (some at_) (some (at_ + 1)); rw [List.length_append]; omega
    clear j2 H2
    rintro σ' H2 ⟨r9, ys, rfl, h6, hys, lys, j2⟩
    refine ⟨fun σ' H' => ∃ (xs : List V), σ' = [some (.ref d), some (.int m), some (.ref ra), some (.int at_), some odd, some (.ref L), some (.ref r6), none, some (.ref r8), some (.ref r9)] ∧ xs.length = 12 ∧ J H' L xs, ?_, ?_⟩
    · have hra2 := Jra j2
      refine ⟨.ref L, rfl, .inl ⟨rfl, _, SqL.of j2.1.2.2⟩, .ref ra, rfl, .int at_, rfl, at_, rfl, ra, _, rfl, hra2, fun r4 H5 s5 h5 => ?_⟩
      refine ⟨.ref r9, rfl, r4, r9, _, _, rfl, rfl, h5, s5 _ _ h6, by have := cl none (some at_); omega, fun r7 H7 s7 h7 => ?_⟩
      have s17 := s5.trans s7
      refine ⟨.ref ra, rfl, .int at_, rfl, at_, 2, rfl, rfl, _, rfl, ra, _, rfl, s17 _ _ hra2, fun r8' H8 s8 h8 => ?_⟩
      refine ⟨r7, r8', _, _, rfl, rfl, s8 _ _ h7, h8, by have := cl none (some at_); have := cl (some (at_ + 2)) none; rw [List.length_append]; omega, fun r9' H9 s9 h9 => ?_⟩
      have j9 := Jsame j2 ((s17.trans s8).trans s9)
      refine ⟨L, xs, _, rfl, rfl, j9.1.2.2, small1000 (by omega), xs ++ [.ref r9'], rfl, by rw [List.length_append, lx]; rfl, Jput j9 (Jtup j9 h9 (fm_app (fm_app (cutI _ _) hys) (cutI _ _)) ?_)⟩
      have := cl none (some at_); have := cl (some (at_ + 2)) none; rw [List.length_append, List.length_append]; omega
    clear j2 lx xs H2 h6
    rintro σ' H2 ⟨xs, rfl, lx, j2⟩
    -- a dict
    refine ⟨fun σ' H' => ∃ (xs : List V), σ' = [some (.ref d), some (.int m), some (.ref ra), some (.int at_), some odd, some (.ref L), some (.ref r6), none, some (.ref r8), some (.ref r9)] ∧ xs.length = 13 ∧ J H' L xs, ?_, ?_⟩
    · have hra2 := Jra j2
      refine ⟨.ref L, rfl, .inl ⟨rfl, _, SqL.of j2.1.2.2⟩, .ref ra, rfl, by show 2 ≤ sizeLine; decide, fun p3 n3 => ?_⟩
      have s3 := same_new (o := .tup [.int 1, .ref ra]) n3
      refine ⟨by show 1 ≤ sizeLine; decide, fun p4 n4 => ?_⟩
      have s4 := same_new (o := .lst [.ref p3]) n4
      refine ⟨p4, [p3], [(Sum.inl 1, .ref ra)], rfl, SqL.of upd_same, .cons (SqT.of (s4 _ _ upd_same)) .nil, fun p5 n5 => ?_⟩
      have s5 := same_new (o := .dK (mergeK [] [((Sum.inl 1 : Key), V.ref ra)])) n5
      have j4 := Jsame j2 (s3.trans s4)
      have e5L : p5 ≠ L := (ne_of_none j4.1.2.2 n5).symm
      have o5 : Own d c _ p5 (.dK (mergeK [] [((Sum.inl 1 : Key), V.ref ra)])) := Own.new j4.2.1 n5
      have j5 := Jsame j4 s5
      refine ⟨L, xs, _, rfl, rfl, j5.1.2.2, small1000 (by omega), xs ++ [.ref p5], rfl, by rw [List.length_append, lx]; rfl, Jput j5 (fun H' k => row_dct (k.own o5 e5L).2.2)⟩
    clear j2 lx xs H2
    rintro σ' H2 ⟨xs, rfl, lx, j2⟩
    -- all of them
    refine ⟨fun σ' H' => ∃ (xs : List V), σ' = [some (.ref d), some (.int m), some (.ref ra), some (.int at_), some odd, some (.ref L), some (.ref r6), none, some (.ref r8), some (.ref r9)] ∧ xs.length = 14 ∧ J H' L xs, ?_, ?_⟩
    · refine ⟨.ref L, rfl, .inl ⟨rfl, _, SqL.of j2.1.2.2⟩, .int m, rfl, m, rfl, RgOk.of_le (by decide) (by omega) (by decide) m0, fun p3 n3 => ?_⟩
      have s3 := same_new (o := .tup (rgV 0 m)) n3
      have j3 := Jsame j2 s3
      refine ⟨L, xs, _, rfl, rfl, j3.1.2.2, small1000 (by omega), xs ++ [.ref p3], rfl, by rw [List.length_append, lx]; rfl, Jput j3 (Jtup j3 upd_same (fun x hx => ?_) (by rw [rgV_length]; omega))⟩
      unfold rgV at hx
      obtain ⟨i, _, rfl⟩ := List.mem_map.mp hx
      exact ⟨_, rfl⟩
    clear j2 lx xs H2
    rintro σ' H2 ⟨xs, rfl, lx, j2⟩
    refine ⟨.ref L, rfl, .ref d, rfl, d, c, 14, rfl, j2.2.1, by decide, by decide, fun v H3 a3 b3 D3 K3 => ?_⟩
    have oL := j2.1.kp K3
    obtain ⟨z, e1, hz⟩ := pickO (R := fun x => Stay d c RowK H3 x) oL a3 b3 (by rw [lx]; rfl) (fun x hx => ((j2.2.2.2.2 x hx).weak).kp K3)
    exact ⟨L, _, v, z, rfl, rfl, SqL.of oL.2.2, e1, q z H3 D3 (K1.trans (j2.2.2.1.trans K3)) hz⟩
end
/-! ### k36: the law -/
def rLen (K : PySem.W.Frag) : List V → Hp → VK → Prop := fun xs H Q => ∃ (p : Addr) (ys : List V), xs = [V.ref p] ∧ (SqL K H p ys ∨ SqT K H p ys) ∧ Q (.int ys.length) H
theorem Tabs.kp {Ps : List Addr} {d c : Addr} {H H' : Hp} (t : Tabs Ps H) (k : Kp d c H H') (D : Deck H d c) : Tabs Ps H' := fun P hP => by
  obtain ⟨ps, e, x⟩ := t P hP
  obtain ⟨cells, st, n, e1, e2, _⟩ := D
  exact ⟨ps, k _ _ (ne_of e e1 (by intro z; cases z)) (ne_of e e2 (by intro z; cases z)) e, x⟩
theorem Tabs.same {Ps : List Addr} {H H' : Hp} (t : Tabs Ps H) (s : Same H H') : Tabs Ps H' := (Kt.same t s).tab
theorem kn_at {H : Hp} {Z : Addr} {a b : List V} (hz : H Z = some (.lst b)) {v : V} (h : Kn (upd H Z (.lst a)) v) : Kn H v := by
  cases v with
  | ref p =>
    by_cases e : p = Z
    · rw [e]
      exact .inl ⟨b, hz⟩
    · rcases h with ⟨xs, h⟩ | ⟨xs, h⟩ | ⟨xs, h⟩
      · rw [upd_ne e] at h
        exact .inl ⟨xs, h⟩
      · rw [upd_ne e] at h
        exact .inr (.inl ⟨xs, h⟩)
      · rw [upd_ne e] at h
        exact .inr (.inr ⟨xs, h⟩)
  | _ => exact h
theorem parts_lst {H : Hp} {Z : Addr} {a b : List V} (hz : H Z = some (.lst b)) (v : V) : parts (upd H Z (.lst a)) v = parts H v := by
  cases v with
  | ref p =>
    unfold parts
    by_cases e : p = Z
    · subst e
      simp only [upd_same, hz]
    · simp only [upd_ne e]
  | _ => rfl
theorem row_at {H : Hp} {Z : Addr} {a b : List V} (hz : H Z = some (.lst b)) {v : V} (h : RowK (upd H Z (.lst a)) v) : RowK H v := ⟨kn_at hz h.1, fun xs e => by
  rw [← parts_lst (a := a) hz] at e
  exact ⟨fun x hx => kn_at hz ((h.2 xs e).1 x hx), (h.2 xs e).2⟩⟩
theorem stay_lst {d c Z : Addr} {H : Hp} {v : V} {a b : List V} (h : Stay d c RowK H v) (hz : H Z = some (.lst a)) (zd : Z ≠ d) (zc : Z ≠ c) : Stay d c RowK (upd H Z (.lst b)) v := fun H' k => by
  have hz' := k Z _ zd zc upd_same
  refine row_at (a := a) hz' (h _ fun p o h1 h2 e => ?_)
  by_cases ep : p = Z
  · rw [ep, upd_same, ← hz, ← ep, e]
  · rw [upd_ne ep]
    exact k p o h1 h2 (by rw [upd_ne ep]; exact e)
def spLaw (K : PySem.W.Frag) (Ps : List Addr) : Sp := fun vs H Q _ => ∃ (a : Addr) (ns : List Int), vs = [.ref a] ∧ SqL K H a (ns.map V.int) ∧ ns.length ≤ 63 ∧ Tabs Ps H ∧ ∀ H', Q (.bl true) H'
section
variable {P : Program} {w : World} {K : PySem.W.Frag} {mg : Str → Option Value} {base : Heap}
theorem ok_law {f : Addr} {fd : FuncData} {Ps : List Addr} (F : Fun K "law" "law" s_law f fd) (M : Free mg) (D_l_deck : Df P w K mg base 1 "_law_deck" ["_law_script"] (spDeck K)) (D_l_take : Df P w K mg base 1 "_law_take" ["_law_deck_here", "_law_many"] spDraw) (D_l_ties : Df P w K mg base 2 "_law_ties" ["_law_deck_here", "_law_many", "_law_most"] spLTies) (D_l_broken : Df P w K mg base 1 "_law_broken" ["_law_ties_here", "_law_side"] spLBroken) (D_l_bent : Df P w K mg base 2 "_law_bent" ["_law_deck_here", "_law_many", "_law_row"] spLBent) (D_l_right : Df P w K mg base 6 "_law_right" ["_law_web", "_law_thing"] (spRight Ps)) : FnOk P w K mg base CX0 7 f fd ["_law_script"] (spLaw K Ps) := by
  obtain ⟨f_l_deck, fd_l_deck, G_l_deck, g_l_deck, k_l_deck, b_l_deck⟩ := D_l_deck
  obtain ⟨f_l_take, fd_l_take, G_l_take, g_l_take, k_l_take, b_l_take⟩ := D_l_take
  obtain ⟨f_l_ties, fd_l_ties, G_l_ties, g_l_ties, k_l_ties, b_l_ties⟩ := D_l_ties
  obtain ⟨f_l_broken, fd_l_broken, G_l_broken, g_l_broken, k_l_broken, b_l_broken⟩ := D_l_broken
  obtain ⟨f_l_bent, fd_l_bent, G_l_bent, g_l_bent, k_l_bent, b_l_bent⟩ := D_l_bent
  obtain ⟨f_l_right, fd_l_right, G_l_right, g_l_right, k_l_right, b_l_right⟩ := D_l_right
  refine F.ok sc_law (fun vs H Q E h => ?_) (fun cdv A outer s H vs Q E hr h => ?_)
  · obtain ⟨a, ns, rfl, _⟩ := h
    rfl
  · obtain ⟨sc, ns, rfl, hS, hlen, hT, q⟩ := h
    refine ⟨_, (pss_cons (ps_set (i := 1) sc_law.nd rfl (.inr rfl) (pe_call G_l_deck (hr.mono (by decide)) (by rfl) g_l_deck k_l_deck b_l_deck .nil pass0 (pa_cons (pv 0) pa_nil)))
      (pss_cons (ps_for PassesOwn.never rfl (pi_range1 (by rfl) M.range (pa_cons pe_int pa_nil)) (pg_name (i := 2) sc_law.nd rfl (.inr rfl))
        (Evl.pss_cut (ps_set (i := 3) sc_law.nd rfl (.inl rfl) (pe_op op_add pe_int (pe_ix ix_list (pe_lst (pa_cons (pe_call G_l_take (hr.mono (by decide)) (by rfl) g_l_take k_l_take b_l_take .nil pass0 (pa_cons (pv 1) (pa_cons pe_int pa_nil))) (pa_cons (pe_call G_l_take (hr.mono (by decide)) (by rfl) g_l_take k_l_take b_l_take .nil pass0 (pa_cons (pv 1) (pa_cons pe_int pa_nil))) pa_nil))) (pe_callTy call_int1 (by rfl) M.int (by decide +kernel) (pa_cons (pe_cmpR op_eq (pe_call G_l_take (hr.mono (by decide)) (by rfl) g_l_take k_l_take b_l_take .nil pass0 (pa_cons (pv 1) (pa_cons pe_int pa_nil))) pe_int (nomark _)) pa_nil)) (fun _ _ => rfl))))
        (Evl.pss_cut (ps_set (i := 4) sc_law.nd rfl (.inl rfl) (pe_ix ix_list (pe_lst (pa_cons (pe_call G_l_take (hr.mono (by decide)) (by rfl) g_l_take k_l_take b_l_take .nil pass0 (pa_cons (pv 1) (pa_cons pe_int pa_nil))) (pa_cons (pe_call G_l_take (hr.mono (by decide)) (by rfl) g_l_take k_l_take b_l_take .nil pass0 (pa_cons (pv 1) (pa_cons pe_int pa_nil))) pa_nil))) (pe_callTy call_int1 (by rfl) M.int (by decide +kernel) (pa_cons (pe_cmpR op_eq (pe_call G_l_take (hr.mono (by decide)) (by rfl) g_l_take k_l_take b_l_take .nil pass0 (pa_cons (pv 1) (pa_cons pe_int pa_nil))) pe_int (nomark _)) pa_nil)) (fun _ _ => rfl)))
        (pss_cons (ps_set (i := 5) sc_law.nd rfl (.inr rfl) (pe_tup (pa_cons (pv 3) (pa_cons (pe_call G_l_ties (hr.mono (by decide)) (by rfl) g_l_ties k_l_ties b_l_ties .nil pass0 (pa_cons (pv 1) (pa_cons (pv 3) (pa_cons (pv 4) pa_nil)))) pa_nil))))
        (Evl.pss_cut (ps_set (i := 6) sc_law.nd rfl (.inr rfl) (pe_lc (own := [("_law_place", 7)]) (g := (gName 7)) (tt := tYes) rfl sc_law.nd (pi_range1 (by rfl) M.range (pa_cons (pv 3) pa_nil)) (blkOk_by (N := N_law) (sc := defScope s_law) (own := [("_law_place", 7)]) (by decide +kernel)) (fun _ _ _ _ _ => (pg_name (i := 7) sc_law.nd rfl (.inl rfl))) (fun _ _ _ _ _ => pts_nil) (fun _ _ _ _ _ => (pe_call G_l_take (hr.mono (by decide)) (by rfl) g_l_take k_l_take b_l_take .nil pass0 (pa_cons (pv 1) (pa_cons pe_int pa_nil))))))
        (pss_cons (ps_set (i := 8) sc_law.nd rfl (.inr rfl) (pe_call G_l_broken (hr.mono (by decide)) (by rfl) g_l_broken k_l_broken b_l_broken .nil pass0 (pa_cons (pe_ix ix_tup (pv 5) pe_int (fun _ _ => rfl)) (pa_cons (pv 6) pa_nil))))
        (Evl.pss_cut (ps_set (i := 9) sc_law.nd rfl (.inl rfl) (pe_call G_l_broken (hr.mono (by decide)) (by rfl) g_l_broken k_l_broken b_l_broken .nil pass0 (pa_cons (pe_ix ix_tup (pv 5) pe_int (fun _ _ => rfl)) (pa_cons (pe_lc (own := [("_law_k", 10)]) (g := (gName 10)) (tt := tYes) rfl sc_law.nd (pi_range1 (by rfl) M.range (pa_cons (pv 3) pa_nil)) (blkOk_by (N := N_law) (sc := defScope s_law) (own := [("_law_k", 10)]) (by decide +kernel)) (fun _ _ _ _ _ => (pg_name (i := 10) sc_law.nd rfl (.inl rfl))) (fun _ _ _ _ _ => pts_nil) (fun _ _ _ _ _ => (pe_op op_mod (pe_op op_add (pe_ix (r := rIxL K) ix_list (pv 6) (pv 10) (fun _ _ => rfl)) (pe_callTy call_int1 (by rfl) M.int (by decide +kernel) (pa_cons (pe_cmpR op_eq (pv 10) (pv 2) (nomark _)) pa_nil))) pe_int))) pa_nil))))
        (pss_one (ps_for PassesOwn.never rfl (pi_list (pe_op op_cat (pe_lst (pa_cons (pv 8) (pa_cons (pv 9) (pa_cons (pe_tup pa_nil) pa_nil)))) (pe_lc (own := [("_law_k", 10)]) (g := (gName 10)) (tt := tYes) rfl sc_law.nd (pi_range1 (by rfl) M.range (pa_cons pe_int pa_nil)) (blkOk_by (N := N_law) (sc := defScope s_law) (own := [("_law_k", 10)]) (by decide +kernel)) (fun _ _ _ _ _ => (pg_name (i := 10) sc_law.nd rfl (.inl rfl))) (fun _ _ _ _ _ => pts_nil) (fun _ _ _ _ _ => (pe_call G_l_bent (hr.mono (by decide)) (by rfl) g_l_bent k_l_bent b_l_bent .nil pass0 (pa_cons (pv 1) (pa_cons (pe_callB (r := rLen K) call_len_seq (by rfl) M.len PySem.boot_len (pa_cons (pe_ix (r := rIxT K) ix_tup (pv 5) pe_int (fun _ _ => rfl)) pa_nil)) (pa_cons (pv 8) pa_nil)))))))) (pg_name (i := 11) sc_law.nd rfl (.inl rfl))
          (pss_one (ps_if (pt_not (pt_val (pe_call G_l_right (hr.mono (by decide)) (by rfl) g_l_right k_l_right b_l_right .nil pass0 (pa_cons (pv 5) (pa_cons (pv 11) pa_nil)))))
            (pss_one (ps_ret pe_bl))
            pss_nil)))))))))))
      (pss_one (ps_ret pe_bl)))), ?_⟩
    refine ⟨.ref sc, rfl, sc, ns, rfl, hS, hlen, fun d c H1 s1 nd nc D1 => ?_⟩
    have hT1 := hT.same s1
    clear hS hT s1 nd nc
    refine ⟨4, rfl, by decide, by decide, ?_⟩
    refine for_range (lo := 0) (n := 4) (fun i σ' H' => ∃ y2 y3 y4 y5 y6 y7 y8 y9 y10 y11 : Option V, σ' = [some (.ref sc), some (.ref d), y2, y3, y4, y5, y6, y7, y8, y9, y10, y11] ∧ Deck H' d c ∧ Tabs Ps H') ⟨none, none, none, none, none, none, none, none, none, none, rfl, D1, hT1⟩ ?_ (fun σ' H' _ => q _)
    clear D1 hT1 H1
    rintro i σ' H1 hi ⟨y2, y3, y4, y5, y6, y7, y8, y9, y10, y11, rfl, D1, T1⟩
    -- many
    refine ⟨fun σ' H' => ∃ n : Nat, σ' = [some (.ref sc), some (.ref d), some (.int (0 + (i : Nat))), some (.int n), y4, y5, y6, y7, y8, y9, y10, y11] ∧ 1 ≤ n ∧ n ≤ 40 ∧ Deck H' d c ∧ Tabs Ps H', ?_, ?_⟩
    · refine ⟨.ref d, rfl, d, c, 6, rfl, D1, by decide, by decide, fun v1 H2 a1 b1 D2 K2 => ⟨.ref d, rfl, d, c, 40, rfl, D2, by decide, by decide, fun v2 H3 a2 b2 D3 K3 => ⟨by show 2 ≤ sizeLine; decide, fun p np => ?_⟩⟩⟩
      refine ⟨.ref d, rfl, d, c, 8, rfl, D3.new np, by decide, by decide, fun v3 H4 a3 b3 D4 K4 => ⟨rfl, .inr ⟨_, rfl, p, _, _, _, rfl, rfl, SqL.of (K4 p _ (D3.ned np).1 (D3.ned np).2 upd_same), pick2 _ _ _, ?_⟩⟩⟩
      have T4 := ((((T1.kp K2 D1).kp K3 D2).same (same_new np)).kp K4 (D3.new np))
      by_cases hk : decide (V.int v3 = V.int 3) = true
      · rw [hk]
        refine ⟨1, v2, rfl, rfl, (1 + v2).toNat, ?_, by omega, by omega, D4, T4⟩
        rw [show (((1 + v2).toNat : Nat) : Int) = 1 + v2 from by omega]
        rfl
      · rw [Bool.not_eq_true] at hk
        rw [hk]
        refine ⟨1, v1, rfl, rfl, (1 + v1).toNat, ?_, by omega, by omega, D4, T4⟩
        rw [show (((1 + v1).toNat : Nat) : Int) = 1 + v1 from by omega]
        rfl
    clear D1 T1 H1
    rintro σ' H1 ⟨n, rfl, n1, n2, D1, T1⟩
    -- most
    refine ⟨fun σ' H' => ∃ mo : Int, σ' = [some (.ref sc), some (.ref d), some (.int (0 + (i : Nat))), some (.int n), some (.int mo), y5, y6, y7, y8, y9, y10, y11] ∧ 0 ≤ mo ∧ mo ≤ 120 ∧ Deck H' d c ∧ Tabs Ps H', ?_, ?_⟩
    · refine ⟨.ref d, rfl, d, c, 13, rfl, D1, by decide, by decide, fun v1 H2 a1 b1 D2 K2 => ⟨.ref d, rfl, d, c, 121, rfl, D2, by decide, by decide, fun v2 H3 a2 b2 D3 K3 => ⟨by show 2 ≤ sizeLine; decide, fun p np => ?_⟩⟩⟩
      refine ⟨.ref d, rfl, d, c, 8, rfl, D3.new np, by decide, by decide, fun v3 H4 a3 b3 D4 K4 => ⟨rfl, .inr ⟨_, rfl, p, _, _, _, rfl, rfl, SqL.of (K4 p _ (D3.ned np).1 (D3.ned np).2 upd_same), pick2 _ _ _, ?_⟩⟩⟩
      have T4 := ((((T1.kp K2 D1).kp K3 D2).same (same_new np)).kp K4 (D3.new np))
      by_cases hk : decide (V.int v3 = V.int 5) = true
      · rw [hk]
        exact ⟨v2, rfl, a2, by omega, D4, T4⟩
      · rw [Bool.not_eq_true] at hk
        rw [hk]
        exact ⟨v1, rfl, a1, by omega, D4, T4⟩
    clear D1 T1 H1
    rintro σ' H1 ⟨mo, rfl, mo1, mo2, D1, T1⟩
    -- the web
    refine ⟨.int n, rfl, .ref d, rfl, .int n, rfl, .int mo, rfl, d, c, n, mo, rfl, D1, by omega, by omega, mo1, mo2, fun r us ts H2 hr2 hp2 ok D2 K2 => ⟨by show 2 ≤ sizeLine; decide, fun wa nwa => ?_⟩⟩
    have s3 := same_new (o := .tup [.int n, .ref r]) nwa
    have hW : WebAt (upd H2 wa (.tup [.int n, .ref r])) (.ref wa) n ts := ⟨wa, r, us, rfl, upd_same, s3 _ _ hr2, ties_tk (Same.tk s3) hp2⟩
    have D3 := D2.new (o := .tup [.int n, .ref r]) nwa
    have T3 := (T1.kp K2 D1).same s3
    have few := ok.few
    clear D1 T1 H1 K2 s3 hr2 hp2 D2
    generalize upd H2 wa (.tup [.int n, .ref r]) = H3 at hW D3 T3
    obtain ⟨wa', r', us', e1, hwa, hwr, hp⟩ := id hW
    cases e1
    have hlen' : us'.length = ts.length := Paired.length hp
    -- side
    refine ⟨fun σ' H' => ∃ (S : Addr) (ss : List Int), σ' = [some (.ref sc), some (.ref d), some (.int (0 + (i : Nat))), some (.int n), some (.int mo), some (.ref wa), some (.ref S), y7, y8, y9, y10, y11] ∧ H' S = some (.lst (ss.map V.int)) ∧ S ≠ d ∧ S ≠ c ∧ ss.length = n ∧ WebAt H' (.ref wa) n ts ∧ Deck H' d c ∧ Tabs Ps H', ?_, ?_⟩
    · refine ⟨.int n, rfl, n, rfl, by omega, by omega, fun S nS => ?_⟩
      rw [Int.toNat_natCast]
      have hS := D3.ned nS
      refine lc_range (lo := 0) (n := n) (fun i H' => ∃ ss : List Int, H' S = some (.lst (ss.map V.int)) ∧ ss.length = i ∧ Deck H' d c ∧ Kp d c H3 H') ⟨[], upd_same, rfl, D3.new nS, Kp.new nS⟩ ?_ ?_
      · rintro j H4 hj ⟨ss, h4, l4, D4, K4⟩
        refine ⟨rfl, .ref d, rfl, d, c, 2, rfl, D4, by decide, by decide, fun v H5 a5 b5 D5 K5 => ?_⟩
        exact ⟨_, K5 _ _ hS.1 hS.2 h4, by rw [List.length_map]; exact small1000 (by omega), ss ++ [v], by rw [upd_same, List.map_append]; rfl, by rw [List.length_append, l4]; rfl, D5.mut hS.1 hS.2, (K4.trans K5).mut nS⟩
      · rintro H4 ⟨ss, h4, l4, D4, K4⟩
        exact ⟨S, ss, rfl, h4, hS.1, hS.2, l4, hW.tk (K4.tk D3), D4, T3.kp K4 D3⟩
    clear hW D3 T3 hwa hwr hp hlen' H3
    rintro σ' H3 ⟨S, ss, rfl, hS, hSd, hSc, ls, hW, D3, T3⟩
    obtain ⟨wa', r', us', e1, hwa, hwr, hp⟩ := id hW
    cases e1
    have lu : us'.length = ts.length := Paired.length hp
    refine ⟨.ref wa, rfl, wa, _, 1, .ref r', rfl, rfl, SqT.of hwa, rfl, .ref S, rfl, r', S, us', ts, n, ss, rfl, hwr, hp, ok, hS, by rw [ls], fun mr ks H4 s4 h4 l4 => ?_⟩
    have hS4 := s4 _ _ hS
    have hwa4 := s4 _ _ hwa
    have hwr4 := s4 _ _ hwr
    have hp4 := ties_tk (Same.tk s4) hp
    -- other
    refine ⟨fun σ' H' => ∃ (ot : Addr) (ks2 : List Int), σ' = [some (.ref sc), some (.ref d), some (.int (0 + (i : Nat))), some (.int n), some (.int mo), some (.ref wa), some (.ref S), y7, some (.ref mr), some (.ref ot), y10, y11] ∧ H' ot = some (.tup (ks2.map V.int)) ∧ ks2.length ≤ 120 ∧ Same H4 H', ?_, ?_⟩
    · refine ⟨.ref wa, rfl, wa, _, 1, .ref r', rfl, rfl, SqT.of hwa4, rfl, .int n, rfl, n, rfl, by omega, by omega, fun Z nZ => ?_⟩
      rw [Int.toNat_natCast]
      refine lc_range (lo := 0) (n := n) (fun i H' => ∃ zs : List Int, H' Z = some (.lst (zs.map V.int)) ∧ zs.length = i ∧ Same H4 H') ⟨[], upd_same, rfl, same_new nZ⟩ ?_ ?_
      · rintro j H5 hj ⟨zs, h5, l5, s5⟩
        obtain ⟨z, ez, _⟩ := getI (xs := ss.map V.int) (i := 0 + (j : Nat)) (by omega) (by rw [List.length_map]; omega)
        obtain ⟨zi, rfl⟩ : ∃ k, z = V.int k := by
          have := List.mem_of_getElem? (show (ss.map V.int)[(0 + (j : Int)).toNat]? = some z by obtain ⟨_, e1, e2⟩ := getI (xs := ss.map V.int) (i := 0 + (j : Nat)) (by omega) (by rw [List.length_map]; omega); rw [ez] at e1; cases e1; exact e2)
          obtain ⟨k, _, e⟩ := List.mem_map.mp this
          exact ⟨k, e.symm⟩
        refine ⟨rfl, .ref S, rfl, .int (0 + (j : Nat)), rfl, S, _, _, _, rfl, rfl, SqL.of (s5 _ _ hS4), ez, .int (0 + (j : Nat)), rfl, .int (0 + (i : Nat)), rfl, rfl, .inr ⟨_, rfl, _, _, rfl, rfl, _, 2, rfl, rfl, (show (0 : Int) < 2 by decide), ?_⟩⟩
        exact ⟨_, h5, by rw [List.length_map]; exact small1000 (by omega), zs ++ [_], by rw [upd_same, List.map_append]; rfl, by rw [List.length_append, l5]; rfl, Same.mut s5 nZ⟩
      · rintro H5 ⟨zs, h5, l5, s5⟩
        refine ⟨r', Z, us', ts, n, zs, rfl, s5 _ _ hwr4, ties_tk (Same.tk s5) hp4, ok, h5, by rw [l5], fun ot ks2 H6 s6 h6 l6 => ⟨ot, ks2, rfl, h6, l6, s5.trans s6⟩⟩
    rintro σ' H5 ⟨ot, ks2, rfl, h5, l5, s5⟩
    have s35 := s4.trans s5
    have hW5 := hW.tk (Same.tk s35)
    have D5 := D3.same s35
    have T5 := T3.same s35
    have hm5 := s5 _ _ h4
    have hwa5 := s5 _ _ hwa4
    have hwr5 := s5 _ _ hwr4
    clear hW D3 T3 hwa hwr hp hS hS4 hwa4 hwr4 h4 s4 s5 s35
    -- the things
    refine ⟨.ref mr, rfl, .ref ot, rfl, Nat.zero_le _, fun p6 n6 => ?_⟩
    have s6 := same_new (o := .tup []) n6
    refine ⟨by show 3 ≤ sizeLine; decide, fun A nA => ?_⟩
    have s7 := same_new (o := .lst [.ref mr, .ref ot, .ref p6]) nA
    have D6 := D5.same s6
    have oA : Own d c _ A (.lst [.ref mr, .ref ot, .ref p6]) := Own.new D6 nA
    have s57 := s6.trans s7
    have D7 := D6.same s7
    have T7 := T5.same s57
    have hW7 := hW5.tk (Same.tk s57)
    have om := Own.tup D7 (s57 _ _ hm5)
    have oo := Own.tup D7 (s57 _ _ h5)
    have o6 := Own.tup D7 (s7 _ _ (upd_same (H := H5) (a := p6) (o := .tup [])))
    have hwa7 := s57 _ _ hwa5
    have hwr7 := s57 _ _ hwr5
    generalize upd (upd H5 p6 (.tup [])) A (.lst [.ref mr, .ref ot, .ref p6]) = H7 at oA D7 T7 hW7 om oo o6 hwa7 hwr7
    refine ⟨6, rfl, by decide, by decide, fun Z nZ => ?_⟩
    have hZ := D7.ned nZ
    refine lc_range (lo := 0) (n := 6) (fun j H' => ∃ zs : List V, H' Z = some (.lst zs) ∧ zs.length = j ∧ Deck H' d c ∧ Kp d c H7 H' ∧ ∀ x ∈ zs, Stay d c RowK H' x) ⟨[], upd_same, rfl, D7.new nZ, Kp.new nZ, fun x hx => by simp at hx⟩ ?_ ?_
    · rintro j H8 hj ⟨zs, h8, l8, D8, K8, st8⟩
      have m8 := (K8.tk D7) _ _ om.2.2
      refine ⟨rfl, .ref d, rfl, .ref wa, rfl, wa, _, 1, .ref r', rfl, rfl, SqT.of ((K8.tk D7) _ _ hwa7), rfl, r', us', rfl, .inr (SqT.of ((K8.tk D7) _ _ hwr7)), .ref mr, rfl, d, c, mr, us'.length, ks, rfl, D8, by omega, by omega, m8, l4, fun v H9 D9 K9 hv => ?_⟩
      have h9 := K9 _ _ hZ.1 hZ.2 h8
      refine ⟨zs, h9, small1000 (by omega), zs ++ [v], upd_same, by rw [List.length_append, l8]; rfl, D9.mut hZ.1 hZ.2, (K8.trans K9).mut nZ, fun x hx => ?_⟩
      rcases List.mem_append.mp hx with z | z
      · exact stay_lst ((st8 x z).kp K9) h9 hZ.1 hZ.2
      · rw [List.mem_singleton.mp z]
        exact stay_lst hv h9 hZ.1 hZ.2
    · rintro H8 ⟨zs, h8, l8, D8, K8, st8⟩
      have T8 := T7.kp K8 D7
      have hW8 := hW7.tk (K8.tk D7)
      have oA8 := oA.kp K8
      refine ⟨A, Z, _, _, rfl, rfl, oA8.2.2, h8, by rw [l8]; show 9 ≤ sizeLine; decide, fun C nC => ?_⟩
      have ii : ∀ ms : List Int, ∀ x ∈ ms.map V.int, Stay d c Kn H8 x := fun ms x hx => by
        obtain ⟨k, _, rfl⟩ := List.mem_map.mp hx
        exact fun _ _ => trivial
      have all : ∀ x ∈ [V.ref mr, .ref ot, .ref p6] ++ zs, Stay d c RowK H8 x := fm_app (fm (st_row (om.kp K8) (ii ks) (by rw [List.length_map]; omega)) (fm (st_row (oo.kp K8) (ii ks2) (by rw [List.length_map]; omega)) (fm (st_row (o6.kp K8) fm_nil (by decide)) fm_nil))) st8
      have K9 := Kp.new (d := d) (c := c) (o := .lst ([.ref mr, .ref ot, .ref p6] ++ zs)) nC
      have all9 : ∀ x ∈ [V.ref mr, .ref ot, .ref p6] ++ zs, RowK _ x := fun x hx => ((all x hx).kp K9).now
      have T9 := T8.same (same_new (o := .lst ([.ref mr, .ref ot, .ref p6] ++ zs)) nC)
      have hW9 := hW8.tk (Same.tk (same_new (o := .lst ([.ref mr, .ref ot, .ref p6] ++ zs)) nC))
      have D9 := D8.new (o := .lst ([.ref mr, .ref ot, .ref p6] ++ zs)) nC
      have hC := (upd_same (H := H8) (a := C) (o := .lst ([.ref mr, .ref ot, .ref p6] ++ zs)))
      generalize upd H8 C (.lst ([.ref mr, .ref ot, .ref p6] ++ zs)) = H9 at all9 T9 hW9 D9 hC
      refine ⟨C, rfl, ⟨_, SqL.of hC⟩, ?_⟩
      refine for_list (xs := [V.ref mr, .ref ot, .ref p6] ++ zs) (fun j σ' H' => ∃ y10 y11 : Option V, σ' = [some (.ref sc), some (.ref d), some (.int (0 + (i : Nat))), some (.int n), some (.int mo), some (.ref wa), some (.ref S), y7, some (.ref mr), some (.ref ot), y10, y11] ∧ Kt Ps H9 H') ⟨_, _, rfl, Kt.refl T9⟩ (fun j σ' H' _ h => by
        obtain ⟨_, _, _, k⟩ := h
        exact SqL.of (k.lst T9 hC)) ?_ ?_
      · rintro j x σ' H10 ex ⟨y10, y11, rfl, k10⟩
        exact ⟨.ref wa, rfl, x, rfl, .ref wa, x, n, ts, rfl, hW9.tk (k10.tk T9), ok, (all9 x (List.mem_of_getElem? ex)).kt k10 T9, k10.tab, fun H11 k11 => ⟨_, rfl, _, _, rfl, k10.trans k11⟩⟩
      · rintro σ' H10 ⟨y10, y11, rfl, k10⟩
        exact ⟨_, _, _, _, _, _, _, _, _, _, rfl, k10.deck T9 D9, k10.tab⟩
end
/-! ### the end of a law whose defs hold generator expressions: their tables are empty behind the top -/
theorem walk_tabs {l : PySem.W.OpenLaw} {n k : Nat} {q : Program} {loose : List Str} {XP : (Str → Option Value) → Heap → Prop} {YP : World → Heap → Prop} {d : DefRec} {K : Params → PySem.W.Frag} {x : Str}
    (hn : l.most = some n) (hn2 : n ≤ sizeLine) (hdf : d.params.defaults = []) (hr : Room k callerA) (hY : ∀ (w : World) (h : Heap), YP w h → (K w.params).In h)
    (F : ∀ (w : World) (mg : Str → Option Value) (fa : Addr) (h : Heap), (K w.params).In h → h.Ns mainGlobals mg → mg d.name = some (.ref fa) →
      (∀ (y : Str) (fy : Addr), ((recsOf q).any fun e => e.name == y) = true → mg y = some (.ref fy) → LamX.OwnTab (K w.params) fy h) → LamX.LawAtS l w (K w.params) CX0 k n x mg fa h) :
    PySem.W.WalkO q loose XP YP l.row.toRowW d [] (fun f vs => PySem.call f vs) := by
  refine Att.attach_callB hn hdf fun w s₀ s₁ mg mb fa o pm cd doc a vs ns G Y ho hd hcd hmg hobj hints hlen hbits hg => ?_
  have KX := hY w _ Y
  have tabs : ∀ (y : Str) (fy : Addr), ((recsOf q).any fun e => e.name == y) = true → mg y = some (.ref fy) → LamX.OwnTab (K w.params) fy s₁.heap := fun y fy hy hm c P o1 fd1 e dd vs1 sl k1 k2 k3 k4 k5 => by
    obtain ⟨dL, hmem, hnm⟩ := List.any_eq_true.mp hy
    have hnm : dL.name = y := beq_iff_eq.mp hnm
    obtain ⟨a', o', fd', c', P', h1, h2, h3, h4, h5, h6⟩ := G.T.tab dL hmem
    rw [hnm, hm] at h1
    cases h1
    rw [KX _ _ k1] at h2
    cases h2
    rw [k2] at h3
    cases h3
    rw [k3] at h4
    cases h4
    obtain ⟨⟨oc, vc, e1, _, e3, e4⟩, hP⟩ := h6
    rw [KX _ _ k4] at e1
    cases e1
    cases e3
    rw [k5] at e4
    cases e4
    exact hP
  obtain ⟨fd, cs, sp, hT, nT, C, hb, hsp, hF⟩ := F w mg fa _ KX G.T.g hmg tabs
  exact LamX.law_callTs KX G.T.g G.T.b G.T.builtins G.T.nolimit hg hT nT C G.T.bmain hobj hints (Nat.le_trans hlen hn2) hr hF hb (fun H hH hS => hsp H a ns hlen hbits hH hS) fun H e s' z => z
/-- where a def stands, and where its code object does -/
structure At (K : PySem.W.Frag) (x : Str) (st : Stmt) (f : Addr) : Prop where
  ns : PySem.W.nsIn K mainGlobals x = some (some (.ref f))
  ex : ∃ (oc : Value) (od : Option Addr) (kV doc pm : Value) (an : Option Addr) (cdv ct : Value) (osl : Array (Option Value)),
    K.lookup f = some ⟨oc, od, .func (PySem.W.fnOf x x (defArgs st) (defBody st) (defScope st) .none kV doc pm an cdv ct), osl⟩ ∧ PySem.W.codeIn K cdv x = true
  kp : PySem.W.keepIn K (.ref f) = true
theorem at_mk {K : PySem.W.Frag} {x : Str} {st : Stmt} {f : Addr} {oc : Value} {od an : Option Addr} {osl : Array (Option Value)} {kV doc pm cdv ct : Value} (a : PySem.W.nsIn K mainGlobals x = some (some (.ref f)))
    (l : K.lookup f = some ⟨oc, od, .func (PySem.W.fnOf x x (defArgs st) (defBody st) (defScope st) .none kV doc pm an cdv ct), osl⟩) (c : PySem.W.codeIn K cdv x = true) (k : PySem.W.keepIn K (.ref f) = true) : At K x st f := ⟨a, ⟨oc, od, kV, doc, pm, an, cdv, ct, osl, l, c⟩, k⟩
theorem At.fn {K : PySem.W.Frag} {x : Str} {st : Stmt} {f : Addr} (h : At K x st f) : ∃ fd, Fun K x x st f fd := by
  obtain ⟨oc, od, kV, doc, pm, an, cdv, ct, osl, l, c⟩ := h.ex
  exact ⟨_, fun_mk l c h.kp⟩
structure AtC (K : PySem.W.Frag) (x : Str) (st : Stmt) (f c Pt : Addr) : Prop where
  ns : PySem.W.nsIn K mainGlobals x = some (some (.ref f))
  ex : ∃ (oc : Value) (od : Option Addr) (kV doc pm : Value) (an : Option Addr) (ct : Value) (osl : Array (Option Value)),
    K.lookup f = some ⟨oc, od, .func (PySem.W.fnOf x x (defArgs st) (defBody st) (defScope st) .none kV doc pm an (.ref c) ct), osl⟩ ∧ PySem.W.codeIn K (.ref c) x = true
  kp : PySem.W.keepIn K (.ref f) = true
  co : ∃ (dd : Option Addr) (vs : Array Value) (sl : Array (Option Value)) (file : Str) (tf : Tok) (flags : Int) (tg : Tok) (inF : Bool) (text : Int) (tt : Tok), K.lookup c = some ⟨.type "code", dd, .fields vs, sl⟩ ∧ vs[11]? = some (.ref Pt) ∧ vs.getD 11 .none = .ref Pt ∧ vs.getD 18 .none = .str file tf ∧
    vs.getD 7 .none = .int flags tg ∧ vs.getD 9 .none = .bool inF ∧ vs.getD 10 .none = .int text tt ∧ c ≠ Pt
  nP : K.lookup Pt = none
theorem atC_mk {K : PySem.W.Frag} {x : Str} {st : Stmt} {f c Pt : Addr} {oc : Value} {od an dd : Option Addr} {osl sl : Array (Option Value)} {kV doc pm ct : Value} {vs : Array Value} {file : Str} {tf tg tt : Tok} {flags text : Int} {inF : Bool} (a : PySem.W.nsIn K mainGlobals x = some (some (.ref f)))
    (l : K.lookup f = some ⟨oc, od, .func (PySem.W.fnOf x x (defArgs st) (defBody st) (defScope st) .none kV doc pm an (.ref c) ct), osl⟩) (cc : PySem.W.codeIn K (.ref c) x = true) (k : PySem.W.keepIn K (.ref f) = true)
    (lc : K.lookup c = some ⟨.type "code", dd, .fields vs, sl⟩) (v11 : vs[11]? = some (.ref Pt)) (w11 : vs.getD 11 .none = .ref Pt) (v18 : vs.getD 18 .none = .str file tf) (v7 : vs.getD 7 .none = .int flags tg) (v9 : vs.getD 9 .none = .bool inF) (v10 : vs.getD 10 .none = .int text tt) (ne : c ≠ Pt)
    (nP : K.lookup Pt = none) : AtC K x st f c Pt := ⟨a, ⟨oc, od, kV, doc, pm, an, ct, osl, l, cc⟩, k, ⟨dd, vs, sl, file, tf, flags, tg, inF, text, tt, lc, v11, w11, v18, v7, v9, v10, ne⟩, nP⟩
theorem AtC.fn {K : PySem.W.Frag} {x : Str} {st : Stmt} {f c Pt : Addr} (h : AtC K x st f c Pt) : ∃ fd, FunC K x x st f fd c := by
  obtain ⟨oc, od, kV, doc, pm, an, ct, osl, l, cc⟩ := h.ex
  exact ⟨_, ⟨oc, od, kV, doc, pm, an, ct, osl, rfl, l, cc⟩, h.kp⟩
theorem AtC.hd {K : PySem.W.Frag} {h : Heap} {x : Str} {st : Stmt} {f c Pt : Addr} (a : AtC K x st f c Pt) (X : K.In h) : PySem.W.CodeHd h c Pt := by
  obtain ⟨dd, vs, sl, file, tf, flags, tg, inF, text, tt, lc, v11, w11, v18, v7, v9, v10, ne⟩ := a.co
  exact ⟨_, vs, file, tf, flags, tg, inF, text, tt, X _ _ lc, rfl, rfl, v11, w11, v18, v7, v9, v10, ne⟩
theorem AtC.tab {K : PySem.W.Frag} {h : Heap} {x : Str} {st : Stmt} {f c Pt : Addr} (a : AtC K x st f c Pt) (o : LamX.OwnTab K f h) : h.get? Pt = some { cls := .none, data := .fields #[] } := by
  obtain ⟨oc, od, kV, doc, pm, an, ct, osl, l, cc⟩ := a.ex
  obtain ⟨dd, vs, sl, file, tf, flags, tg, inF, text, tt, lc, v11, w11, v18, v7, v9, v10, ne⟩ := a.co
  exact o c Pt _ _ _ _ _ _ l rfl rfl lc v11
section
variable {P : Program} {w : World} {K : PySem.W.Frag} {mg : Str → Option Value} {base : Heap}
theorem Df.of {x : Str} {st : Stmt} {f : Addr} {fd : FuncData} {k : Nat} {ps : List Str} {sp : Sp} (g : mg x = some (.ref f)) (F : Fun K x x st f fd) (G : FnOk P w K mg base CX0 k f fd ps sp)
    (h : ∀ (kV doc pm : Value) (an : Option Addr) (cdv ct : Value) (us : List Value), us.length = ps.length → bindArgs (PySem.W.fnOf x x (defArgs st) (defBody st) (defScope st) .none kV doc pm an cdv ct) ⟨us, []⟩ = pure (ps.zip us)) : Df P w K mg base k x ps sp :=
  ⟨f, fd, G, g, F.kp, F.binds h⟩
end
/-! ### what the top has written -/
section
variable {P : Program} {w : World} {K : PySem.W.Frag} {mg : Str → Option Value} {base : Heap}
theorem law_at {l : PySem.W.OpenLaw} {w : World} {K : PySem.W.Frag} {h : Heap} {mg : Str → Option Value} {fa f0 f1 f2 f3 f4 f5 f6 f7 f8 f9 f10 f11 f12 f13 f14 f15 f16 f17 f18 c4 P4 : Addr} (X : K.In h) (G : h.Ns mainGlobals mg) (hfa : mg "law" = some (.ref fa))
    (t4 : ∀ (fy : Addr), mg "are_rising_below" = some (.ref fy) → LamX.OwnTab K fy h)
    (a0 : At K "neighbours" s_neighbours f0)
    (a1 : At K "sides_from" s_sides_from f1)
    (a2 : At K "is_whole" s_is_whole f2)
    (a3 : At K "is_whole_below" s_is_whole_below f3)
    (a4 : AtC K "are_rising_below" s_are_rising_below f4 c4 P4)
    (a5 : At K "breaks" s_breaks f5)
    (a6 : At K "broken_by" s_broken_by f6)
    (a7 : At K "sides_of" s_sides_of f7)
    (a8 : At K "without" s_without f8)
    (a9 : At K "mend_holds" s_mend_holds f9)
    (a10 : At K "_law_deck" s_l_deck f10)
    (a11 : At K "_law_take" s_l_take f11)
    (a12 : At K "_law_ties" s_l_ties f12)
    (a13 : At K "_law_sides" s_l_sides f13)
    (a14 : At K "_law_broken" s_l_broken f14)
    (a15 : At K "_law_bent" s_l_bent f15)
    (a16 : At K "_law_is_mend" s_l_is_mend f16)
    (a17 : At K "_law_right" s_l_right f17)
    (a18 : At K "law" s_law f18)
    (z0 : PySem.W.nsIn K mainGlobals "len" = some none)
    (z1 : PySem.W.nsIn K mainGlobals "int" = some none)
    (z2 : PySem.W.nsIn K mainGlobals "bool" = some none)
    (z3 : PySem.W.nsIn K mainGlobals "str" = some none)
    (z4 : PySem.W.nsIn K mainGlobals "list" = some none)
    (z5 : PySem.W.nsIn K mainGlobals "tuple" = some none)
    (z6 : PySem.W.nsIn K mainGlobals "range" = some none)
    (z7 : PySem.W.nsIn K mainGlobals "isinstance" = some none)
    (z8 : PySem.W.nsIn K mainGlobals "sum" = some none)
    (z9 : PySem.W.nsIn K mainGlobals "all" = some none)
    (z10 : PySem.W.nsIn K mainGlobals "dict" = some none)
    (z11 : PySem.W.nsIn K mainGlobals "enumerate" = some none)
    (z12 : PySem.W.nsIn K mainGlobals "set" = some none)
    (z13 : PySem.W.nsIn K mainGlobals "sorted" = some none)
    (z14 : PySem.W.nsIn K mainGlobals "zip" = some none)
     :
    LamX.LawAtS l w K CX0 7 63 "_law_script" mg fa h := by
  have efa := hfa.symm.trans (PySem.W.mg_of X G a18.ns)
  cases efa
  have M : Free mg := ⟨PySem.W.mg_none_of X G z0, PySem.W.mg_none_of X G z1, PySem.W.mg_none_of X G z2, PySem.W.mg_none_of X G z3, PySem.W.mg_none_of X G z4, PySem.W.mg_none_of X G z5, PySem.W.mg_none_of X G z6, PySem.W.mg_none_of X G z7, PySem.W.mg_none_of X G z8⟩
  have m_all := PySem.W.mg_none_of X G z9
  have m_dict := PySem.W.mg_none_of X G z10
  have m_enumerate := PySem.W.mg_none_of X G z11
  have m_set := PySem.W.mg_none_of X G z12
  have m_sorted := PySem.W.mg_none_of X G z13
  have m_zip := PySem.W.mg_none_of X G z14
  obtain ⟨d0, F0⟩ := a0.fn
  obtain ⟨d1, F1⟩ := a1.fn
  obtain ⟨d2, F2⟩ := a2.fn
  obtain ⟨d3, F3⟩ := a3.fn
  obtain ⟨d4, F4⟩ := a4.fn
  obtain ⟨d5, F5⟩ := a5.fn
  obtain ⟨d6, F6⟩ := a6.fn
  obtain ⟨d7, F7⟩ := a7.fn
  obtain ⟨d8, F8⟩ := a8.fn
  obtain ⟨d9, F9⟩ := a9.fn
  obtain ⟨d10, F10⟩ := a10.fn
  obtain ⟨d11, F11⟩ := a11.fn
  obtain ⟨d12, F12⟩ := a12.fn
  obtain ⟨d13, F13⟩ := a13.fn
  obtain ⟨d14, F14⟩ := a14.fn
  obtain ⟨d15, F15⟩ := a15.fn
  obtain ⟨d16, F16⟩ := a16.fn
  obtain ⟨d17, F17⟩ := a17.fn
  obtain ⟨d18, F18⟩ := a18.fn
  have g0 := PySem.W.mg_of X G a0.ns
  have g1 := PySem.W.mg_of X G a1.ns
  have g2 := PySem.W.mg_of X G a2.ns
  have g3 := PySem.W.mg_of X G a3.ns
  have g4 := PySem.W.mg_of X G a4.ns
  have g5 := PySem.W.mg_of X G a5.ns
  have g6 := PySem.W.mg_of X G a6.ns
  have g7 := PySem.W.mg_of X G a7.ns
  have g8 := PySem.W.mg_of X G a8.ns
  have g9 := PySem.W.mg_of X G a9.ns
  have g10 := PySem.W.mg_of X G a10.ns
  have g11 := PySem.W.mg_of X G a11.ns
  have g12 := PySem.W.mg_of X G a12.ns
  have g13 := PySem.W.mg_of X G a13.ns
  have g14 := PySem.W.mg_of X G a14.ns
  have g15 := PySem.W.mg_of X G a15.ns
  have g16 := PySem.W.mg_of X G a16.ns
  have g17 := PySem.W.mg_of X G a17.ns
  have hb0 : ∀ (s : Shared) (u : Value), BindsTo s d18 ⟨[u], []⟩ [("_law_script", u)] := by
    obtain ⟨oc, od, kV, doc, pm, an, cdv, ct, osl, rfl, _⟩ := F18.ex
    exact fun s u => .of_eq rfl
  refine ⟨d18, [(c4, P4)], (spLaw K [P4]), (List.forall_mem_cons.mpr ⟨a4.tab (t4 _ g4), (fun p hp => by simp at hp)⟩), (List.forall_mem_cons.mpr ⟨a4.nP, (fun p hp => by simp at hp)⟩), (List.forall_mem_cons.mpr ⟨a4.hd X, (fun p hp => by simp at hp)⟩), hb0, fun H a ns hl _ hT hS => ⟨a, ns, rfl, hS, hl, (List.forall_mem_cons.mpr ⟨⟨#[], hT (c4, P4) (by simp), by trivial⟩, (fun p hp => by simp at hp)⟩), fun _ => rfl⟩, fun base KB GB TB => ?_⟩
  have tb4 := TB (c4, P4) (by simp)
  have D0 : Df l.prog w K mg base 1 "neighbours" ["web"] spNeighbours := .of g0 F0 (ok_neighbours F0 M) fun _ _ _ _ _ _ us hl => match us, hl with | [_], _ => rfl
  have D1 : Df l.prog w K mg base 1 "sides_from" ["start", "around"] spSidesFrom := .of g1 F1 (ok_sides_from F1 M) fun _ _ _ _ _ _ us hl => match us, hl with | [_, _], _ => rfl
  have D2 : Df l.prog w K mg base 1 "is_whole" ["thing"] spWhole := .of g2 F2 (ok_is_whole F2 M) fun _ _ _ _ _ _ us hl => match us, hl with | [_], _ => rfl
  have D3 : Df l.prog w K mg base 2 "is_whole_below" ["limit", "thing"] spBelow := .of g3 F3 (ok_is_whole_below F3 D2) fun _ _ _ _ _ _ us hl => match us, hl with | [_, _], _ => rfl
  have D4 : Df l.prog w K mg base 4 "are_rising_below" ["limit", "thing"] (spRising [P4]) := .of g4 F4.fn (ok_are_rising_below F4 ⟨tb4.code, tb4.bm, tb4.gP⟩ (show P4 ∈ [P4] by simp) M m_all m_zip D3) fun _ _ _ _ _ _ us hl => match us, hl with | [_, _], _ => rfl
  have D5 : Df l.prog w K mg base 1 "breaks" ["sides", "tie"] spBreaks := .of g5 F5 (ok_breaks F5 ) fun _ _ _ _ _ _ us hl => match us, hl with | [_, _], _ => rfl
  have D6 : Df l.prog w K mg base 2 "broken_by" ["web", "sides"] spBroken := .of g6 F6 (ok_broken_by F6 M m_enumerate D5) fun _ _ _ _ _ _ us hl => match us, hl with | [_, _], _ => rfl
  have D7 : Df l.prog w K mg base 3 "sides_of" ["web"] spFixed := .of g7 F7 (ok_sides_of F7 M D0 D1 D6) fun _ _ _ _ _ _ us hl => match us, hl with | [_], _ => rfl
  have D8 : Df l.prog w K mg base 1 "without" ["web", "numbers"] spWithout := .of g8 F8 (ok_without F8 M m_enumerate) fun _ _ _ _ _ _ us hl => match us, hl with | [_, _], _ => rfl
  have D9 : Df l.prog w K mg base 5 "mend_holds" ["web", "thing"] (spMendHolds [P4]) := .of g9 F9 (ok_mend_holds F9 M D8 D7 D4) fun _ _ _ _ _ _ us hl => match us, hl with | [_, _], _ => rfl
  have D10 : Df l.prog w K mg base 1 "_law_deck" ["_law_script"] (spDeck K) := .of g10 F10 (ok_l_deck F10 M) fun _ _ _ _ _ _ us hl => match us, hl with | [_], _ => rfl
  have D11 : Df l.prog w K mg base 1 "_law_take" ["_law_deck_here", "_law_many"] spDraw := .of g11 F11 (ok_l_take F11 M) fun _ _ _ _ _ _ us hl => match us, hl with | [_, _], _ => rfl
  have D12 : Df l.prog w K mg base 2 "_law_ties" ["_law_deck_here", "_law_many", "_law_most"] spLTies := .of g12 F12 (ok_l_ties F12 M D11) fun _ _ _ _ _ _ us hl => match us, hl with | [_, _, _], _ => rfl
  have D13 : Df l.prog w K mg base 1 "_law_sides" ["_law_many", "_law_ties_here"] spLSides := .of g13 F13 (ok_l_sides F13 M) fun _ _ _ _ _ _ us hl => match us, hl with | [_, _], _ => rfl
  have D14 : Df l.prog w K mg base 1 "_law_broken" ["_law_ties_here", "_law_side"] spLBroken := .of g14 F14 (ok_l_broken F14 M m_enumerate) fun _ _ _ _ _ _ us hl => match us, hl with | [_, _], _ => rfl
  have D15 : Df l.prog w K mg base 2 "_law_bent" ["_law_deck_here", "_law_many", "_law_row"] spLBent := .of g15 F15 (ok_l_bent F15 M m_dict D11) fun _ _ _ _ _ _ us hl => match us, hl with | [_, _, _], _ => rfl
  have D16 : Df l.prog w K mg base 2 "_law_is_mend" ["_law_web", "_law_thing"] spLIsMend := .of g16 F16 (ok_l_is_mend F16 M m_enumerate m_set m_sorted D13) fun _ _ _ _ _ _ us hl => match us, hl with | [_, _], _ => rfl
  have D17 : Df l.prog w K mg base 6 "_law_right" ["_law_web", "_law_thing"] (spRight [P4]) := .of g17 F17 (ok_l_right F17 M D16 D9) fun _ _ _ _ _ _ us hl => match us, hl with | [_, _], _ => rfl
  exact ok_law F18 M D10 D11 D12 D14 D15 D17
end
end FF
open PySem PySem.W PyProof.Rows
set_option maxRecDepth 100000 in
set_option maxHeartbeats 0 in
theorem PySem.Challenge.cw_friendfoe_k36_what_is_a_mend_holds : PySem.Challenge.rw_friendfoe_k36_what_is_a_mend.Holds := by
  w_on; o_law; k_head; (case hw => w_witness2)
  k_fill
  refine FF.walk_tabs (l := PySem.Challenge.rw_friendfoe_k36_what_is_a_mend) (n := 63) (k := 7) (x := "_law_script") rfl (by decide) rfl ⟨rfl, by decide, by decide⟩ (fun w h Y => PySem.W.kIn_of Y) ?F
  case F =>
    intro w mg fa h KX G hmg tabs
    refine' FF.law_at KX G hmg (fun fy => tabs "are_rising_below" fy ?r4) ?a0 ?a1 ?a2 ?a3 ?a4 ?a5 ?a6 ?a7 ?a8 ?a9 ?a10 ?a11 ?a12 ?a13 ?a14 ?a15 ?a16 ?a17 ?a18 ?z0 ?z1 ?z2 ?z3 ?z4 ?z5 ?z6 ?z7 ?z8 ?z9 ?z10 ?z11 ?z12 ?z13 ?z14 
    (case r4 => rfl)
    (case a0 => refine' FF.at_mk ?p1 ?p2 ?p3 ?p4; (case p1 => k_is); (case p2 => k_is); (case p3 => k_is); (case p4 => k_is))
    (case a1 => refine' FF.at_mk ?p1 ?p2 ?p3 ?p4; (case p1 => k_is); (case p2 => k_is); (case p3 => k_is); (case p4 => k_is))
    (case a2 => refine' FF.at_mk ?p1 ?p2 ?p3 ?p4; (case p1 => k_is); (case p2 => k_is); (case p3 => k_is); (case p4 => k_is))
    (case a3 => refine' FF.at_mk ?p1 ?p2 ?p3 ?p4; (case p1 => k_is); (case p2 => k_is); (case p3 => k_is); (case p4 => k_is))
    (case a4 => refine' FF.atC_mk ?p1 ?p2 ?p3 ?p4 ?p5 ?p6 ?p7 ?p8 ?p9 ?p10 ?p11 ?p12 ?p13; (case p1 => k_is); (case p2 => k_is); (case p3 => k_is); (case p4 => k_is); (case p5 => k_is); (case p6 => rfl); (case p7 => rfl); (case p8 => rfl); (case p9 => rfl); (case p10 => rfl); (case p11 => rfl); (case p12 => decide); (case p13 => rfl))
    (case a5 => refine' FF.at_mk ?p1 ?p2 ?p3 ?p4; (case p1 => k_is); (case p2 => k_is); (case p3 => k_is); (case p4 => k_is))
    (case a6 => refine' FF.at_mk ?p1 ?p2 ?p3 ?p4; (case p1 => k_is); (case p2 => k_is); (case p3 => k_is); (case p4 => k_is))
    (case a7 => refine' FF.at_mk ?p1 ?p2 ?p3 ?p4; (case p1 => k_is); (case p2 => k_is); (case p3 => k_is); (case p4 => k_is))
    (case a8 => refine' FF.at_mk ?p1 ?p2 ?p3 ?p4; (case p1 => k_is); (case p2 => k_is); (case p3 => k_is); (case p4 => k_is))
    (case a9 => refine' FF.at_mk ?p1 ?p2 ?p3 ?p4; (case p1 => k_is); (case p2 => k_is); (case p3 => k_is); (case p4 => k_is))
    (case a10 => refine' FF.at_mk ?p1 ?p2 ?p3 ?p4; (case p1 => k_is); (case p2 => k_is); (case p3 => k_is); (case p4 => k_is))
    (case a11 => refine' FF.at_mk ?p1 ?p2 ?p3 ?p4; (case p1 => k_is); (case p2 => k_is); (case p3 => k_is); (case p4 => k_is))
    (case a12 => refine' FF.at_mk ?p1 ?p2 ?p3 ?p4; (case p1 => k_is); (case p2 => k_is); (case p3 => k_is); (case p4 => k_is))
    (case a13 => refine' FF.at_mk ?p1 ?p2 ?p3 ?p4; (case p1 => k_is); (case p2 => k_is); (case p3 => k_is); (case p4 => k_is))
    (case a14 => refine' FF.at_mk ?p1 ?p2 ?p3 ?p4; (case p1 => k_is); (case p2 => k_is); (case p3 => k_is); (case p4 => k_is))
    (case a15 => refine' FF.at_mk ?p1 ?p2 ?p3 ?p4; (case p1 => k_is); (case p2 => k_is); (case p3 => k_is); (case p4 => k_is))
    (case a16 => refine' FF.at_mk ?p1 ?p2 ?p3 ?p4; (case p1 => k_is); (case p2 => k_is); (case p3 => k_is); (case p4 => k_is))
    (case a17 => refine' FF.at_mk ?p1 ?p2 ?p3 ?p4; (case p1 => k_is); (case p2 => k_is); (case p3 => k_is); (case p4 => k_is))
    (case a18 => refine' FF.at_mk ?p1 ?p2 ?p3 ?p4; (case p1 => k_is); (case p2 => k_is); (case p3 => k_is); (case p4 => k_is))
    (case z0 => k_is)
    (case z1 => k_is)
    (case z2 => k_is)
    (case z3 => k_is)
    (case z4 => k_is)
    (case z5 => k_is)
    (case z6 => k_is)
    (case z7 => k_is)
    (case z8 => k_is)
    (case z9 => k_is)
    (case z10 => k_is)
    (case z11 => k_is)
    (case z12 => k_is)
    (case z13 => k_is)
    (case z14 => k_is)
