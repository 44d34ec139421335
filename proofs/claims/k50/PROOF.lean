import PyProof.Rows.All
import Wide.All
import OpenK.AllK
import Wide.FinOn
import HandS.ForMost
import HandS.IsInst
import HandS.TupAny
import HandS.TupLe
import HandS.Wide
import HandS.Style
import HandS.SortInts
import HandS.Conv
import HandS.More
import HandS.EndTab
import HandS.EndOwn
import HandS.AnyAll
import HandS.GenOver
import HandS.Evl
import HandS.Walk
import HandS.NoneIn
import HandS.Zip
import HandS.Flt
import HandS.DictComp
import HandS.SetFor
import KE.GoesEnum
import HandS.TupMul
import HandS.Strs
import KE.DataMinMax
import HandS.ForExc
import HandS.ExcIs
import HandS.SetKeys
import KE.DatumOrd
import HandS.Remove
import HandS.SortRule
import KE.KDictCopyH
import KE.KDictSum
import PySem.Challenge.RW_friendfoe_k50_great_papers
set_option Elab.async false
set_option linter.all false
set_option maxRecDepth 100000
namespace FF
open PySem PySem.Spec PyProof.Rows L2
/-! ### heaps: what is kept -/
/-- all that is tracked, but at d and c, is as it was -/
def Kp (d c : Addr) (H H' : Hp) : Prop := ∀ b o, b ≠ d → b ≠ c → H b = some o → H' b = some o
theorem Kp.refl {d c : Addr} {H : Hp} : Kp d c H H := fun _ _ _ _ h => h
theorem Kp.trans {d c : Addr} {H H1 H2 : Hp} (a : Kp d c H H1) (b : Kp d c H1 H2) : Kp d c H H2 := fun x o h1 h2 h => b x o h1 h2 (a x o h1 h2 h)
theorem Kp.at_d {d c : Addr} {H : Hp} {o : HO} : Kp d c H (upd H d o) := fun b u h1 _ h => by rw [upd_ne h1]; exact h
theorem Kp.at_c {d c : Addr} {H : Hp} {o : HO} : Kp d c H (upd H c o) := fun b u _ h2 h => by rw [upd_ne h2]; exact h
theorem Kp.new {d c p : Addr} {H : Hp} {o : HO} (hp : H p = none) : Kp d c H (upd H p o) := fun b u _ _ h => by rw [upd_ne (ne_of_none h hp)]; exact h
theorem same_new {H : Hp} {p : Addr} {o : HO} (h : H p = none) : Same H (upd H p o) := fun b x e => by
  rw [upd_ne (ne_of_none e h)]
  exact e
theorem Same.kp {d c : Addr} {H H' : Hp} (s : Same H H') : Kp d c H H' := fun b o _ _ h => s b o h
/-! ### defs as they are called -/
def Df (P : Program) (w : World) (K : PySem.W.Frag) (mg : Str → Option Value) (base : Heap) (k : Nat) (x : Str) (ps : List Str) (sp : Sp) : Prop :=
  ∃ (f : Addr) (fd : FuncData), FnOk P w K mg base CX0 k f fd ps sp ∧ mg x = some (.ref f) ∧ PySem.W.keepIn K (.ref f) = true ∧ Binds K fd ps []
/-- built-in names that the module has not taken -/
structure Free (mg : Str → Option Value) : Prop where
  len : mg "len" = none
  int : mg "int" = none
  bool : mg "bool" = none
  str : mg "str" = none
  list : mg "list" = none
  tuple : mg "tuple" = none
  range : mg "range" = none
  isinstance : mg "isinstance" = none
  sum : mg "sum" = none
theorem mod_rng {a m : Int} (h : 0 < m) : 0 ≤ a % m ∧ a % m < m := ⟨Int.emod_nonneg a (by omega), Int.emod_lt_of_pos a h⟩
/-! ### the feed: a dict -/
def dkv (c : Addr) (n l st : Int) : List (Key × V) := [(Sum.inr "cells", V.ref c), (Sum.inr "at", .int n), (Sum.inr "left", .int l), (Sum.inr "seed", .int st)]
structure Deck (H : Hp) (d c : Addr) : Prop where
  ex : ∃ (cells : List Int) (st : Int) (n : Int × Int), H d = some (.dK (dkv c n.1 n.2 st)) ∧ H c = some (.lst (cells.map V.int)) ∧ cells.length ≤ 63 ∧ 0 ≤ n.1 ∧ n.1 ≤ cells.length ∧ 0 ≤ st ∧ st < 4294967296
theorem Deck.ne {H : Hp} {d c : Addr} (h : Deck H d c) : d ≠ c := by
  obtain ⟨cells, st, n, h1, h2, _⟩ := h
  exact ne_of h1 h2 (by intro z; cases z)
theorem Deck.same {H H' : Hp} {d c : Addr} (h : Deck H d c) (s : Same H H') : Deck H' d c := by
  obtain ⟨cells, st, n, h1, h2, h3⟩ := h
  exact ⟨cells, st, n, s _ _ h1, s _ _ h2, h3⟩
theorem dkv_at (c : Addr) (n l st : Int) : valV (dkv c n l st) (Sum.inr "at") = some (.int n) := rfl
theorem dkv_cells (c : Addr) (n l st : Int) : valV (dkv c n l st) (Sum.inr "cells") = some (.ref c) := rfl
theorem dkv_left (c : Addr) (n l st : Int) : valV (dkv c n l st) (Sum.inr "left") = some (.int l) := rfl
theorem dkv_seed (c : Addr) (n l st : Int) : valV (dkv c n l st) (Sum.inr "seed") = some (.int st) := rfl
theorem dkv_putAt (c : Addr) (n l st m : Int) : putK (dkv c n l st) (Sum.inr "at") (.int m) = dkv c m l st := rfl
theorem dkv_putLeft (c : Addr) (n l st m : Int) : putK (dkv c n l st) (Sum.inr "left") (.int m) = dkv c n m st := rfl
theorem dkv_putSeed (c : Addr) (n l st m : Int) : putK (dkv c n l st) (Sum.inr "seed") (.int m) = dkv c n l m := rfl
theorem dkv_new (c : Addr) (n l st : Int) : mergeK [] (dkv c n l st) = dkv c n l st := rfl
/-- a draw below m: any number from 0 on, less than m -/
def spDraw : Sp := fun vs H Q _ => ∃ (d c : Addr) (m : Int), vs = [.ref d, .int m] ∧ Deck H d c ∧ 0 < m ∧ m.natAbs < 2 ^ 120 ∧
  ∀ v H', 0 ≤ v → v < m → Deck H' d c → Kp d c H H' → Q (.int v) H'
/-! ### a generator expression's own frame -/
/-- the context of a generator's turns: its frame cenv stands over the def's -/
abbrev gX (X : Cx) (s : Shared) (H : Hp) (A' : Around) (cenv : Env) (fp : List Addr) : Cx :=
  { X with A := A', s_0 := s, H_0 := H, env := cenv, outer := X.stack, stack := cenv :: X.stack, ex := fp, fn := fun _ => false, pn := [], xe := fun _ _ => False }
/-- what is asked of the expression's own scope -/
structure GnOk (scope : Scope) : Prop where
  co : scope.isCoroutine = false
  nocell : ∀ y ∈ scope.names, y.2 ≠ .cell
  dot : scope.names.lookup (".0" : Str) = some NameKind.local
section
variable {X : Cx} {pins : List (Addr × Obj)} {σ : L2.St} {H : Hp} {s : Shared}
theorem gen_start {scope : Scope} {own : List (Str × Nat)} {fp : List Addr} {A' : Around} {code : Value} {m0 : Str → Option Value} {h5 : Heap} {g5 : Array GenState} {t5 : Nat} {a : Addr} {go : Obj}
    (I : Inv X pins σ H s) (ok : BlkOk X.N X.env.scope scope own) (gk : GnOk scope) (hN : X.N.Nodup) (hfp : ∀ b ∈ fp, FpOk X pins H b ∧ b < s.heap.objs.size)
    (hA : A'.handled = none) (hF : A'.frames = some (genEnv scope (cloFrom X.env.cells scope.names []) s.heap.objs.size code builtinsNs X.env :: X.stack))
    (kp : ∀ b o, s.heap.get? b = some o → h5.get? b = some o) (hn : h5.Ns s.heap.objs.size m0) (hm0 : ∀ x, x ≠ (".0" : Str) → m0 x = none) (hdN : (".0" : Str) ∉ X.N) (hb5 : AllBare g5)
    (ha : s.heap.objs.size < a) (hgo : h5.get? a = some go) (hgd : ∀ v, go.data ≠ .cell v) :
    Inv (gX X s H A' (genEnv scope (cloFrom X.env.cells scope.names []) s.heap.objs.size code builtinsNs X.env) fp) [(a, go)] (wipe σ (own.map (·.2))) H { s with heap := h5, gens := g5, toks := t5 } := by
  have hfree : ∀ y ∈ scope.names, y.2 = .free → ∃ c, X.env.cells.lookup y.1 = some c := fun y hy e =>
    (ok.free y hy e).elim (fun k => I.ok.has _ (.inl k)) fun k => I.ok.has _ (.inr k)
  have cm : ∀ {y c}, (y, c) ∈ cloFrom X.env.cells scope.names [] → X.env.cells.lookup y = some c ∧ c < s.heap.objs.size := fun {y c} q => by
    rcases cloFrom_mem q with q | ⟨h1, e1⟩
    · cases q
    · obtain ⟨c1, hc1⟩ := hfree _ h1 rfl
      rw [hc1] at e1
      cases e1
      obtain ⟨w1, z1⟩ := I.cell _ _ hc1
      exact ⟨hc1, z1.lt⟩
  have cl : ∀ {y c}, (cloFrom X.env.cells scope.names []).lookup y = some c → X.env.cells.lookup y = some c ∧ c < s.heap.objs.size := fun {y c} e => cm (PySem.mem_of_lookup e)
  have look : ∀ {y}, scope.names.lookup y = some .free → ∃ c, (cloFrom X.env.cells scope.names []).lookup y = some c := fun {y} e =>
    mem_lookup (cloFrom_has (cells := X.env.cells) (acc := []) (PySem.mem_of_lookup e))
  generalize hce : genEnv scope (cloFrom X.env.cells scope.names []) s.heap.objs.size code builtinsNs X.env = ce at hF
  have cL : ce.locals = s.heap.objs.size := by rw [← hce]; rfl
  have cC : ce.cells = cloFrom X.env.cells scope.names [] := by rw [← hce]; rfl
  have cS : ce.scope = scope := by rw [← hce]; rfl
  have cF : ce.frame = some ce.locals := by rw [← hce]; rfl
  have okG : (gX X s H A' ce fp).Ok := by
    refine ⟨I.ok.mod, ?_, ?_, ?_, ?_, fun y z c e1 e2 => ?_, fun y hy => ?_, fun y c z e => ?_, fun _ => hA, hF, .inr ⟨rfl, cF⟩, fun b hb => ⟨?_, fun y c e z => ?_⟩, I.bs, Nat.le_trans I.ok.bsz I.sz, fun b o e hb => ?_, fun b hb z => ?_, I.stack, I.stkFree⟩
    · show ce.scope.kind = _
      rw [cS]
      exact ok.kind
    · show ce.globals = _
      rw [← hce]
      exact I.ok.glob
    · show ce.builtins = _
      rw [← hce]
      rfl
    · show s.heap.objs.size ≤ ce.locals
      rw [cL]
      exact Nat.le_refl _
    · have e1 : ce.cells.lookup y = some c := e1
      have e2 : ce.cells.lookup z = some c := e2
      rw [cC] at e1 e2
      exact I.ok.inj y z c (cl e1).1 (cl e2).1
    · show ∃ c, ce.cells.lookup y = some c
      rw [cC]
      have hy : scope.names.lookup y = some .cell ∨ scope.names.lookup y = some .free := by
        have hy' : ce.scope.names.lookup y = some .cell ∨ ce.scope.names.lookup y = some .free := hy
        rw [cS] at hy'
        exact hy'
      rcases hy with k | k
      · exact absurd rfl (gk.nocell _ (PySem.mem_of_lookup k))
      · exact look k
    · exact absurd (show false = true from z) Bool.false_ne_true
    · show b ≠ ce.locals
      rw [cL]
      exact Nat.ne_of_lt (hfp b hb).2
    · have e : ce.cells.lookup y = some c := e
      rw [cC] at e
      exact (hfp b hb).1.2.2.2.2.1 y c (cl e).1 z
    · rcases (hfp b hb).1.2.2.2.1 with q | q
      · exact I.ok.noex b o e q
      · exact absurd (Nat.lt_of_lt_of_le (Heap.lt_size e) (Nat.le_trans I.ok.bsz q)) (Nat.lt_irrefl _)
    · rcases List.mem_cons.mp (I.stkSub b z) with q | q
      · exact (hfp b hb).1.2.1 q
      · exact (hfp b hb).1.2.2.1 q
  refine ⟨okG, rfl, hb5, Un.kept kp, ⟨m0, ?_, fun i y av e1 e2 e3 => ?_⟩, fun y c e => ?_, ?_, fun y c e => ?_, fun p hp => ?_, I.hok.kept kp, by rw [wipe_length]; exact I.len⟩
  · show Heap.Ns _ ce.locals _
    rw [cL]
    exact hn
  · obtain ⟨e2, hne⟩ := wipe_some e2
    have e3 : Vis ce.scope y := e3
    rw [cS] at e3
    have hfr : scope.names.lookup y = some .free := by
      have no : ∀ k, scope.names.lookup y = some k → ¬ (k = .local ∨ k = .cell) := fun k hk hh => by
        rcases ok.own _ (PySem.mem_of_lookup hk) hh with q | q
        · obtain ⟨p, hp, hpy⟩ := List.mem_map.mp q
          have e4 := ok.ix p hp
          have hpy : p.1 = y := hpy
          rw [hpy] at e4
          exact hne (List.mem_map.mpr ⟨p, hp, nodup_ix hN e4 e1⟩)
        · exact q (List.mem_of_getElem? e1)
      rcases e3 with e3 | e3 | e3
      · exact absurd (.inl rfl) (no _ e3)
      · exact absurd (.inr rfl) (no _ e3)
      · exact e3
    obtain ⟨m, _, hl⟩ := I.loc
    have hvis : Vis X.env.scope y := (ok.free _ (PySem.mem_of_lookup hfr) rfl).elim (fun k => .inr (.inl k)) fun k => .inr (.inr k)
    obtain ⟨w1, r1, q1⟩ := hl i y av e1 e2 hvis
    obtain ⟨c, hc⟩ := look hfr
    refine ⟨w1, r1, .inr ⟨.inr (by show ce.scope.names.lookup y = _; rw [cS]; exact hfr), c, by show ce.cells.lookup y = _; rw [cC]; exact hc, ?_⟩⟩
    rcases q1 with ⟨k, _⟩ | ⟨_, c', e', z⟩
    · have k : X.env.scope.names.lookup y = some .local := k
      rcases ok.free _ (PySem.mem_of_lookup hfr) rfl with k' | k' <;> (have k' : X.env.scope.names.lookup y = _ := k'; rw [k'] at k; cases k)
    · rw [(cl hc).1] at e'
      cases e'
      exact z.keeps kp
  · have e : ce.cells.lookup y = some c := e
    rw [cC] at e
    obtain ⟨w1, z1⟩ := I.cell y c (cl e).1
    exact ⟨w1, z1.keeps kp⟩
  · show H ce.locals = none
    rw [cL]
    exact I.hok.fresh (Nat.le_refl _)
  · have e : ce.cells.lookup y = some c := e
    rw [cC] at e
    exact I.freeC y c (cl e).1
  · have hp : p = (a, go) := by simpa using hp
    subst hp
    refine ⟨hgo, I.hok.fresh (Nat.le_of_lt ha), ?_, fun z => ?_, hgd⟩
    · show a ≠ ce.locals
      rw [cL]
      exact Nat.ne_of_gt ha
    · have z : a ∈ frs X.stack := z
      obtain ⟨_, o, ho, _⟩ := I.stack.mem z
      exact absurd (Nat.lt_trans (Heap.lt_size ho) ha) (Nat.lt_irrefl _)
end
/-! ### all(..), any(..) of a generator, told by what each turn does -/
/-- between a yield and the next turn -/
structure Rs (s s' : Shared) : Prop where
  heap : s'.heap = s.heap
  os : s'.os = s.os
  bare : AllBare s'.gens
  size : s.gens.size ≤ s'.gens.size
theorem inv_gens {X : Cx} {pins : List (Addr × Obj)} {σ : L2.St} {H : Hp} {s s' : Shared} (I : Inv X pins σ H s) (h1 : s'.heap = s.heap) (h2 : s'.os = s.os) (h3 : AllBare s'.gens) : Inv X pins σ H s' := by
  obtain ⟨hh, g, d, t, o⟩ := s'
  have e1 : hh = s.heap := h1
  have e2 : o = s.os := h2
  subst e1 e2
  exact ⟨I.ok, I.os, h3, I.base, I.loc, I.cell, I.free, I.freeC, I.pin, I.hok, I.len⟩
theorem Rs.inv {X : Cx} {pins : List (Addr × Obj)} {σ : L2.St} {H : Hp} {s s' : Shared} (r : Rs s s') (I : Inv X pins σ H s) : Inv X pins σ H s' := by
  obtain ⟨h1, h2, h3, _⟩ := r
  obtain ⟨hh, g, d, t, o⟩ := s'
  have e1 : hh = s.heap := h1
  have e2 : o = s.os := h2
  subst e1 e2
  exact ⟨I.ok, I.os, h3, I.base, I.loc, I.cell, I.free, I.freeC, I.pin, I.hok, I.len⟩
theorem bare_set {gens : Array GenState} (h : AllBare gens) {g : Nat} {x : GenState} (hx : x.bare = true) : AllBare (gens.setIfInBounds g x) := fun y hy => by
  obtain ⟨i, hi, rfl⟩ := Array.mem_iff_getElem.mp hy
  rw [Array.size_setIfInBounds] at hi
  rw [Array.getElem_setIfInBounds hi]
  split
  · exact hx
  · exact h _ (Array.getElem_mem hi)
theorem Rs.set {s : Shared} (hb : AllBare s.gens) {g : Nat} {x : GenState} (hx : x.bare = true) : Rs s (s.setGen g x) :=
  ⟨rfl, rfl, bare_set hb hx, Nat.le_of_eq (GenW.setGen_size s g x).symm⟩
theorem Rs.trans {s s1 s2 : Shared} (a : Rs s s1) (b : Rs s1 s2) : Rs s s2 := ⟨b.heap.trans a.heap, b.os.trans a.os, b.bare, Nat.le_trans a.size b.size⟩
/-- the protocol of a generator whose items are truths: T b: what holds where b comes out -/
def gY (gi : Nat) (a : Addr) (stop : Bool) (Fin : Shared → Prop) : Protocol := fun n s₀ v s kap =>
  ∃ b, v = .bool b ∧ s.heap.IsGen a gi ∧ s.heap.NoLimit ∧ AllBare s.gens ∧ gi < s.gens.size ∧ (b = stop → Fin s) ∧ (b ≠ stop → ∀ s', Rs s s' → kap (.send .none) s')
def gR (End : Shared → Prop) : Nat → Shared → Shared → Prop := fun _ _ s => AllBare s.gens ∧ End s
/-- the generator waits -/
def Waits (prog : Program) (w : World) (A : Around) (gi : Nat) (a : Addr) (stop : Bool) (End Fin : Shared → Prop) (n : Nat) (s : Shared) : Prop :=
  s.heap.IsGen a gi ∧ s.heap.NoLimit ∧ AllBare s.gens ∧ ∃ gs, s.gens[gi]? = some gs ∧
    ∀ s', Rs s s' → gs.Goes (model prog w) A.in1 (fun n s₀ r s₁ => r = .ok .next ∧ gR End n s₀ s₁) (gY gi a stop Fin) n (.send .none) s'
section
variable {prog : Program} {w : World} {A : Around} {gi : Nat} {a : Addr} {stop : Bool} {End Fin : Shared → Prop}
theorem waits_next {n : Nat} {s : Shared} {Q : Option Value → Shared → Prop} {E : Value → Shared → Prop} (hh : A.handled = none) (hroom : A.depth < recursionLimit)
    (hE : ∀ s s' : Shared, End s → s'.os = s.os → AllBare s'.gens → (∀ b o, s.heap.get? b = some o → s'.heap.get? b = some o) → End s')
    (hF : ∀ s s' : Shared, Fin s → s'.os = s.os → AllBare s'.gens → (∀ b o, s.heap.get? b = some o → s'.heap.get? b = some o) → Fin s')
    (W : Waits prog w A gi a stop End Fin n s) (hN : ∀ s', End s' → Q none s') (hS : ∀ s', Fin s' → Q (some (.bool stop)) s')
    (hG : ∀ s' m, m < n → Waits prog w A gi a stop End Fin m s' → Q (some (.bool (!stop))) s') : wpAny (model prog w) A (pyNext (.ref a)) Q E s := by
  obtain ⟨hg, hl, hb, gs, hgs, hgo⟩ := W
  refine wpAny_pyNext_genexpQ (P := gR End) (Y := gY gi a stop Fin) hh hl hroom hg hgs (hgo _ (Rs.set hb rfl)) (fun v s₁ gs' hb' hv => ?_) fun s₁ hp h' hk => ?_
  · obtain ⟨b, rfl, g1, l1, b1, z1, f1, k1⟩ := hv
    by_cases e : b = stop
    · subst e
      exact hS _ (hF _ _ (f1 rfl) rfl (bare_set b1 hb') fun _ _ q => q)
    · have eb : b = !stop := by cases b <;> cases stop <;> first | rfl | exact absurd rfl e
      subst eb
      cases n with
      | zero => exact False.elim (k1 e s₁ ⟨rfl, rfl, b1, Nat.le_refl _⟩)
      | succ m =>
        refine hG _ m (Nat.lt_succ_self m) ⟨g1, l1, bare_set b1 hb', gs', ?_, fun s' r => k1 e s' ((Rs.set b1 hb').trans r)⟩
        show (s₁.gens.setIfInBounds gi gs')[gi]? = some gs'
        rw [Array.getElem?_setIfInBounds_self_of_lt z1]
  · obtain ⟨b1, e1⟩ := hp
    exact hN _ (hE _ _ e1 rfl (bare_set b1 rfl) fun b o q => hk b o q)
end
section
variable {prog : Program} {w : World} {A : Around} {gi : Nat} {a : Addr} {End Fin : Shared → Prop}
theorem all_loop (hh : A.handled = none) (hroom : A.depth < recursionLimit)
    (hE : ∀ s s' : Shared, End s → s'.os = s.os → AllBare s'.gens → (∀ b o, s.heap.get? b = some o → s'.heap.get? b = some o) → End s')
    (hF : ∀ s s' : Shared, Fin s → s'.os = s.os → AllBare s'.gens → (∀ b o, s.heap.get? b = some o → s'.heap.get? b = some o) → Fin s') :
    ∀ (n : Nat) (s : Shared), Waits prog w A.in1 gi a false End Fin n s →
      codeAny (model prog w) A (.builtin "all.loop" ⟨[.ref a], []⟩) (fun r s' => (r = .ok (.ret (.bool true)) ∧ End s') ∨ (r = .ok (.ret (.bool false)) ∧ Fin s')) s := by
  intro n
  induction n using Nat.strongRecOn with
  | ind n ih =>
    intro s W
    refine codeAny_builtin PySem.F.entry_all_loop ?_
    rw [Around.under_plainId PySem.F.plain_all_loop]
    show wpAny (model prog w) A.in1 (pyNext (.ref a) >>= _) _ _ s
    refine wpAny_bind (waits_next (A := A.in1) hh hroom hE hF W (fun s' e => ?_) (fun s' e => ?_) fun s' m hm W' => ?_)
    · exact wpAny_bind (wpAny_rule (wpAny_pure (.inl ⟨rfl, e⟩)))
    · refine wpAny_bind (wpAny_holding (wpAny_truthy_bool ?_))
      refine wpAny_bind (wpAny_letGo ?_)
      exact wpAny_bind (wpAny_rule (wpAny_pure (.inr ⟨rfl, e⟩)))
    · refine wpAny_bind (wpAny_holding (wpAny_truthy_bool ?_))
      refine wpAny_bind (wpAny_letGo ?_)
      exact wpAny_pure ⟨plainId_quiet PySem.F.plain_all_loop _, ih m hm s' W'⟩
end
/-! ### all(elt for target in iter) -/
/-- the reading: W by the turn and a measure; P: the def's table, which may grow -/
def tAll (P : Addr) (wi : TI) (g : TG) (te : TE) (vs : List Nat) : TE := fun σ H Q => wi σ H fun J H1 => GxR.TabG H1 P ∧ ∃ W : Nat → Nat → Hp → Prop, (∀ H2, GxR.Tabbed P H1 H2 → ∃ m, W 0 m H2) ∧ ∀ i m H, W i m H →
  (J.stop i H ∧ Q (.bl true) H) ∨ (J.go i H ∧ ∃ Nx : Hp → Prop, (∀ H', Nx H' → ∃ m', m' < m ∧ W (i + 1) m' H') ∧ ∀ x H', J.yld i H x H' → g x (wipe σ vs) H' fun σ2 H2 => wipe σ2 vs = wipe σ vs ∧
    te σ2 H2 fun y H3 => ∃ b, y = .bl b ∧ if b = true then Nx H3 else Q (.bl false) H3)
section
variable {X : Cx}
theorem pe_all {k : Nat} {c P : Addr} {elt tg iter : Expr} {scope : Scope} {own : List (Str × Nat)} {p pos gpos : Pos} {wi : TI} {g : TG} {te : TE}
    (hr : Room (k + 1) X.A) (TB : GxR.TabB X.base X.mg c P) (hcode : X.env.code = .ref c) (hc : X.calm = true) (hN : X.N.Nodup) (hG : Gl X "all") (hM : X.mg "all" = none) (hi : PI X tg iter wi) (ok : BlkOk X.N X.env.scope scope own) (gk : GnOk scope) (hdN : (".0" : Str) ∉ X.N)
    (hg : ∀ (s : Shared) (H : Hp) (A' : Around) (C : Addr) (cl : List (Str × Addr)) (code : Value) (fp : List Addr), PG (gX X s H A' (genEnv scope cl C code builtinsNs X.env) fp) tg g)
    (he : ∀ (s : Shared) (H : Hp) (A' : Around) (C : Addr) (cl : List (Str × Addr)) (code : Value) (fp : List Addr), Room k A' → PE (gX X s H A' (genEnv scope cl C code builtinsNs X.env) fp) elt te)
    (hs : ∀ v, genFold iter X.env v = pure v := by intro _; rfl)
    (hst : starEach [.GeneratorExp elt [⟨tg, iter, [], 0⟩] scope gpos] X.env = (false, eval (.GeneratorExp elt [⟨tg, iter, [], 0⟩] scope gpos) X.env) :: starEach [] X.env := by rfl) :
    PE X (.Call (.Name "all" p) [.GeneratorExp elt [⟨tg, iter, [], 0⟩] scope gpos] [] pos) (tAll P wi g te (own.map (·.2))) := by
  refine ⟨fun pins s σ H Q I h => ?_⟩
  have hh : X.A.handled = none := hr.hd
  refine wpAny_Call_Name_kw (ld_blt I hG hM PyProof.Rows.boot_all ?_)
  refine PyProof.Rows.callWith_builtin1 ?_ hst (by rfl)
  rw [hst]
  show wpAny _ _ (spliced ((false, eval (.GeneratorExp elt [⟨tg, iter, [], 0⟩] scope gpos) X.env) :: backTo pos (starEach [] X.env))) _ _ s
  have hfree : ∀ y ∈ scope.names, y.2 = .free → ∃ c, X.env.cells.lookup y.1 = some c := fun y hy e =>
    (ok.free y hy e).elim (fun k => I.ok.has _ (.inl k)) fun k => I.ok.has _ (.inr k)
  refine Calls.spliced_cons (wpAny_GeneratorExp_make gk.co (closure_ok hfree) gk.nocell gk.dot ok.kind (by have := hr.dp; omega) (thn (hi.run pins s σ H _ I h) fun xv s1 hx => thn hx fun itv s2 h2 => ?_) hs)
  obtain ⟨it, fp, tn, J, H2, e, I2, T, st2, f2, ⟨ps, hP, ht⟩, W, w0, turn⟩ := h2
  subst e
  refine ⟨I2.nolimit, ?_⟩
  have hPs : s2.heap.get? P = some { cls := .none, data := .fields ps } := I2.hok P _ hP
  have cd : PySem.W.CodeHd s2.heap c P := TB.code.keeps fun b u e => I2.bk b u e
  have sz2 : ∀ b ∈ fp, b < s2.heap.objs.size := fun b hb => by
    obtain ⟨o, e, _⟩ := T.obj _ _ st2 b hb
    exact Heap.lt_size e
  have nfP : ∀ b ∈ fp, b ≠ P := fun b hb z => by
    have q := (f2 b hb).1
    rw [z, hP] at q
    cases q
  -- behind the table
  have cont : ∀ (code : Value) (h3 : Heap) (tk : Nat) (more : Array Value), s2.heap.objs.size ≤ h3.objs.size → (∀ b o, b ≠ P → s2.heap.get? b = some o → h3.get? b = some o) → h3.get? P = some { cls := .none, data := .fields (ps ++ more) } → TriplesOk (ps ++ more).toList →
      wpAny (model X.prog X.w) X.A (builtinsFor X.env.globals X.env.builtins) (fun bi s4 => ∀ h', h'.Ns s4.heap.objs.size (fun y => if y = ".0" then some (.ref it) else none) → Heap.SameBut s4.heap.objs.size (s4.heap.push { cls := .type "frame", data := .dict #[] }) h' →
        wpAny (model X.prog X.w) X.A (spliced (backTo pos (starEach [] X.env))) (fun vs s5 => wpAny (model X.prog X.w) X.A (call (.builtin "all") (.ref h'.objs.size :: vs)) (EP X pins σ Q) X.xe s5) X.xe { s4 with
            gens := s4.gens.push (.fresh (.compStart (.GeneratorExp elt [⟨tg, iter, [], 0⟩] scope gpos) 0 (.ref it) .none (genEnv scope (cloFrom X.env.cells scope.names []) s4.heap.objs.size code bi X.env))), toks := s4.toks + 1 + 1 + 1,
            heap := h'.push { cls := .type "generator", data := .fields #[.int s4.gens.size 0, .str "<genexpr>" (s4.toks + 1), .str (X.env.qual ++ "<genexpr>") (s4.toks + 1 + 1)] } }) X.xe { s2 with heap := h3, toks := tk } := by
    intro code h3 tk more hle3 hk3 hP3 ht3
    have I3 : Inv X pins σ (upd H2 P (.tbl (ps ++ more))) { s2 with heap := h3, gens := s2.gens, drawn := s2.drawn, toks := tk } := GxR.inv_tab I2 hP hk3 hP3 I2.bare
    have tab3 : GxR.Tabbed P H2 (upd H2 P (.tbl (ps ++ more))) := ⟨⟨_, upd_same, ht3⟩, fun b hb => upd_ne hb⟩
    have st3 : tn 0 h3 := T.keep _ _ _ st2 fun b hb o e => hk3 b o (nfP b hb) e
    have f3 : ∀ b ∈ fp, FpOk X pins (upd H2 P (.tbl (ps ++ more))) b := fun b hb => ⟨by rw [upd_ne (nfP b hb)]; exact (f2 b hb).1, (f2 b hb).2⟩
    generalize upd H2 P (.tbl (ps ++ more)) = H3 at I3 tab3 f3
    obtain ⟨m0, hw0⟩ := w0 H3 tab3
    have sz3 : ∀ b ∈ fp, b < h3.objs.size := fun b hb => Nat.lt_of_lt_of_le (sz2 b hb) hle3
    have hs3 : ({ s2 with heap := h3, gens := s2.gens, drawn := s2.drawn, toks := tk } : Shared) = { s2 with heap := h3, toks := tk } := rfl
    rw [hs3] at I3
    generalize hsh : ({ s2 with heap := h3, toks := tk } : Shared) = s3 at I3 ⊢
    have eh : h3 = s3.heap := by rw [← hsh]
    rw [eh] at st3 sz3
    clear hsh hs3 eh hP3 hk3 hle3
    obtain ⟨bm, ob, e1, e2, e3, e4, e5, e6, e7, e8⟩ := TB.bm
    refine wpAny_builtinsFor (m := X.mg) (by rw [I3.ok.glob]; exact I3.mod.glob.keeps I3.bk) e1 e2 (I3.bk _ _ e5) e6 e7 e8 ?_
    intro h' hn' hs'
    refine Calls.spliced_nil ?_
    have hsz : h'.objs.size = s3.heap.objs.size + 1 := by rw [hs'.1, Heap.size_push]
    generalize hgo : ({ cls := .type "generator", data := .fields #[.int s3.gens.size 0, .str "<genexpr>" (s3.toks + 1), .str (X.env.qual ++ "<genexpr>") (s3.toks + 1 + 1)] } : Obj) = go
    have kp5 : ∀ b o, s3.heap.get? b = some o → (h'.push go).get? b = some o := fun b o e => Heap.get?_push_of_some _ (hs'.extBut b o (Nat.ne_of_lt (Heap.lt_size e)) (Heap.get?_push_of_some _ e))
    generalize hce : genEnv scope (cloFrom X.env.cells scope.names []) s3.heap.objs.size code builtinsNs X.env = ce
    have hhA : (X.A.in1.in1.over (.compLoop (.GeneratorExp elt [⟨tg, iter, [], 0⟩] scope gpos) 0 (.ref it) .none ce) []).handled = none := hh
    have hFr : (X.A.in1.in1.over (.compLoop (.GeneratorExp elt [⟨tg, iter, [], 0⟩] scope gpos) 0 (.ref it) .none ce) []).frames = some (ce :: X.stack) := by
      show pushEnvs [ce] (pushEnvs [] X.A.frames) = _
      rw [I3.ok.frames]
      rfl
    have hRm : Room k (X.A.in1.in1.over (.compLoop (.GeneratorExp elt [⟨tg, iter, [], 0⟩] scope gpos) 0 (.ref it) .none ce) []) := by
      have z1 := hr.dp
      have z2 := hr.un
      refine ⟨hhA, ?_, ?_⟩
      · show X.A.depth + 0 + 1 + 3 * k + 5 < recursionLimit
        omega
      · show X.A.units + 1 + 1 + 0 + 3 + 16 * k + 200 < cLine
        omega
    generalize hAg : X.A.in1.in1.over (.compLoop (.GeneratorExp elt [⟨tg, iter, [], 0⟩] scope gpos) 0 (.ref it) .none ce) [] = Ag at hhA hFr hRm
    have I5 : Inv (gX X s3 H3 Ag ce fp) [(h'.objs.size, go)] (wipe σ (own.map (·.2))) H3 { s3 with heap := h'.push go, gens := s3.gens.push (.fresh (.compStart (.GeneratorExp elt [⟨tg, iter, [], 0⟩] scope gpos) 0 (.ref it) .none ce)), toks := s3.toks + 1 + 1 + 1 } := by
      have q := gen_start (code := code) (A' := Ag) (h5 := h'.push go) (g5 := s3.gens.push (.fresh (.compStart (.GeneratorExp elt [⟨tg, iter, [], 0⟩] scope gpos) 0 (.ref it) .none ce))) (t5 := s3.toks + 1 + 1 + 1) (go := go) I3 ok gk hN (fun b hb => ⟨f3 b hb, sz3 b hb⟩) hhA (by rw [hce]; exact hFr) kp5 (hn'.push _)
        (fun x hx => if_neg hx) hdN (I3.bare.push rfl) (a := h'.objs.size) (by omega) (Heap.get?_push_size _ (by rw [← hgo]; rfl)) (by rw [← hgo]; intro v z; cases z)
      rw [hce] at q
      exact q
    have st5 : tn 0 (h'.push go) := T.keep _ _ _ st3 fun b _ o e => kp5 b o e
    have nfp : ∀ b ∈ fp, H3 b = none := fun b hb => (f3 b hb).1
    have pg := hg s3 H3 Ag s3.heap.objs.size (cloFrom X.env.cells scope.names []) code fp
    have pe := he s3 H3 Ag s3.heap.objs.size (cloFrom X.env.cells scope.names []) code fp hRm
    rw [hce] at pg pe
    have cCo : ce.scope.isCoroutine = false := by rw [← hce]; exact gk.co
    clear hn' hs' kp5 w0 hce
    -- back in the def's context
    have back : ∀ {σ' : L2.St} {H' : Hp} {s' : Shared} {pl : List (Addr × Obj)}, Inv (gX X s3 H3 Ag ce fp) pl σ' H' s' → Inv X pins σ H' s' := fun {σ' H' s' pl} J => I3.call' (ch := fp) J.os J.base J.hok J.bare fun b hb =>
      ⟨(f3 b hb).2.2.2.1, (f3 b hb).2.1, (f3 b hb).2.2.2.2.1, (f3 b hb).2.2.2.2.2⟩
    have stat : ∀ {σ' : L2.St} {H' : Hp} {s' : Shared}, Inv (gX X s3 H3 Ag ce fp) [(h'.objs.size, go)] σ' H' s' → (∀ b ∈ fp, H' b = none) → ∀ b ∈ fp, FpOk (gX X s3 H3 Ag ce fp) [(h'.objs.size, go)] H' b := fun {σ' H' s'} J hn b hb =>
      ⟨hn b hb, (J.ok.exf b hb).1, J.ok.exfs b hb, .inl hb, fun x c e => (J.ok.exf b hb).2 x c e, fun p hp => by
        have hp : p = (h'.objs.size, go) := by simpa using hp
        rw [hp]
        exact Nat.ne_of_gt (Nat.lt_trans (sz3 b hb) (by rw [hsz]; exact Nat.lt_succ_self _))⟩
    have gen : ∀ {σ' : L2.St} {H' : Hp} {s' : Shared} {pl : List (Addr × Obj)}, Inv (gX X s3 H3 Ag ce fp) ([(h'.objs.size, go)] ++ pl) σ' H' s' → s'.heap.IsGen h'.objs.size s3.gens.size := fun {σ' H' s' pl} J => by
      have q := (J.pin (h'.objs.size, go) (by simp)).1
      exact ⟨go, _, _, q, by rw [← hgo], by rw [← hgo], by rw [← hgo]⟩
    -- the turns
    have loop : ∀ (m n i : Nat) (s₀ s : Shared) (H : Hp), m < n → W i m H → Inv (gX X s3 H3 Ag ce fp) [(h'.objs.size, go)] (wipe σ (own.map (·.2))) H s → tn i s.heap → (∀ b ∈ fp, H b = none) → s3.gens.size + 1 ≤ s.gens.size →
        Seg (model X.prog X.w) X.A.in1.in1 (fun n s₀ r s₁ => r = .ok .next ∧ gR (fun s => ∃ H', Inv X pins σ H' s ∧ Q (.bl true) H') n s₀ s₁) (gY s3.gens.size h'.objs.size false fun s => ∃ H', Inv X pins σ H' s ∧ Q (.bl false) H') n s₀
          (.compLoop (.GeneratorExp elt [⟨tg, iter, [], 0⟩] scope gpos) 0 (.ref it) .none ce) ((model X.prog X.w).den (.compLoop (.GeneratorExp elt [⟨tg, iter, [], 0⟩] scope gpos) 0 (.ref it) .none ce)) [] s := by
      intro m
      induction m using Nat.strongRecOn with
      | ind m ih =>
        intro n i s₀ s H hmn w J st nf hz
        show Seg (model X.prog X.w) _ _ _ n s₀ _ ((compTurn (.GeneratorExp elt [⟨tg, iter, [], 0⟩] scope gpos) 0 (.ref it) .none ce).onRaise (leaving ce)) [] s
        rw [compTurn_gen]
        rw [Sem.onRaise_eq_wrap]
        refine seg_bind_wrap (wpAny_standAt (seg_bind_wrap ?_))
        rw [hAg]
        rcases turn i m H w with ⟨stp, qq⟩ | ⟨go', Nx, hNx, step⟩
        · refine thnF (T.done (gX X s3 H3 Ag ce fp) rfl rfl rfl hc i _ s _ H (fun _ _ => False) J (stat J nf) st stp) fun r s6 ⟨hr6, J6⟩ => ?_
          subst hr6
          exact seg_end (.ok .next) ⟨rfl, J6.bare, H, back J6, qq⟩
        · refine GenW.wpAny_gsz hz (thnF (T.item (gX X s3 H3 Ag ce fp) rfl rfl rfl hc i _ s _ H (fun _ _ => False) J (stat J nf) st go') fun r s6 ⟨u, hr6, h6⟩ hz6 => ?_)
          subst hr6
          refine seg_bind_wrap ?_
          rw [hAg]
          refine GenW.wpAny_gsz hz6 (thnF h6 fun _ s7 ⟨x, H7, J7, r7, y7, st7, n7⟩ hz7 => ?_)
          have J7' := J7.pinned (stat J7 n7) (T.obj _ _ st7)
          refine seg_bind_wrap ?_
          rw [hAg]
          refine GenW.wpAny_gsz hz7 (thnF (pg.run _ s7 _ H7 x u _ J7' r7 (step x H7 y7)) fun _ s8 ⟨σ8, H8, J8, hw8, q8⟩ hz8 => ?_)
          simp only [List.forIn_nil]
          refine seg_bind_wrap (wpAny_pure ?_)
          simp only [if_true]
          have hy : ∀ v, yieldOut ce v = yieldValue v := fun v => by simp only [yieldOut, cCo, Bool.false_eq_true, if_false]
          simp only [hy]
          rw [Sem.bind_eq_wrap', Sem.bind_eq_wrap']
          rw [Sem.wrap_wrap, Sem.wrap_wrap]
          refine seg_wrap ?_
          rw [hAg]
          refine GenW.wpAny_gsz hz8 (thnF (pe.run _ s8 σ8 H8 _ J8 q8) fun z s9 ⟨yv, H9, J9, r9, b, eb, qb⟩ hz9 => ?_)
          subst eb
          obtain rfl : z = Value.bool b := r9
          obtain ⟨n', rfl⟩ : ∃ n', n = n' + 1 := ⟨n - 1, by omega⟩
          refine seg_at (seg_yield rfl rfl rfl ⟨b, rfl, gen J9, J9.nolimit, J9.bare, hz9, fun e => ?_, fun e s' r => ?_⟩)
          · subst e
            exact ⟨H9, back J9, qb⟩
          · have e : b = true := by
              cases b with
              | true => rfl
              | false => exact absurd rfl e
            subst e
            rw [if_pos rfl] at qb
            obtain ⟨m', hm', w'⟩ := hNx H9 qb
            have pin' : ∀ b ∈ fp, ∀ o, s7.heap.get? b = some o → s9.heap.get? b = some o ∧ H9 b = none := fun b hb o e =>
              let z := J9.pin (b, o) (List.mem_append_right _ (List.mem_append_right _ (mem_pinsAt hb e)))
              ⟨z.1, z.2.1⟩
            have hl : (wipe σ (own.map (·.2))).length = σ8.length := by rw [← hw8, wipe_length]
            have K9 : Inv (gX X s3 H3 Ag ce fp) [(h'.objs.size, go)] (wipe σ (own.map (·.2))) H9 s9 := J9.unpinned.weak hl fun j v e => by
              rw [← hw8] at e
              exact (wipe_some e).1
            refine seg_again rfl (ih m' hm' n' (i + 1) s' s' H9 (by omega) w' (r.inv K9) ?_ (fun b hb => ?_) (Nat.le_trans hz9 r.size))
            · rw [r.heap]
              exact T.keep _ _ _ st7 fun b hb o e => (pin' b hb o e).1
            · obtain ⟨o, e, _⟩ := T.obj _ _ st7 b hb
              exact (pin' b hb o e).2
    have mono : ∀ (b : Bool) (s s' : Shared), (∃ H', Inv X pins σ H' s ∧ Q (.bl b) H') → s'.os = s.os → AllBare s'.gens → (∀ b o, s.heap.get? b = some o → s'.heap.get? b = some o) → ∃ H', Inv X pins σ H' s' ∧ Q (.bl b) H' := fun b s s' ⟨H', J, q⟩ h1 h2 h3 =>
      ⟨H', inv_gens (J.kept (t' := s'.toks) h3) rfl h1 h2, q⟩
    generalize hs5 : ({ s3 with heap := h'.push go, gens := s3.gens.push (.fresh (.compStart (.GeneratorExp elt [⟨tg, iter, [], 0⟩] scope gpos) 0 (.ref it) .none ce)), toks := s3.toks + 1 + 1 + 1 } : Shared) = s5 at I5
    have hg5 : s5.gens[s3.gens.size]? = some (.fresh (.compStart (.GeneratorExp elt [⟨tg, iter, [], 0⟩] scope gpos) 0 (.ref it) .none ce)) := by
      rw [← hs5]
      exact Array.getElem?_push_size ..
    have hz5 : s3.gens.size + 1 ≤ s5.gens.size := by
      rw [← hs5]
      exact Nat.le_of_eq (Array.size_push ..).symm
    have ht5 : tn 0 s5.heap := by rw [← hs5]; exact st5
    have wt : Waits X.prog X.w X.A.in1 s3.gens.size h'.objs.size false (fun s => ∃ H', Inv X pins σ H' s ∧ Q (.bl true) H') (fun s => ∃ H', Inv X pins σ H' s ∧ Q (.bl false) H') (m0 + 1) s5 := by
      refine ⟨gen (pl := []) I5, I5.nolimit, I5.bare, _, hg5, fun s' r => ⟨rfl, ?_⟩⟩
      have lp := loop m0 (m0 + 1) 0 s' s' H3 (Nat.lt_succ_self _) hw0 (r.inv I5) (by rw [r.heap]; exact ht5) nfp (Nat.le_trans hz5 r.size)
      show Seg (model X.prog X.w) _ _ _ _ s' _ ((compStart (.GeneratorExp elt [⟨tg, iter, [], 0⟩] scope gpos) 0 (.ref it) .none ce).onRaise (leaving ce)) [] s'
      unfold compStart
      rw [Sem.onRaise_eq_wrap]
      show Seg (model X.prog X.w) _ _ _ _ s' _ ((ask >>= _).wrap _ _ _ _) [] s'
      refine seg_bind_wrap (wpAny_askSetting ?_)
      have ts : tn 0 s'.heap := by rw [r.heap]; exact ht5
      split
      · exact seg_again rfl lp
      · first
          | exact seg_bind_wrap (wpAny_rule (seg_bind_wrap (wpAny_standAt (seg_bind_wrap (T.self _ 0 s' _ _ ts (seg_again rfl lp))))))
          | (refine seg_bind_wrap (wpAny_rule ?_); show Seg (model X.prog X.w) _ _ _ _ s' _ ((standAt iter.pos >>= _).wrap _ _ _ _) [] s'; exact seg_bind_wrap (wpAny_standAt (seg_bind_wrap (T.self _ 0 s' _ _ ts (seg_again rfl lp)))))
    refine call_function_tree PySem.F.kind_all PySem.F.plain_all PySem.F.entry_all (PySem.F.args_all1 _) ?_
    unfold Builtin.«all»
    refine wpAny_bind (m := oneArg "all" _) (wpAny_pure ?_)
    refine wpAny_bind (wpAny_pyIter_gen (gen (pl := []) I5) ?_)
    refine wpAny_pure ⟨plainId_quiet PySem.F.plain_all_loop _, codeAny_mono (all_loop hh hr.depth (mono true) (mono false) (m0 + 1) s5 wt) fun r s' hq => ?_⟩
    rcases hq with ⟨rfl, H', J, q⟩ | ⟨rfl, H', J, q⟩
    · exact ⟨.bl true, H', J, rfl, q⟩
    · exact ⟨.bl false, H', J, rfl, q⟩
  cases hf : codeAmong gpos ps.toList with
  | none =>
    refine wpAny_genexprCodeX hcode (cd.code hPs ht) (cd.tab hPs) hf fun c' h' tk hx hge hlt hco' _ htab' _ => ?_
    obtain ⟨o1, vs, f1, tf, fl, tg1, inF, tx, tt, op, _, _, _, _, _, _, _, _, _, htr, _⟩ := hco'
    exact cont _ h' tk _ (Nat.le_trans hge (Nat.le_of_lt hlt)) (fun b o hb e => hx b o hb e) htab'.2 htr
  | some cv =>
    refine wpAny_genexprCode_hit hcode (cd.code hPs ht) hf ?_
    have := cont cv s2.heap s2.toks #[] (Nat.le_refl _) (fun _ _ _ e => e) (by rw [hPs]; simp) (by simpa using ht)
    exact this
end
section
variable {prog : Program} {w : World} {A : Around} {gi : Nat} {a : Addr} {End Fin : Shared → Prop}
theorem any_loop (hh : A.handled = none) (hroom : A.depth < recursionLimit)
    (hE : ∀ s s' : Shared, End s → s'.os = s.os → AllBare s'.gens → (∀ b o, s.heap.get? b = some o → s'.heap.get? b = some o) → End s')
    (hF : ∀ s s' : Shared, Fin s → s'.os = s.os → AllBare s'.gens → (∀ b o, s.heap.get? b = some o → s'.heap.get? b = some o) → Fin s') :
    ∀ (n : Nat) (s : Shared), Waits prog w A.in1 gi a true End Fin n s →
      codeAny (model prog w) A (.builtin "any.loop" ⟨[.ref a], []⟩) (fun r s' => (r = .ok (.ret (.bool false)) ∧ End s') ∨ (r = .ok (.ret (.bool true)) ∧ Fin s')) s := by
  intro n
  induction n using Nat.strongRecOn with
  | ind n ih =>
    intro s W
    refine codeAny_builtin PySem.F.entry_any_loop ?_
    rw [Around.under_plainId PySem.F.plain_any_loop]
    show wpAny (model prog w) A.in1 (pyNext (.ref a) >>= _) _ _ s
    refine wpAny_bind (waits_next (A := A.in1) hh hroom hE hF W (fun s' e => ?_) (fun s' e => ?_) fun s' m hm W' => ?_)
    · exact wpAny_bind (wpAny_rule (wpAny_pure (.inl ⟨rfl, e⟩)))
    · refine wpAny_bind (wpAny_holding (wpAny_truthy_bool ?_))
      refine wpAny_bind (wpAny_letGo ?_)
      exact wpAny_bind (wpAny_rule (wpAny_pure (.inr ⟨rfl, e⟩)))
    · refine wpAny_bind (wpAny_holding (wpAny_truthy_bool ?_))
      refine wpAny_bind (wpAny_letGo ?_)
      exact wpAny_pure ⟨plainId_quiet PySem.F.plain_any_loop _, ih m hm s' W'⟩
end

/-! ### any(elt for target in iter) -/
/-- the reading: W by the turn and a measure; P: the def's table, which may grow -/
def tAny (P : Addr) (wi : TI) (g : TG) (te : TE) (vs : List Nat) : TE := fun σ H Q => wi σ H fun J H1 => GxR.TabG H1 P ∧ ∃ W : Nat → Nat → Hp → Prop, (∀ H2, GxR.Tabbed P H1 H2 → ∃ m, W 0 m H2) ∧ ∀ i m H, W i m H →
  (J.stop i H ∧ Q (.bl false) H) ∨ (J.go i H ∧ ∃ Nx : Hp → Prop, (∀ H', Nx H' → ∃ m', m' < m ∧ W (i + 1) m' H') ∧ ∀ x H', J.yld i H x H' → g x (wipe σ vs) H' fun σ2 H2 => wipe σ2 vs = wipe σ vs ∧
    te σ2 H2 fun y H3 => ∃ b, y = .bl b ∧ if b = false then Nx H3 else Q (.bl true) H3)
section
variable {X : Cx}
theorem pe_any {k : Nat} {c P : Addr} {elt tg iter : Expr} {scope : Scope} {own : List (Str × Nat)} {p pos gpos : Pos} {wi : TI} {g : TG} {te : TE}
    (hr : Room (k + 1) X.A) (TB : GxR.TabB X.base X.mg c P) (hcode : X.env.code = .ref c) (hc : X.calm = true) (hN : X.N.Nodup) (hG : Gl X "any") (hM : X.mg "any" = none) (hi : PI X tg iter wi) (ok : BlkOk X.N X.env.scope scope own) (gk : GnOk scope) (hdN : (".0" : Str) ∉ X.N)
    (hg : ∀ (s : Shared) (H : Hp) (A' : Around) (C : Addr) (cl : List (Str × Addr)) (code : Value) (fp : List Addr), PG (gX X s H A' (genEnv scope cl C code builtinsNs X.env) fp) tg g)
    (he : ∀ (s : Shared) (H : Hp) (A' : Around) (C : Addr) (cl : List (Str × Addr)) (code : Value) (fp : List Addr), Room k A' → PE (gX X s H A' (genEnv scope cl C code builtinsNs X.env) fp) elt te)
    (hs : ∀ v, genFold iter X.env v = pure v := by intro _; rfl)
    (hst : starEach [.GeneratorExp elt [⟨tg, iter, [], 0⟩] scope gpos] X.env = (false, eval (.GeneratorExp elt [⟨tg, iter, [], 0⟩] scope gpos) X.env) :: starEach [] X.env := by rfl) :
    PE X (.Call (.Name "any" p) [.GeneratorExp elt [⟨tg, iter, [], 0⟩] scope gpos] [] pos) (tAny P wi g te (own.map (·.2))) := by
  refine ⟨fun pins s σ H Q I h => ?_⟩
  have hh : X.A.handled = none := hr.hd
  refine wpAny_Call_Name_kw (ld_blt I hG hM PyProof.Rows.boot_any ?_)
  refine PyProof.Rows.callWith_builtin1 ?_ hst (by rfl)
  rw [hst]
  show wpAny _ _ (spliced ((false, eval (.GeneratorExp elt [⟨tg, iter, [], 0⟩] scope gpos) X.env) :: backTo pos (starEach [] X.env))) _ _ s
  have hfree : ∀ y ∈ scope.names, y.2 = .free → ∃ c, X.env.cells.lookup y.1 = some c := fun y hy e =>
    (ok.free y hy e).elim (fun k => I.ok.has _ (.inl k)) fun k => I.ok.has _ (.inr k)
  refine Calls.spliced_cons (wpAny_GeneratorExp_make gk.co (closure_ok hfree) gk.nocell gk.dot ok.kind (by have := hr.dp; omega) (thn (hi.run pins s σ H _ I h) fun xv s1 hx => thn hx fun itv s2 h2 => ?_) hs)
  obtain ⟨it, fp, tn, J, H2, e, I2, T, st2, f2, ⟨ps, hP, ht⟩, W, w0, turn⟩ := h2
  subst e
  refine ⟨I2.nolimit, ?_⟩
  have hPs : s2.heap.get? P = some { cls := .none, data := .fields ps } := I2.hok P _ hP
  have cd : PySem.W.CodeHd s2.heap c P := TB.code.keeps fun b u e => I2.bk b u e
  have sz2 : ∀ b ∈ fp, b < s2.heap.objs.size := fun b hb => by
    obtain ⟨o, e, _⟩ := T.obj _ _ st2 b hb
    exact Heap.lt_size e
  have nfP : ∀ b ∈ fp, b ≠ P := fun b hb z => by
    have q := (f2 b hb).1
    rw [z, hP] at q
    cases q
  -- behind the table
  have cont : ∀ (code : Value) (h3 : Heap) (tk : Nat) (more : Array Value), s2.heap.objs.size ≤ h3.objs.size → (∀ b o, b ≠ P → s2.heap.get? b = some o → h3.get? b = some o) → h3.get? P = some { cls := .none, data := .fields (ps ++ more) } → TriplesOk (ps ++ more).toList →
      wpAny (model X.prog X.w) X.A (builtinsFor X.env.globals X.env.builtins) (fun bi s4 => ∀ h', h'.Ns s4.heap.objs.size (fun y => if y = ".0" then some (.ref it) else none) → Heap.SameBut s4.heap.objs.size (s4.heap.push { cls := .type "frame", data := .dict #[] }) h' →
        wpAny (model X.prog X.w) X.A (spliced (backTo pos (starEach [] X.env))) (fun vs s5 => wpAny (model X.prog X.w) X.A (call (.builtin "any") (.ref h'.objs.size :: vs)) (EP X pins σ Q) X.xe s5) X.xe { s4 with
            gens := s4.gens.push (.fresh (.compStart (.GeneratorExp elt [⟨tg, iter, [], 0⟩] scope gpos) 0 (.ref it) .none (genEnv scope (cloFrom X.env.cells scope.names []) s4.heap.objs.size code bi X.env))), toks := s4.toks + 1 + 1 + 1,
            heap := h'.push { cls := .type "generator", data := .fields #[.int s4.gens.size 0, .str "<genexpr>" (s4.toks + 1), .str (X.env.qual ++ "<genexpr>") (s4.toks + 1 + 1)] } }) X.xe { s2 with heap := h3, toks := tk } := by
    intro code h3 tk more hle3 hk3 hP3 ht3
    have I3 : Inv X pins σ (upd H2 P (.tbl (ps ++ more))) { s2 with heap := h3, gens := s2.gens, drawn := s2.drawn, toks := tk } := GxR.inv_tab I2 hP hk3 hP3 I2.bare
    have tab3 : GxR.Tabbed P H2 (upd H2 P (.tbl (ps ++ more))) := ⟨⟨_, upd_same, ht3⟩, fun b hb => upd_ne hb⟩
    have st3 : tn 0 h3 := T.keep _ _ _ st2 fun b hb o e => hk3 b o (nfP b hb) e
    have f3 : ∀ b ∈ fp, FpOk X pins (upd H2 P (.tbl (ps ++ more))) b := fun b hb => ⟨by rw [upd_ne (nfP b hb)]; exact (f2 b hb).1, (f2 b hb).2⟩
    generalize upd H2 P (.tbl (ps ++ more)) = H3 at I3 tab3 f3
    obtain ⟨m0, hw0⟩ := w0 H3 tab3
    have sz3 : ∀ b ∈ fp, b < h3.objs.size := fun b hb => Nat.lt_of_lt_of_le (sz2 b hb) hle3
    have hs3 : ({ s2 with heap := h3, gens := s2.gens, drawn := s2.drawn, toks := tk } : Shared) = { s2 with heap := h3, toks := tk } := rfl
    rw [hs3] at I3
    generalize hsh : ({ s2 with heap := h3, toks := tk } : Shared) = s3 at I3 ⊢
    have eh : h3 = s3.heap := by rw [← hsh]
    rw [eh] at st3 sz3
    clear hsh hs3 eh hP3 hk3 hle3
    obtain ⟨bm, ob, e1, e2, e3, e4, e5, e6, e7, e8⟩ := TB.bm
    refine wpAny_builtinsFor (m := X.mg) (by rw [I3.ok.glob]; exact I3.mod.glob.keeps I3.bk) e1 e2 (I3.bk _ _ e5) e6 e7 e8 ?_
    intro h' hn' hs'
    refine Calls.spliced_nil ?_
    have hsz : h'.objs.size = s3.heap.objs.size + 1 := by rw [hs'.1, Heap.size_push]
    generalize hgo : ({ cls := .type "generator", data := .fields #[.int s3.gens.size 0, .str "<genexpr>" (s3.toks + 1), .str (X.env.qual ++ "<genexpr>") (s3.toks + 1 + 1)] } : Obj) = go
    have kp5 : ∀ b o, s3.heap.get? b = some o → (h'.push go).get? b = some o := fun b o e => Heap.get?_push_of_some _ (hs'.extBut b o (Nat.ne_of_lt (Heap.lt_size e)) (Heap.get?_push_of_some _ e))
    generalize hce : genEnv scope (cloFrom X.env.cells scope.names []) s3.heap.objs.size code builtinsNs X.env = ce
    have hhA : (X.A.in1.in1.over (.compLoop (.GeneratorExp elt [⟨tg, iter, [], 0⟩] scope gpos) 0 (.ref it) .none ce) []).handled = none := hh
    have hFr : (X.A.in1.in1.over (.compLoop (.GeneratorExp elt [⟨tg, iter, [], 0⟩] scope gpos) 0 (.ref it) .none ce) []).frames = some (ce :: X.stack) := by
      show pushEnvs [ce] (pushEnvs [] X.A.frames) = _
      rw [I3.ok.frames]
      rfl
    have hRm : Room k (X.A.in1.in1.over (.compLoop (.GeneratorExp elt [⟨tg, iter, [], 0⟩] scope gpos) 0 (.ref it) .none ce) []) := by
      have z1 := hr.dp
      have z2 := hr.un
      refine ⟨hhA, ?_, ?_⟩
      · show X.A.depth + 0 + 1 + 3 * k + 5 < recursionLimit
        omega
      · show X.A.units + 1 + 1 + 0 + 3 + 16 * k + 200 < cLine
        omega
    generalize hAg : X.A.in1.in1.over (.compLoop (.GeneratorExp elt [⟨tg, iter, [], 0⟩] scope gpos) 0 (.ref it) .none ce) [] = Ag at hhA hFr hRm
    have I5 : Inv (gX X s3 H3 Ag ce fp) [(h'.objs.size, go)] (wipe σ (own.map (·.2))) H3 { s3 with heap := h'.push go, gens := s3.gens.push (.fresh (.compStart (.GeneratorExp elt [⟨tg, iter, [], 0⟩] scope gpos) 0 (.ref it) .none ce)), toks := s3.toks + 1 + 1 + 1 } := by
      have q := gen_start (code := code) (A' := Ag) (h5 := h'.push go) (g5 := s3.gens.push (.fresh (.compStart (.GeneratorExp elt [⟨tg, iter, [], 0⟩] scope gpos) 0 (.ref it) .none ce))) (t5 := s3.toks + 1 + 1 + 1) (go := go) I3 ok gk hN (fun b hb => ⟨f3 b hb, sz3 b hb⟩) hhA (by rw [hce]; exact hFr) kp5 (hn'.push _)
        (fun x hx => if_neg hx) hdN (I3.bare.push rfl) (a := h'.objs.size) (by omega) (Heap.get?_push_size _ (by rw [← hgo]; rfl)) (by rw [← hgo]; intro v z; cases z)
      rw [hce] at q
      exact q
    have st5 : tn 0 (h'.push go) := T.keep _ _ _ st3 fun b _ o e => kp5 b o e
    have nfp : ∀ b ∈ fp, H3 b = none := fun b hb => (f3 b hb).1
    have pg := hg s3 H3 Ag s3.heap.objs.size (cloFrom X.env.cells scope.names []) code fp
    have pe := he s3 H3 Ag s3.heap.objs.size (cloFrom X.env.cells scope.names []) code fp hRm
    rw [hce] at pg pe
    have cCo : ce.scope.isCoroutine = false := by rw [← hce]; exact gk.co
    clear hn' hs' kp5 w0 hce
    -- back in the def's context
    have back : ∀ {σ' : L2.St} {H' : Hp} {s' : Shared} {pl : List (Addr × Obj)}, Inv (gX X s3 H3 Ag ce fp) pl σ' H' s' → Inv X pins σ H' s' := fun {σ' H' s' pl} J => I3.call' (ch := fp) J.os J.base J.hok J.bare fun b hb =>
      ⟨(f3 b hb).2.2.2.1, (f3 b hb).2.1, (f3 b hb).2.2.2.2.1, (f3 b hb).2.2.2.2.2⟩
    have stat : ∀ {σ' : L2.St} {H' : Hp} {s' : Shared}, Inv (gX X s3 H3 Ag ce fp) [(h'.objs.size, go)] σ' H' s' → (∀ b ∈ fp, H' b = none) → ∀ b ∈ fp, FpOk (gX X s3 H3 Ag ce fp) [(h'.objs.size, go)] H' b := fun {σ' H' s'} J hn b hb =>
      ⟨hn b hb, (J.ok.exf b hb).1, J.ok.exfs b hb, .inl hb, fun x c e => (J.ok.exf b hb).2 x c e, fun p hp => by
        have hp : p = (h'.objs.size, go) := by simpa using hp
        rw [hp]
        exact Nat.ne_of_gt (Nat.lt_trans (sz3 b hb) (by rw [hsz]; exact Nat.lt_succ_self _))⟩
    have gen : ∀ {σ' : L2.St} {H' : Hp} {s' : Shared} {pl : List (Addr × Obj)}, Inv (gX X s3 H3 Ag ce fp) ([(h'.objs.size, go)] ++ pl) σ' H' s' → s'.heap.IsGen h'.objs.size s3.gens.size := fun {σ' H' s' pl} J => by
      have q := (J.pin (h'.objs.size, go) (by simp)).1
      exact ⟨go, _, _, q, by rw [← hgo], by rw [← hgo], by rw [← hgo]⟩
    -- the turns
    have loop : ∀ (m n i : Nat) (s₀ s : Shared) (H : Hp), m < n → W i m H → Inv (gX X s3 H3 Ag ce fp) [(h'.objs.size, go)] (wipe σ (own.map (·.2))) H s → tn i s.heap → (∀ b ∈ fp, H b = none) → s3.gens.size + 1 ≤ s.gens.size →
        Seg (model X.prog X.w) X.A.in1.in1 (fun n s₀ r s₁ => r = .ok .next ∧ gR (fun s => ∃ H', Inv X pins σ H' s ∧ Q (.bl false) H') n s₀ s₁) (gY s3.gens.size h'.objs.size true fun s => ∃ H', Inv X pins σ H' s ∧ Q (.bl true) H') n s₀
          (.compLoop (.GeneratorExp elt [⟨tg, iter, [], 0⟩] scope gpos) 0 (.ref it) .none ce) ((model X.prog X.w).den (.compLoop (.GeneratorExp elt [⟨tg, iter, [], 0⟩] scope gpos) 0 (.ref it) .none ce)) [] s := by
      intro m
      induction m using Nat.strongRecOn with
      | ind m ih =>
        intro n i s₀ s H hmn w J st nf hz
        show Seg (model X.prog X.w) _ _ _ n s₀ _ ((compTurn (.GeneratorExp elt [⟨tg, iter, [], 0⟩] scope gpos) 0 (.ref it) .none ce).onRaise (leaving ce)) [] s
        rw [compTurn_gen]
        rw [Sem.onRaise_eq_wrap]
        refine seg_bind_wrap (wpAny_standAt (seg_bind_wrap ?_))
        rw [hAg]
        rcases turn i m H w with ⟨stp, qq⟩ | ⟨go', Nx, hNx, step⟩
        · refine thnF (T.done (gX X s3 H3 Ag ce fp) rfl rfl rfl hc i _ s _ H (fun _ _ => False) J (stat J nf) st stp) fun r s6 ⟨hr6, J6⟩ => ?_
          subst hr6
          exact seg_end (.ok .next) ⟨rfl, J6.bare, H, back J6, qq⟩
        · refine GenW.wpAny_gsz hz (thnF (T.item (gX X s3 H3 Ag ce fp) rfl rfl rfl hc i _ s _ H (fun _ _ => False) J (stat J nf) st go') fun r s6 ⟨u, hr6, h6⟩ hz6 => ?_)
          subst hr6
          refine seg_bind_wrap ?_
          rw [hAg]
          refine GenW.wpAny_gsz hz6 (thnF h6 fun _ s7 ⟨x, H7, J7, r7, y7, st7, n7⟩ hz7 => ?_)
          have J7' := J7.pinned (stat J7 n7) (T.obj _ _ st7)
          refine seg_bind_wrap ?_
          rw [hAg]
          refine GenW.wpAny_gsz hz7 (thnF (pg.run _ s7 _ H7 x u _ J7' r7 (step x H7 y7)) fun _ s8 ⟨σ8, H8, J8, hw8, q8⟩ hz8 => ?_)
          simp only [List.forIn_nil]
          refine seg_bind_wrap (wpAny_pure ?_)
          simp only [if_true]
          have hy : ∀ v, yieldOut ce v = yieldValue v := fun v => by simp only [yieldOut, cCo, Bool.false_eq_true, if_false]
          simp only [hy]
          rw [Sem.bind_eq_wrap', Sem.bind_eq_wrap']
          rw [Sem.wrap_wrap, Sem.wrap_wrap]
          refine seg_wrap ?_
          rw [hAg]
          refine GenW.wpAny_gsz hz8 (thnF (pe.run _ s8 σ8 H8 _ J8 q8) fun z s9 ⟨yv, H9, J9, r9, b, eb, qb⟩ hz9 => ?_)
          subst eb
          obtain rfl : z = Value.bool b := r9
          obtain ⟨n', rfl⟩ : ∃ n', n = n' + 1 := ⟨n - 1, by omega⟩
          refine seg_at (seg_yield rfl rfl rfl ⟨b, rfl, gen J9, J9.nolimit, J9.bare, hz9, fun e => ?_, fun e s' r => ?_⟩)
          · subst e
            exact ⟨H9, back J9, qb⟩
          · have e : b = false := by
              cases b with
              | false => rfl
              | true => exact absurd rfl e
            subst e
            rw [if_pos rfl] at qb
            obtain ⟨m', hm', w'⟩ := hNx H9 qb
            have pin' : ∀ b ∈ fp, ∀ o, s7.heap.get? b = some o → s9.heap.get? b = some o ∧ H9 b = none := fun b hb o e =>
              let z := J9.pin (b, o) (List.mem_append_right _ (List.mem_append_right _ (mem_pinsAt hb e)))
              ⟨z.1, z.2.1⟩
            have hl : (wipe σ (own.map (·.2))).length = σ8.length := by rw [← hw8, wipe_length]
            have K9 : Inv (gX X s3 H3 Ag ce fp) [(h'.objs.size, go)] (wipe σ (own.map (·.2))) H9 s9 := J9.unpinned.weak hl fun j v e => by
              rw [← hw8] at e
              exact (wipe_some e).1
            refine seg_again rfl (ih m' hm' n' (i + 1) s' s' H9 (by omega) w' (r.inv K9) ?_ (fun b hb => ?_) (Nat.le_trans hz9 r.size))
            · rw [r.heap]
              exact T.keep _ _ _ st7 fun b hb o e => (pin' b hb o e).1
            · obtain ⟨o, e, _⟩ := T.obj _ _ st7 b hb
              exact (pin' b hb o e).2
    have mono : ∀ (b : Bool) (s s' : Shared), (∃ H', Inv X pins σ H' s ∧ Q (.bl b) H') → s'.os = s.os → AllBare s'.gens → (∀ b o, s.heap.get? b = some o → s'.heap.get? b = some o) → ∃ H', Inv X pins σ H' s' ∧ Q (.bl b) H' := fun b s s' ⟨H', J, q⟩ h1 h2 h3 =>
      ⟨H', inv_gens (J.kept (t' := s'.toks) h3) rfl h1 h2, q⟩
    generalize hs5 : ({ s3 with heap := h'.push go, gens := s3.gens.push (.fresh (.compStart (.GeneratorExp elt [⟨tg, iter, [], 0⟩] scope gpos) 0 (.ref it) .none ce)), toks := s3.toks + 1 + 1 + 1 } : Shared) = s5 at I5
    have hg5 : s5.gens[s3.gens.size]? = some (.fresh (.compStart (.GeneratorExp elt [⟨tg, iter, [], 0⟩] scope gpos) 0 (.ref it) .none ce)) := by
      rw [← hs5]
      exact Array.getElem?_push_size ..
    have hz5 : s3.gens.size + 1 ≤ s5.gens.size := by
      rw [← hs5]
      exact Nat.le_of_eq (Array.size_push ..).symm
    have ht5 : tn 0 s5.heap := by rw [← hs5]; exact st5
    have wt : Waits X.prog X.w X.A.in1 s3.gens.size h'.objs.size true (fun s => ∃ H', Inv X pins σ H' s ∧ Q (.bl false) H') (fun s => ∃ H', Inv X pins σ H' s ∧ Q (.bl true) H') (m0 + 1) s5 := by
      refine ⟨gen (pl := []) I5, I5.nolimit, I5.bare, _, hg5, fun s' r => ⟨rfl, ?_⟩⟩
      have lp := loop m0 (m0 + 1) 0 s' s' H3 (Nat.lt_succ_self _) hw0 (r.inv I5) (by rw [r.heap]; exact ht5) nfp (Nat.le_trans hz5 r.size)
      show Seg (model X.prog X.w) _ _ _ _ s' _ ((compStart (.GeneratorExp elt [⟨tg, iter, [], 0⟩] scope gpos) 0 (.ref it) .none ce).onRaise (leaving ce)) [] s'
      unfold compStart
      rw [Sem.onRaise_eq_wrap]
      show Seg (model X.prog X.w) _ _ _ _ s' _ ((ask >>= _).wrap _ _ _ _) [] s'
      refine seg_bind_wrap (wpAny_askSetting ?_)
      have ts : tn 0 s'.heap := by rw [r.heap]; exact ht5
      split
      · exact seg_again rfl lp
      · first
          | exact seg_bind_wrap (wpAny_rule (seg_bind_wrap (wpAny_standAt (seg_bind_wrap (T.self _ 0 s' _ _ ts (seg_again rfl lp))))))
          | (refine seg_bind_wrap (wpAny_rule ?_); show Seg (model X.prog X.w) _ _ _ _ s' _ ((standAt iter.pos >>= _).wrap _ _ _ _) [] s'; exact seg_bind_wrap (wpAny_standAt (seg_bind_wrap (T.self _ 0 s' _ _ ts (seg_again rfl lp)))))
    refine call_function_tree PySem.F.kind_any PySem.F.plain_any PySem.F.entry_any (PySem.F.args_any1 _) ?_
    unfold Builtin.«any»
    refine wpAny_bind (m := oneArg "any" _) (wpAny_pure ?_)
    refine wpAny_bind (wpAny_pyIter_gen (gen (pl := []) I5) ?_)
    refine wpAny_pure ⟨plainId_quiet PySem.F.plain_any_loop _, codeAny_mono (any_loop hh hr.depth (mono false) (mono true) (m0 + 1) s5 wt) fun r s' hq => ?_⟩
    rcases hq with ⟨rfl, H', J, q⟩ | ⟨rfl, H', J, q⟩
    · exact ⟨.bl false, H', J, rfl, q⟩
    · exact ⟨.bl true, H', J, rfl, q⟩
  cases hf : codeAmong gpos ps.toList with
  | none =>
    refine wpAny_genexprCodeX hcode (cd.code hPs ht) (cd.tab hPs) hf fun c' h' tk hx hge hlt hco' _ htab' _ => ?_
    obtain ⟨o1, vs, f1, tf, fl, tg1, inF, tx, tt, op, _, _, _, _, _, _, _, _, _, htr, _⟩ := hco'
    exact cont _ h' tk _ (Nat.le_trans hge (Nat.le_of_lt hlt)) (fun b o hb e => hx b o hb e) htab'.2 htr
  | some cv =>
    refine wpAny_genexprCode_hit hcode (cd.code hPs ht) hf ?_
    have := cont cv s2.heap s2.toks #[] (Nat.le_refl _) (fun _ _ _ e => e) (by rw [hPs]; simp) (by simpa using ht)
    exact this
end
def topS (i : Nat) : Stmt := PySem.Challenge.pw_friendfoe_k50_great_papers.main.body.getD i (.Pass ⟨0, 0, 0, 0⟩)
abbrev s_is_whole : Stmt := topS 1
abbrev N_is_whole : List Str := ["thing"]
theorem sc_is_whole : FnScope N_is_whole ["thing"] (defScope s_is_whole) := ⟨rfl, rfl, rfl, by decide +kernel, rfl, by decide +kernel, by decide +kernel⟩
abbrev s_is_whole_from : Stmt := topS 2
abbrev N_is_whole_from : List Str := ["low", "thing"]
theorem sc_is_whole_from : FnScope N_is_whole_from ["low", "thing"] (defScope s_is_whole_from) := ⟨rfl, rfl, rfl, by decide +kernel, rfl, by decide +kernel, by decide +kernel⟩
abbrev s_is_whole_below : Stmt := topS 3
abbrev N_is_whole_below : List Str := ["limit", "thing"]
theorem sc_is_whole_below : FnScope N_is_whole_below ["limit", "thing"] (defScope s_is_whole_below) := ⟨rfl, rfl, rfl, by decide +kernel, rfl, by decide +kernel, by decide +kernel⟩
abbrev s_are_unlike_places : Stmt := topS 4
abbrev N_are_unlike_places : List Str := ["many", "one", "other"]
theorem sc_are_unlike_places : FnScope N_are_unlike_places ["many", "one", "other"] (defScope s_are_unlike_places) := ⟨rfl, rfl, rfl, by decide +kernel, rfl, by decide +kernel, by decide +kernel⟩
abbrev s_is_tuple_of : Stmt := topS 5
abbrev N_is_tuple_of : List Str := ["length", "thing"]
theorem sc_is_tuple_of : FnScope N_is_tuple_of ["length", "thing"] (defScope s_is_tuple_of) := ⟨rfl, rfl, rfl, by decide +kernel, rfl, by decide +kernel, by decide +kernel⟩
abbrev s_are_rising_below : Stmt := topS 6
abbrev N_are_rising_below : List Str := ["limit", "thing", "number", "following"]
theorem sc_are_rising_below : FnScope N_are_rising_below ["limit", "thing"] (defScope s_are_rising_below) := ⟨rfl, rfl, rfl, by decide +kernel, rfl, by decide +kernel, by decide +kernel⟩
abbrev s_are_unlike_below : Stmt := topS 8
abbrev N_are_unlike_below : List Str := ["limit", "thing", "number"]
theorem sc_are_unlike_below : FnScope N_are_unlike_below ["limit", "thing"] (defScope s_are_unlike_below) := ⟨rfl, rfl, rfl, by decide +kernel, rfl, by decide +kernel, by decide +kernel⟩
abbrev s_joins : Stmt := topS 9
abbrev N_joins : List Str := ["tie", "one", "other"]
theorem sc_joins : FnScope N_joins ["tie", "one", "other"] (defScope s_joins) := ⟨rfl, rfl, rfl, by decide +kernel, rfl, by decide +kernel, by decide +kernel⟩
abbrev s_ring_holds : Stmt := topS 10
abbrev N_ring_holds : List Str := ["web", "thing", "places", "ties", "followers", "tie", "one", "other"]
theorem sc_ring_holds : FnScope N_ring_holds ["web", "thing"] (defScope s_ring_holds) := ⟨rfl, rfl, rfl, by decide +kernel, rfl, by decide +kernel, by decide +kernel⟩
abbrev s_foes_in : Stmt := topS 11
abbrev N_foes_in : List Str := ["web", "ring", "tie"]
theorem sc_foes_in : FnScope N_foes_in ["web", "ring"] (defScope s_foes_in) := ⟨rfl, rfl, rfl, by decide +kernel, rfl, by decide +kernel, by decide +kernel⟩
abbrev s_odd_ring_holds : Stmt := topS 12
abbrev N_odd_ring_holds : List Str := ["web", "thing"]
theorem sc_odd_ring_holds : FnScope N_odd_ring_holds ["web", "thing"] (defScope s_odd_ring_holds) := ⟨rfl, rfl, rfl, by decide +kernel, rfl, by decide +kernel, by decide +kernel⟩
abbrev s_weight_of : Stmt := topS 14
abbrev N_weight_of : List Str := ["weights", "tie"]
theorem sc_weight_of : FnScope N_weight_of ["weights", "tie"] (defScope s_weight_of) := ⟨rfl, rfl, rfl, by decide +kernel, rfl, by decide +kernel, by decide +kernel⟩
abbrev s_is_ring_row : Stmt := topS 16
abbrev N_is_ring_row : List Str := ["web", "limits", "given", "thing", "ring", "times", "tie"]
theorem sc_is_ring_row : FnScope N_is_ring_row ["web", "limits", "given", "thing"] (defScope s_is_ring_row) := ⟨rfl, rfl, rfl, by decide +kernel, rfl, by decide +kernel, by decide +kernel⟩
abbrev s_rings_show : Stmt := topS 17
abbrev N_rings_show : List Str := ["web", "limits", "given", "rows", "total", "used", "row", "ring", "times", "tie"]
theorem sc_rings_show : FnScope N_rings_show ["web", "limits", "given", "rows"] (defScope s_rings_show) := ⟨rfl, rfl, rfl, by decide +kernel, rfl, by decide +kernel, by decide +kernel⟩
abbrev s_is_split_row : Stmt := topS 18
abbrev N_is_split_row : List Str := ["limits", "given", "taken", "thing", "tie"]
theorem sc_is_split_row : FnScope N_is_split_row ["limits", "given", "taken", "thing"] (defScope s_is_split_row) := ⟨rfl, rfl, rfl, by decide +kernel, rfl, by decide +kernel, by decide +kernel⟩
abbrev s_split_shows : Stmt := topS 19
abbrev N_split_shows : List Str := ["web", "limits", "given", "rows", "total", "taken", "row", "own", "tie", "shown"]
theorem sc_split_shows : FnScope N_split_shows ["web", "limits", "given", "rows"] (defScope s_split_shows) := ⟨rfl, rfl, rfl, by decide +kernel, rfl, by decide +kernel, by decide +kernel⟩
abbrev s_case_shows : Stmt := topS 20
abbrev N_case_shows : List Str := ["web", "limits", "given", "thing", "word", "one", "other", "together", "apart", "shown", "kind", "paper", "surer"]
theorem sc_case_shows : FnScope N_case_shows ["web", "limits", "given", "thing"] (defScope s_case_shows) := ⟨rfl, rfl, rfl, by decide +kernel, rfl, by decide +kernel, by decide +kernel⟩
abbrev s_knot_shows : Stmt := topS 21
abbrev N_knot_shows : List Str := ["web", "limits", "given", "thing", "word", "rows"]
theorem sc_knot_shows : FnScope N_knot_shows ["web", "limits", "given", "thing"] (defScope s_knot_shows) := ⟨rfl, rfl, rfl, by decide +kernel, rfl, by decide +kernel, by decide +kernel⟩
abbrev s_shown_by : Stmt := topS 22
abbrev N_shown_by : List Str := ["web", "weights", "thing", "limits", "tie", "given"]
theorem sc_shown_by : FnScope N_shown_by ["web", "weights", "thing"] (defScope s_shown_by) := ⟨rfl, rfl, rfl, by decide +kernel, rfl, by decide +kernel, by decide +kernel⟩
abbrev s_l_feed : Stmt := topS 24
abbrev N_l_feed : List Str := ["_law_script"]
theorem sc_l_feed : FnScope N_l_feed ["_law_script"] (defScope s_l_feed) := ⟨rfl, rfl, rfl, by decide +kernel, rfl, by decide +kernel, by decide +kernel⟩
abbrev s_l_draw : Stmt := topS 25
abbrev N_l_draw : List Str := ["_law_feed_here", "_law_most", "_law_found", "_law_cell", "_law_mixed"]
theorem sc_l_draw : FnScope N_l_draw ["_law_feed_here", "_law_most"] (defScope s_l_draw) := ⟨rfl, rfl, rfl, by decide +kernel, rfl, by decide +kernel, by decide +kernel⟩
abbrev s_l_weight : Stmt := topS 26
abbrev N_l_weight : List Str := ["_law_weights", "_law_tie"]
theorem sc_l_weight : FnScope N_l_weight ["_law_weights", "_law_tie"] (defScope s_l_weight) := ⟨rfl, rfl, rfl, by decide +kernel, rfl, by decide +kernel, by decide +kernel⟩
abbrev s_l_told : Stmt := topS 27
abbrev N_l_told : List Str := ["_law_world", "_law_thing", "_law_found"]
theorem sc_l_told : FnScope N_l_told ["_law_world", "_law_thing"] (defScope s_l_told) := ⟨rfl, rfl, rfl, by decide +kernel, rfl, by decide +kernel, by decide +kernel⟩
abbrev s_l_round : Stmt := topS 28
abbrev N_l_round : List Str := ["_law_feed_here", "_law_many", "_law_kinds", "_law_k", "_law_ties", "_law_one", "_law_other", "_law_kind", "_law_weights", "_law_tie"]
theorem sc_l_round : FnScope N_l_round ["_law_feed_here"] (defScope s_l_round) := ⟨rfl, rfl, rfl, by decide +kernel, rfl, by decide +kernel, by decide +kernel⟩
abbrev s_l_about : Stmt := topS 29
abbrev N_l_about : List Str := ["_law_feed_here", "_law_many", "_law_at", "_law_places", "_law_k", "_law_ties"]
theorem sc_l_about : FnScope N_l_about ["_law_feed_here", "_law_many"] (defScope s_l_about) := ⟨rfl, rfl, rfl, by decide +kernel, rfl, by decide +kernel, by decide +kernel⟩
abbrev s_l_beside : Stmt := topS 30
abbrev N_l_beside : List Str := ["_law_world", "_law_many", "_law_ties", "_law_weights", "_law_rows", "_law_k", "_law_least"]
theorem sc_l_beside : FnScope N_l_beside ["_law_world"] (defScope s_l_beside) := ⟨rfl, rfl, rfl, by decide +kernel, rfl, by decide +kernel, by decide +kernel⟩
abbrev s_l_chain : Stmt := topS 31
abbrev N_l_chain : List Str := ["_law_feed_here", "_law_inner", "_law_paper", "_law_k"]
theorem sc_l_chain : FnScope N_l_chain ["_law_feed_here", "_law_inner"] (defScope s_l_chain) := ⟨rfl, rfl, rfl, by decide +kernel, rfl, by decide +kernel, by decide +kernel⟩
abbrev s_law : Stmt := topS 32
abbrev N_law : List Str := ["_law_script", "_law_feed_here", "_law_turn", "_law_world", "_law_many", "_law_ties", "_law_weights", "_law_least", "_law_k", "_law_ring", "_law_whole", "_law_rows", "_law_due", "_law_row", "_law_split", "_law_free", "_law_some"]
theorem sc_law : FnScope N_law ["_law_script"] (defScope s_law) := ⟨rfl, rfl, rfl, by decide +kernel, rfl, by decide +kernel, by decide +kernel⟩
/-! ### own rules: a list against [] -/
section
variable {X : Cx}
def rEqE (K : PySem.W.Frag) : R2 := fun x y H Q => ∃ (a b : Addr) (xs : List V), x = .ref a ∧ y = .ref b ∧ SqL K H a xs ∧ SqL K H b [] ∧ Q (.bl xs.isEmpty) H
def rNeE (K : PySem.W.Frag) : R2 := fun x y H Q => ∃ (a b : Addr) (xs : List V), x = .ref a ∧ y = .ref b ∧ SqL K H a xs ∧ SqL K H b [] ∧ Q (.bl (!xs.isEmpty)) H
theorem op_eqE (hu : X.A.units < cLine) : OpR X (compareOp .Eq) (rEqE X.K) := by
  intro pins s σ H x y v u Q I rx ry h
  obtain ⟨a, b, xs, rfl, rfl, ha, hb, q⟩ := h
  obtain rfl : v = Value.ref a := rx
  obtain rfl : u = Value.ref b := ry
  obtain ⟨its, r1, p1, _⟩ := I.list ha
  obtain ⟨its2, r2, p2, _⟩ := I.list hb
  cases r2
  cases xs with
  | nil =>
    cases r1
    exact SeqAt.eq_listAt (e := fun _ => true) p1.isList p2.isList rfl hu (fun j h1 _ => absurd h1 (by simp)) ⟨.bl true, H, I, rfl, q⟩
  | cons z zs =>
    cases r1 with
    | cons r t => exact SeqAt.eq_list_lengthsAt p1.isList p2.isList (by simp) hu ⟨.bl false, H, I, rfl, q⟩
theorem op_neE (hu : X.A.units < cLine) : OpR X (compareOp .NotEq) (rNeE X.K) := by
  intro pins s σ H x y v u Q I rx ry h
  obtain ⟨a, b, xs, rfl, rfl, ha, hb, q⟩ := h
  obtain rfl : v = Value.ref a := rx
  obtain rfl : u = Value.ref b := ry
  obtain ⟨its, r1, p1, _⟩ := I.list ha
  obtain ⟨its2, r2, p2, _⟩ := I.list hb
  cases r2
  cases xs with
  | nil =>
    cases r1
    exact SeqAt.RcNeAt.lists (e := fun _ => true) p1.isList p2.isList rfl hu (fun j h1 _ => absurd h1 (by simp)) _ _ _ _ ⟨.bl false, H, I, rfl, q⟩
  | cons z zs =>
    cases r1 with
    | cons r t => exact SeqAt.RcNeAt.lists_lengths p1.isList p2.isList (by simp) hu _ _ _ _ ⟨.bl true, H, I, rfl, q⟩
end
section
variable {P : Program} {w : World} {K : PySem.W.Frag} {mg : Str → Option Value} {base : Heap}
/-! ### the deck is laid -/
theorem cutV_ints (ns : List Int) (lo hi : Option Int) : ∃ ms : List Int, cutV (ns.map V.int) lo hi = ms.map V.int ∧ ms.length ≤ ns.length := by
  refine ⟨(ns.drop (HT.sIx ns.length 0 lo)).take (HT.sIx ns.length ns.length hi - HT.sIx ns.length 0 lo), ?_, ?_⟩
  · unfold cutV
    rw [List.length_map, List.map_take, List.map_drop]
  · rw [List.length_take, List.length_drop]
    omega
theorem ok_l_draw {f : Addr} {fd : FuncData} (F : Fun K "_law_draw" "_law_draw" s_l_draw f fd) (M : Free mg) : FnOk P w K mg base CX0 1 f fd ["_law_feed_here", "_law_most"] spDraw := by
  refine F.ok sc_l_draw (fun vs H Q E h => ?_) (fun cdv A outer s H vs Q E hr h => ?_)
  · obtain ⟨d, c, m, rfl, _⟩ := h
    rfl
  · obtain ⟨d, c, m, rfl, hD, hm, hb, q⟩ := h
    have ndc := hD.ne
    obtain ⟨cells, st, ⟨n, l⟩, hd, hc, hl, n0, n1, st0, st1⟩ := hD
    have hd : H d = some (.dK (dkv c n l st)) := hd
    have n0 : 0 ≤ n := n0
    have n1 : n ≤ cells.length := n1
    obtain ⟨k, rfl⟩ : ∃ k : Nat, n = k := ⟨n.toNat, by omega⟩
    have hu := hu_of hr
    refine ⟨_, (pss_cons (ps_if (pt_cmpR op_gt (pe_dget hu (pv 0) pe_str (fun _ _ => rfl)) pe_int (nomark _))
        (pss_cons (ps_set (i := 2) sc_l_draw.nd rfl (.inl rfl) (pe_op op_mod (pe_dget hu (pv 0) pe_str (fun _ _ => rfl)) (pv 1)))
        (pss_cons (ps_dput hu (pv 0) pe_str (pe_op op_fdivW (pe_dget hu (pv 0) pe_str (fun _ _ => rfl)) (pv 1)) rfl)
        (pss_one (ps_ret (pv 2)))))
        pss_nil)
      (pss_cons (ps_set (i := 3) sc_l_draw.nd rfl (.inl rfl) pe_int)
      (Evl.pss_cut (ps_if (pt_cmpR op_lt (pe_dget hu (pv 0) pe_str (fun _ _ => rfl)) (pe_callB call_len_seq (by rfl) M.len PySem.boot_len (pa_cons (pe_dget hu (pv 0) pe_str (fun _ _ => rfl)) pa_nil)) (nomark _))
        (pss_cons (ps_set (i := 3) sc_l_draw.nd rfl (.inl rfl) (pe_ix ix_list (pe_dget hu (pv 0) pe_str (fun _ _ => rfl)) (pe_dget hu (pv 0) pe_str (fun _ _ => rfl)) (fun _ _ => rfl)))
        (pss_one (ps_dput hu (pv 0) pe_str (pe_op op_add (pe_dget hu (pv 0) pe_str (fun _ _ => rfl)) pe_int) rfl)))
        pss_nil)
      (pss_cons (ps_if (pt_cmpR op_ge (pv 3) (pe_op op_pow pe_int pe_int) (nomark _))
        (pss_cons (ps_dput hu (pv 0) pe_str (pe_op op_fdivW (pv 3) (pv 1)) rfl)
        (pss_one (ps_ret (pe_op op_mod (pv 3) (pv 1)))))
        pss_nil)
      (pss_cons (ps_dput hu (pv 0) pe_str (pe_op op_mod (pe_op op_add (pe_op op_add (pe_op op_mul (pe_dget hu (pv 0) pe_str (fun _ _ => rfl)) pe_int) (pe_op op_mod (pv 3) pe_int)) pe_int) pe_int) rfl)
      (pss_cons (ps_set (i := 4) sc_l_draw.nd rfl (.inl rfl) (pe_op op_mod (pe_op op_mul (pe_dget hu (pv 0) pe_str (fun _ _ => rfl)) (pe_op op_add (pe_op op_fdiv (pe_dget hu (pv 0) pe_str (fun _ _ => rfl)) pe_int) pe_int)) pe_int))
      (pss_one (ps_ret (pe_op op_mod (pe_op op_fdiv (pe_op op_mod (pe_op op_add (pe_op op_mul (pv 4) pe_int) pe_int) pe_int) pe_int) (pv 1)))))))))), ?_⟩
    have gAt : DGet H d (.str "at") (some (.int k)) := by rw [← dkv_at c k l st]; exact DGet.k (k := Sum.inr "at") hd
    have gCe : DGet H d (.str "cells") (some (.ref c)) := by rw [← dkv_cells c k l st]; exact DGet.k (k := Sum.inr "cells") hd
    have gLe : DGet H d (.str "left") (some (.int l)) := by rw [← dkv_left c k l st]; exact DGet.k (k := Sum.inr "left") hd
    refine ⟨.ref d, rfl, d, _, rfl, gLe, _, _, rfl, rfl, _, rfl, ?_⟩
    refine ite2 (fun _ => ?_) (fun _ => ?_)
    · refine ⟨.ref d, rfl, d, _, rfl, gLe, .int m, rfl, l, m, rfl, rfl, hm, ?_⟩
      refine ⟨.ref d, rfl, d, _, rfl, gLe, .int m, rfl, l, m, rfl, rfl, wide_div hm hb (by decide) (by decide), .ref d, rfl, d, _, rfl, DPut.k (k := Sum.inr "left") hd (by show 4 < sizeLine; decide), ?_⟩
      rw [dkv_putLeft]
      exact ⟨_, rfl, q _ _ (mod_rng hm).1 (mod_rng hm).2 ⟨cells, st, ((k : Int), l / m), upd_same, by rw [upd_ne (Ne.symm ndc)]; exact hc, hl, n0, n1, st0, st1⟩ Kp.at_d⟩
    refine ⟨fun σ' H' => ∃ (y2 : Option V) (x n : Int), σ' = [some (.ref d), some (.int m), y2, some (.int x), none] ∧ H' d = some (.dK (dkv c n l st)) ∧ H' c = some (.lst (cells.map V.int)) ∧ 0 ≤ n ∧ n ≤ cells.length ∧ Kp d c H H', ?_, ?_⟩
    · refine ⟨.ref d, rfl, d, _, rfl, gAt, .ref d, rfl, d, _, rfl, gCe, c, _, rfl, .inl (SqL.of hc), _, _, rfl, rfl, _, rfl, ?_⟩
      rw [List.length_map]
      refine ite2 (fun h1 => ?_) (fun _ => ?_)
      · have hk : k < cells.length := by have := of_decide_eq_true h1; omega
        have ea : atI (cells.map V.int) (k : Int) = some (.int cells[k]) := atI_nat (by rw [List.getElem?_map, List.getElem?_eq_getElem hk]; rfl)
        refine ⟨.ref d, rfl, d, _, rfl, gCe, .ref d, rfl, d, _, rfl, gAt, c, _, k, .int cells[k], rfl, rfl, SqL.of hc, ea, ?_⟩
        refine ⟨.ref d, rfl, d, _, rfl, gAt, k, 1, rfl, rfl, .ref d, rfl, d, _, rfl, DPut.k (k := Sum.inr "at") hd (by show 4 < sizeLine; decide), ?_⟩
        rw [dkv_putAt]
        exact ⟨_, _, (k : Int) + 1, rfl, upd_same, by rw [upd_ne (Ne.symm ndc)]; exact hc, by omega, by omega, Kp.at_d⟩
      · exact ⟨_, _, (k : Int), rfl, hd, hc, n0, n1, Kp.refl⟩
    rintro σ' H2 ⟨y2, x, n, rfl, hd2, hc2, n20, n21, k2⟩
    refine ⟨.int x, rfl, 10, 18, rfl, rfl, ⟨by decide, by decide, by decide⟩, _, _, rfl, rfl, _, rfl, ?_⟩
    refine ite2 (fun _ => ?_) (fun _ => ?_)
    · refine ⟨.int x, rfl, .int m, rfl, x, m, rfl, rfl, wide_div hm hb (by decide) (by decide), .ref d, rfl, d, _, rfl, DPut.k (k := Sum.inr "left") hd2 (by show 4 < sizeLine; decide), ?_⟩
      rw [dkv_putLeft]
      refine ⟨.int x, rfl, .int m, rfl, x, m, rfl, rfl, hm, ?_⟩
      exact q _ _ (mod_rng hm).1 (mod_rng hm).2 ⟨cells, st, (n, x / m), upd_same, by rw [upd_ne (Ne.symm ndc)]; exact hc2, hl, n20, n21, st0, st1⟩ (k2.trans Kp.at_d)
    have gSe : DGet H2 d (.str "seed") (some (.int st)) := by rw [← dkv_seed c n l st]; exact DGet.k (k := Sum.inr "seed") hd2
    refine ⟨.ref d, rfl, d, _, rfl, gSe, st, 48271, rfl, rfl, .inr ⟨by decide, by decide⟩, .int x, rfl, x, 2147483629, rfl, rfl, show (0 : Int) < 2147483629 by decide, _, _, rfl, rfl, _, 7919, rfl, rfl, _, 2147483587, rfl, rfl, show (0 : Int) < 2147483587 by decide, .ref d, rfl, d, _, rfl, DPut.k (k := Sum.inr "seed") hd2 (by show 4 < sizeLine; decide), ?_⟩
    rw [dkv_putSeed]
    have r1 := mod_rng (a := st * 48271 + x % 2147483629 + 7919) (m := 2147483587) (by decide)
    generalize (st * 48271 + x % 2147483629 + 7919) % 2147483587 = S at r1
    have hd3 : (upd H2 d (.dK (dkv c n l S))) d = some (.dK (dkv c n l S)) := upd_same
    have hc3 : (upd H2 d (.dK (dkv c n l S))) c = some (.lst (cells.map V.int)) := by rw [upd_ne (Ne.symm ndc)]; exact hc2
    have k3 : Kp d c H (upd H2 d (.dK (dkv c n l S))) := k2.trans Kp.at_d
    generalize upd H2 d (.dK (dkv c n l S)) = H3 at hd3 hc3 k3
    have gS3 : DGet H3 d (.str "seed") (some (.int S)) := by rw [← dkv_seed c n l S]; exact DGet.k (k := Sum.inr "seed") hd3
    refine ⟨.ref d, rfl, d, _, rfl, gS3, .ref d, rfl, d, _, rfl, gS3, S, 7, rfl, rfl, ⟨by decide, by decide⟩, _, 69621, rfl, rfl, S, _, rfl, rfl, .inl ⟨by omega, by omega⟩, _, 2147483563, rfl, rfl, show (0 : Int) < 2147483563 by decide, ?_⟩
    refine ⟨.int (S * (S / 7 + 69621) % 2147483563), rfl, _, 39373, rfl, rfl, .inr ⟨by decide, by decide⟩, _, 16807, rfl, rfl, _, 2147483399, rfl, rfl, show (0 : Int) < 2147483399 by decide, _, 64, rfl, rfl, ⟨by decide, by decide⟩, .int m, rfl, _, m, rfl, rfl, hm, ?_⟩
    exact q _ _ (mod_rng hm).1 (mod_rng hm).2 ⟨cells, S, (n, l), hd3, hc3, hl, n20, n21, by omega, by omega⟩ k3
def spDeck (K : PySem.W.Frag) : Sp := fun vs H Q _ => ∃ (a : Addr) (ns : List Int), vs = [.ref a] ∧ SqL K H a (ns.map V.int) ∧ ns.length ≤ 63 ∧
  ∀ d c H', Same H H' → H d = none → H c = none → Deck H' d c → Q (.ref d) H'
theorem Same.mutD {H H' : Hp} {a : Addr} {o : HO} (s : Same H H') (h : H a = none) : Same H (upd H' a o) := fun b x e => by
  rw [upd_ne (ne_of_none e h)]
  exact s b x e
theorem ok_l_feed {f : Addr} {fd : FuncData} (F : Fun K "_law_feed" "_law_feed" s_l_feed f fd) (M : Free mg) : FnOk P w K mg base CX0 1 f fd ["_law_script"] (spDeck K) := by
  refine F.ok sc_l_feed (fun vs H Q E h => ?_) (fun cdv A outer s H vs Q E hr h => ?_)
  · obtain ⟨a, ns, rfl, _⟩ := h
    rfl
  · obtain ⟨a, ns, rfl, hS, hl, q⟩ := h
    refine ⟨_, (pss_one (ps_ret (pe_disp (pps_cons pe_str (pe_callTy call_list_of (by rfl) M.list (by decide +kernel) (pa_cons (pe_slice sl_list (pv 0) po_none (po_some pe_int)) pa_nil)) (pps_cons pe_str pe_int (pps_cons pe_str pe_int (pps_cons pe_str (pe_op op_add (pe_op op_mod (pe_callB (cr_sum rfl) (by rfl) M.sum (by decide +kernel) (pa_cons (pe_slice sl_list (pv 0) po_none (po_some pe_int)) pa_nil)) pe_int) pe_int) pps_nil)))) (by rfl) (by rfl) (fun z => by cases z) (by decide)))), ?_⟩
    obtain ⟨ms, em, lm⟩ := cutV_ints ns none (some 63)
    refine fun D nD => ?_
    have sD := same_new (o := .dK []) nD
    have hD : (upd H D (.dK [])) D = some (.dK []) := upd_same
    generalize upd H D (.dK []) = H1 at sD hD
    have hS1 : SqL K H1 a (ns.map V.int) := sD.seq hS
    refine ⟨.ref a, rfl, 63, rfl, a, _, rfl, hS1, fun p1 n1 => ⟨p1, _, rfl, .inl (SqL.of upd_same), fun p2 n2 => ?_⟩⟩
    rw [em] at n2 ⊢
    have s1 : Same H1 (upd H1 p1 (.lst (ms.map V.int))) := same_new n1
    have s2 := s1.trans (same_new (o := .lst (ms.map V.int)) n2)
    have h2 : (upd (upd H1 p1 (.lst (ms.map V.int))) p2 (.lst (ms.map V.int))) p2 = some (.lst (ms.map V.int)) := upd_same
    have f2 : H p2 = none := (sD.trans s1).free n2
    generalize upd (upd H1 p1 (.lst (ms.map V.int))) p2 (.lst (ms.map V.int)) = H2 at s2 h2
    refine ⟨.ref a, rfl, 63, rfl, a, _, rfl, s2.seq hS1, fun p3 n3 => ?_⟩
    rw [em]
    have s3 := same_new (o := .lst (ms.map V.int)) n3
    have h3 : (upd H2 p3 (.lst (ms.map V.int))) p3 = some (.lst (ms.map V.int)) := upd_same
    generalize upd H2 p3 (.lst (ms.map V.int)) = H3 at s3 h3
    refine ⟨p3, ms, rfl, SqL.of h3, _, _, rfl, rfl, show (0 : Int) < 2147483629 by decide, _, _, rfl, rfl, ?_⟩
    have hD3 := s3 _ _ (s2 _ _ hD)
    have h23 := s3 _ _ h2
    have s03 := (sD.trans s2).trans s3
    have r := mod_rng (a := ms.sum) (m := 2147483629) (by decide)
    refine ⟨hD3, dkv p2 0 0 _, rfl, by show 4 ≤ 15; decide, ?_⟩
    rw [dkv_new]
    exact q D p2 _ (Same.mutD (sD.trans (s2.trans s3)) nD) nD f2 ⟨ms, _, ((0 : Int), (0 : Int)), upd_same, by rw [upd_ne (ne_of h23 hD3 (by intro z; cases z))]; exact h23, by omega, by show (0 : Int) ≤ 0; decide, by show (0 : Int) ≤ _; omega, by omega, by omega⟩
/-! ### webs -/
structure Tie where
  one : Int
  other : Int
  foe : Bool
def kindS : Bool → Str
  | true => "foe"
  | false => "friend"
def TieV (H : Hp) (v : V) (t : Tie) : Prop := ∃ a, v = .ref a ∧ H a = some (.tup [.int t.one, .int t.other, .str (kindS t.foe)])
def TieOk (n : Int) (t : Tie) : Prop := 0 ≤ t.one ∧ t.one < n ∧ 0 ≤ t.other ∧ t.other < n ∧ t.one ≠ t.other
def WebAt (H : Hp) (v : V) (n : Int) (ts : List Tie) : Prop := ∃ a b vs, v = .ref a ∧ H a = some (.tup [.int n, .ref b]) ∧ H b = some (.tup vs) ∧ Paired (TieV H) vs ts
structure WebOk (n : Int) (ts : List Tie) : Prop where
  lo : 1 ≤ n
  hi : n ≤ 40
  few : ts.length ≤ 200
  ok : ∀ t ∈ ts, TieOk n t
/-- tuples stay -/
def Tk (H H' : Hp) : Prop := ∀ b xs, H b = some (.tup xs) → H' b = some (.tup xs)
theorem Tk.trans {H H1 H2 : Hp} (a : Tk H H1) (b : Tk H1 H2) : Tk H H2 := fun x xs h => b x xs (a x xs h)
theorem Same.tk {H H' : Hp} (s : Same H H') : Tk H H' := fun b xs h => s b _ h
theorem tk_lst {H : Hp} {l : Addr} {xs ys : List V} (h : H l = some (.lst xs)) : Tk H (upd H l (.lst ys)) := fun b zs e => by
  rw [upd_ne (ne_of e h (by intro z; cases z))]
  exact e
theorem TieV.tk {H H' : Hp} (k : Tk H H') {v : V} {t : Tie} (h : TieV H v t) : TieV H' v t := by
  obtain ⟨a, rfl, e⟩ := h
  exact ⟨a, rfl, k _ _ e⟩
theorem ties_tk {H H' : Hp} (k : Tk H H') {vs : List V} {ts : List Tie} (h : Paired (TieV H) vs ts) : Paired (TieV H') vs ts := Paired.mono (fun _ _ x => x.tk k) h
theorem WebAt.tk {H H' : Hp} (k : Tk H H') {v : V} {n : Int} {ts : List Tie} (h : WebAt H v n ts) : WebAt H' v n ts := by
  obtain ⟨a, b, vs, rfl, h1, h2, h3⟩ := h
  exact ⟨a, b, vs, rfl, k _ _ h1, k _ _ h2, ties_tk k h3⟩
theorem Kp.tk {d c : Addr} {H H' : Hp} (k : Kp d c H H') (D : Deck H d c) : Tk H H' := fun b xs e => by
  obtain ⟨cells, st, n, h1, h2, _⟩ := D
  exact k b _ (ne_of e h1 (by intro z; cases z)) (ne_of e h2 (by intro z; cases z)) e
theorem Kp.mut {d c l : Addr} {H H' : Hp} {o : HO} (k : Kp d c H H') (h : H l = none) : Kp d c H (upd H' l o) := fun b u h1 h2 e => by
  rw [upd_ne (ne_of_none e h)]
  exact k b u h1 h2 e
theorem Deck.mut {H : Hp} {d c l : Addr} {o : HO} (D : Deck H d c) (h1 : l ≠ d) (h2 : l ≠ c) : Deck (upd H l o) d c := by
  obtain ⟨cells, st, n, e1, e2, e3⟩ := D
  exact ⟨cells, st, n, by rw [upd_ne (Ne.symm h1)]; exact e1, by rw [upd_ne (Ne.symm h2)]; exact e2, e3⟩
theorem Deck.new {H : Hp} {d c l : Addr} {o : HO} (D : Deck H d c) (h : H l = none) : Deck (upd H l o) d c := D.same (same_new h)
theorem Deck.ned {H : Hp} {d c l : Addr} (D : Deck H d c) (h : H l = none) : l ≠ d ∧ l ≠ c := by
  obtain ⟨cells, st, n, e1, e2, e3⟩ := D
  exact ⟨(ne_of_none e1 h).symm, (ne_of_none e2 h).symm⟩
theorem Paired.at {α β : Type} {F : α → β → Prop} : ∀ {l : List α} {m : List β} {i : Nat} {a : α}, Paired F l m → l[i]? = some a → ∃ b, m[i]? = some b ∧ F a b
  | _, _, _, _, .nil, e => by simp at e
  | _, _, 0, _, .cons r _, e => by simp at e; subst e; exact ⟨_, rfl, r⟩
  | _, _, i + 1, a, .cons _ t, e => by
    obtain ⟨u, h1, h2⟩ := Paired.at (i := i) (a := a) t (by simpa using e)
    exact ⟨u, by simpa using h1, h2⟩
theorem Paired.at' {α β : Type} {F : α → β → Prop} : ∀ {l : List α} {m : List β} {i : Nat} {b : β}, Paired F l m → m[i]? = some b → ∃ a, l[i]? = some a ∧ F a b
  | _, _, _, _, .nil, e => by simp at e
  | _, _, 0, _, .cons r _, e => by simp at e; subst e; exact ⟨_, rfl, r⟩
  | _, _, i + 1, b, .cons _ t, e => by
    obtain ⟨u, h1, h2⟩ := Paired.at' (i := i) (b := b) t (by simpa using e)
    exact ⟨u, by simpa using h1, h2⟩
theorem getI {α : Type} {xs : List α} {i : Int} (h0 : 0 ≤ i) (h1 : i < (xs.length : Int)) : ∃ v, atI xs i = some v ∧ xs[i.toNat]? = some v := by
  obtain ⟨j, rfl⟩ : ∃ j : Nat, i = (j : Int) := ⟨i.toNat, by omega⟩
  have h2 : j < xs.length := by omega
  exact ⟨xs[j], atI_nat (List.getElem?_eq_getElem h2), by rw [Int.toNat_natCast]; exact List.getElem?_eq_getElem h2⟩
theorem other_ne {n a b : Int} (h0 : 0 ≤ a) (h1 : a < n) (g0 : 0 ≤ b) (g1 : b < n - 1) : a ≠ (a + 1 + b) % n := by
  by_cases h : a + 1 + b < n
  · rw [Int.emod_eq_of_lt (by omega) h]
    omega
  · have e : a + 1 + b = (a + 1 + b - n) + 1 * n := by omega
    rw [e, Int.add_mul_emod_self_right, Int.emod_eq_of_lt (by omega) (by omega)]
    omega
theorem pick2 {α : Type} (a b : α) (k : Bool) : atI [a, b] (if k then 1 else 0) = some (if k then b else a) := by
  cases k <;> rfl
def spWeb : Sp := fun vs H Q _ => ∃ (d c : Addr), vs = [.ref d] ∧ Deck H d c ∧
  ∀ v n ts H', WebAt H' v n ts → WebOk n ts → Deck H' d c → Kp d c H H' → Q v H'
end
/-! ### tuples cut and put together -/
section
variable {X : Cx}
theorem cutV_whole {xs : List V} {lo hi : Option Int} (h : HT.sIx xs.length 0 lo = 0 ∧ HT.sIx xs.length xs.length hi = xs.length) : cutV xs lo hi = xs := by
  unfold cutV
  rw [h.1, h.2]
  simp
def rSlU : V → Option Int → Option Int → Hp → VK → Prop := fun x lo hi H Q => ∃ a xs, x = .ref a ∧ H a = some (.tup xs) ∧ ∀ r H', Same H H' → H' r = some (.tup (cutV xs lo hi)) → Q (.ref r) H'
theorem sl_tupU : SlR X rSlU := by
  intro pins s σ H x v vl vu lo hi sl Q I rx hs pl pu h
  obtain ⟨a, xs, rfl, hx, q⟩ := h
  refine sl_tupA pins s σ H _ v vl vu lo hi sl Q I rx hs pl pu ⟨a, xs, rfl, SqT.of hx, fun hw => ?_, fun _ p np => ?_⟩
  · exact q a H (Same.refl H) (by rw [cutV_whole hw]; exact hx)
  · exact q p _ (same_new np) upd_same
def rCatU : R2 := fun x y H Q => ∃ a b xs ys, x = .ref a ∧ y = .ref b ∧ H a = some (.tup xs) ∧ H b = some (.tup ys) ∧ xs.length + ys.length ≤ 100000 ∧ ∀ r H', Same H H' → H' r = some (.tup (xs ++ ys)) → Q (.ref r) H'
theorem op_catU : OpR X (binaryOp .Add) rCatU := by
  intro pins s σ H x y v u Q I rx ry h
  obtain ⟨a, b, xs, ys, rfl, rfl, ha, hb, hz, q⟩ := h
  refine op_catA pins s σ H _ _ v u Q I rx ry ⟨a, b, xs, ys, rfl, rfl, SqT.of ha, SqT.of hb, Evl.sz_of hz, fun e => ?_, fun _ e => ?_, fun _ _ p np => ?_⟩
  · subst e
    exact q b H (Same.refl H) hb
  · subst e
    exact q a H (Same.refl H) (by rw [List.append_nil]; exact ha)
  · exact q p _ (same_new np) upd_same
end
/-! ### things of any kind -/
/-- its kind is known -/
def Kn (H : Hp) : V → Prop
  | .non => True
  | .bl _ => True
  | .int _ => True
  | .str _ => True
  | .ref a => (∃ xs, H a = some (.lst xs)) ∨ (∃ xs, H a = some (.tup xs)) ∨ ∃ kvs, H a = some (.dK kvs)
  | _ => False
def isI : V → Bool
  | .int _ => true
  | .bl _ => true
  | _ => false
def isB : V → Bool
  | .bl _ => true
  | _ => false
def isW : V → Bool
  | .int _ => true
  | _ => false
def isT (H : Hp) : V → Bool
  | .ref a => match H a with
    | some (.tup _) => true
    | _ => false
  | _ => false
section
variable {K : PySem.W.Frag} {H : Hp}
theorem kn_int {v : V} (h : Kn H v) : ∃ t, TyX K H v t ∧ PySem.W.kitOne K t (.type "int") = some (isI v) := by
  cases v with
  | non => exact ⟨_, .base .non, kit_ty (r := false) (by decide +kernel)⟩
  | bl b => exact ⟨_, .base (.bl b), kit_ty (r := true) (by decide +kernel)⟩
  | int i => exact ⟨_, .base (.int i), kit_ty (r := true) (by decide +kernel)⟩
  | str x => exact ⟨_, .base (.str x), kit_ty (r := false) (by decide +kernel)⟩
  | ref a =>
    rcases h with ⟨xs, h⟩ | ⟨xs, h⟩ | ⟨xs, h⟩
    · exact ⟨_, .base (.lst h), kit_ty (r := false) (by decide +kernel)⟩
    · exact ⟨_, .base (.tup h), kit_ty (r := false) (by decide +kernel)⟩
    · exact ⟨_, .base (.dK h), kit_ty (r := false) (by decide +kernel)⟩
  | byt b => exact h.elim
  | flt b => exact h.elim
  | ty n => exact h.elim
theorem kn_bool {v : V} (h : Kn H v) : ∃ t, TyX K H v t ∧ PySem.W.kitOne K t (.type "bool") = some (isB v) := by
  cases v with
  | non => exact ⟨_, .base .non, kit_ty (r := false) (by decide +kernel)⟩
  | bl b => exact ⟨_, .base (.bl b), kit_ty (r := true) (by decide +kernel)⟩
  | int i => exact ⟨_, .base (.int i), kit_ty (r := false) (by decide +kernel)⟩
  | str x => exact ⟨_, .base (.str x), kit_ty (r := false) (by decide +kernel)⟩
  | ref a =>
    rcases h with ⟨xs, h⟩ | ⟨xs, h⟩ | ⟨xs, h⟩
    · exact ⟨_, .base (.lst h), kit_ty (r := false) (by decide +kernel)⟩
    · exact ⟨_, .base (.tup h), kit_ty (r := false) (by decide +kernel)⟩
    · exact ⟨_, .base (.dK h), kit_ty (r := false) (by decide +kernel)⟩
  | byt b => exact h.elim
  | flt b => exact h.elim
  | ty n => exact h.elim
theorem kn_tup {v : V} (h : Kn H v) : ∃ t, TyX K H v t ∧ PySem.W.kitOne K t (.type "tuple") = some (isT H v) := by
  cases v with
  | non => exact ⟨_, .base .non, kit_ty (r := false) (by decide +kernel)⟩
  | bl b => exact ⟨_, .base (.bl b), kit_ty (r := false) (by decide +kernel)⟩
  | int i => exact ⟨_, .base (.int i), kit_ty (r := false) (by decide +kernel)⟩
  | str x => exact ⟨_, .base (.str x), kit_ty (r := false) (by decide +kernel)⟩
  | ref a =>
    unfold isT
    rcases h with ⟨xs, h⟩ | ⟨xs, h⟩ | ⟨xs, h⟩
    · exact ⟨_, .base (.lst h), by simp only [h]; exact kit_ty (r := false) (by decide +kernel)⟩
    · exact ⟨_, .base (.tup h), by simp only [h]; exact kit_ty (r := true) (by decide +kernel)⟩
    · exact ⟨_, .base (.dK h), by simp only [h]; exact kit_ty (r := false) (by decide +kernel)⟩
  | byt b => exact h.elim
  | flt b => exact h.elim
  | ty n => exact h.elim
theorem isT_at {v : V} (h : isT H v = true) : ∃ a xs, v = .ref a ∧ H a = some (.tup xs) := by
  cases v with
  | ref a =>
    unfold isT at h
    cases e : H a with
    | none => simp only [e] at h; cases h
    | some o =>
      cases o with
      | tup xs => exact ⟨a, xs, rfl, e⟩
      | _ => simp only [e] at h; cases h
  | _ => cases h
theorem isT_of {a : Addr} {xs : List V} (h : H a = some (.tup xs)) : isT H (.ref a) = true := by
  unfold isT
  simp only [h]
end
section
variable {P : Program} {w : World} {K : PySem.W.Frag} {mg : Str → Option Value} {base : Heap}
def spWhole : Sp := fun vs H Q _ => ∃ v, vs = [v] ∧ Kn H v ∧ Q (.bl (isW v)) H
theorem and_whole {v : V} : (isI v && !isB v) = isW v := by cases v <;> rfl
theorem ok_is_whole {f : Addr} {fd : FuncData} (F : Fun K "is_whole" "is_whole" s_is_whole f fd) (M : Free mg) : FnOk P w K mg base CX0 1 f fd ["thing"] spWhole := by
  refine F.ok sc_is_whole (fun vs H Q E h => ?_) (fun cdv A outer s H vs Q E hr h => ?_)
  · obtain ⟨v, rfl, _⟩ := h
    rfl
  · obtain ⟨v, rfl, hk, q⟩ := h
    refine ⟨_, (pss_one (ps_ret (pe_and (pe_callB call_isi (by rfl) M.isinstance (by decide +kernel) (pa_cons (pv 0) (pa_cons (pe_bltn (v := .ty "int") (by rfl) M.int (by decide +kernel) rfl) pa_nil))) (pe_one (pe_not (pe_callB call_isi (by rfl) M.isinstance (by decide +kernel) (pa_cons (pv 0) (pa_cons (pe_bltn (v := .ty "bool") (by rfl) M.bool (by decide +kernel) rfl) pa_nil)))))))), ?_⟩
    obtain ⟨t1, h1, e1⟩ := kn_int (K := K) hk
    obtain ⟨t2, h2, e2⟩ := kn_bool (K := K) hk
    refine ⟨v, rfl, v, _, t1, _, _, rfl, .ty "int", h1, e1, _, rfl, ?_⟩
    rw [← and_whole] at q
    cases hi : isI v with
    | false =>
      rw [hi] at q
      exact q
    | true =>
      rw [hi] at q
      exact ⟨v, rfl, v, _, t2, _, _, rfl, .ty "bool", h2, e2, _, rfl, q⟩
def wfrom (lo : Int) : V → Bool
  | .int i => decide (lo ≤ i)
  | _ => false
def spFrom : Sp := fun vs H Q _ => ∃ lo v, vs = [.int lo, v] ∧ Kn H v ∧ Q (.bl (wfrom lo v)) H
theorem ok_is_whole_from {f : Addr} {fd : FuncData} (F : Fun K "is_whole_from" "is_whole_from" s_is_whole_from f fd) (Dw : Df P w K mg base 1 "is_whole" ["thing"] spWhole) : FnOk P w K mg base CX0 2 f fd ["low", "thing"] spFrom := by
  obtain ⟨fW, fdW, GW, gW, kW, bW⟩ := Dw
  refine F.ok sc_is_whole_from (fun vs H Q E h => ?_) (fun cdv A outer s H vs Q E hr h => ?_)
  · obtain ⟨lo, v, rfl, _⟩ := h
    rfl
  · obtain ⟨lo, v, rfl, hk, q⟩ := h
    refine ⟨_, (pss_one (ps_ret (pe_and (pe_call GW hr (by rfl) gW kW bW .nil pass0 (pa_cons (pv 1) pa_nil)) (pe_one (pe_cmpR op_ge (pv 1) (pv 0) (nomark _)))))), ?_⟩
    refine ⟨v, rfl, v, rfl, hk, _, rfl, ?_⟩
    cases v with
    | int i => exact ⟨.int i, rfl, .int lo, rfl, i, lo, rfl, rfl, q⟩
    | _ => exact q
/-- the parts of a tuple -/
def parts (H : Hp) : V → Option (List V)
  | .ref a => match H a with
    | some (.tup xs) => some xs
    | _ => none
  | _ => none
theorem parts_of' {H : Hp} {a : Addr} {xs : List V} (h : H a = some (.tup xs)) : parts H (.ref a) = some xs := by
  unfold parts
  simp only [h]
theorem parts_none {H : Hp} {v : V} (h : isT H v = false) : parts H v = none := by
  cases v with
  | ref a =>
    unfold isT at h
    unfold parts
    cases e : H a with
    | none => simp only [e]
    | some o =>
      cases o with
      | tup xs => simp only [e] at h; cases h
      | _ => simp only [e]
  | _ => rfl
def lenIs (H : Hp) (v : V) (n : Int) : Bool := match parts H v with
  | some xs => decide ((xs.length : Int) = n)
  | none => false
def spTupleOf : Sp := fun vs H Q _ => ∃ n v, vs = [.int n, v] ∧ Kn H v ∧ Q (.bl (lenIs H v n)) H
theorem dec_int (a b : Int) : decide (V.int a = V.int b) = decide (a = b) := by
  by_cases h : a = b
  · rw [decide_eq_true h, h, decide_eq_true rfl]
  · rw [decide_eq_false h, decide_eq_false (fun z => h (V.int.inj z))]
theorem ok_is_tuple_of {f : Addr} {fd : FuncData} (F : Fun K "is_tuple_of" "is_tuple_of" s_is_tuple_of f fd) (M : Free mg) : FnOk P w K mg base CX0 1 f fd ["length", "thing"] spTupleOf := by
  refine F.ok sc_is_tuple_of (fun vs H Q E h => ?_) (fun cdv A outer s H vs Q E hr h => ?_)
  · obtain ⟨n, v, rfl, _⟩ := h
    rfl
  · obtain ⟨n, v, rfl, hk, q⟩ := h
    refine ⟨_, (pss_one (ps_ret (pe_and (pe_callB call_isi (by rfl) M.isinstance (by decide +kernel) (pa_cons (pv 1) (pa_cons (pe_bltn (v := .ty "tuple") (by rfl) M.tuple (by decide +kernel) rfl) pa_nil))) (pe_one (pe_cmpR op_eq (pe_callB call_len_seq (by rfl) M.len PySem.boot_len (pa_cons (pv 1) pa_nil)) (pv 0) (nomark _)))))), ?_⟩
    obtain ⟨t1, h1, e1⟩ := kn_tup (K := K) hk
    refine ⟨v, rfl, v, _, t1, _, _, rfl, .ty "tuple", h1, e1, _, rfl, ?_⟩
    unfold lenIs at q
    cases hi : isT H v with
    | false =>
      rw [parts_none hi] at q
      exact q
    | true =>
      obtain ⟨a, xs, rfl, e⟩ := isT_at hi
      rw [parts_of' e] at q
      refine ⟨.ref a, rfl, a, xs, rfl, .inr (SqT.of e), .int n, rfl, rfl, ?_⟩
      rw [dec_int]
      exact q
/-! ### a def whose code object stands at c: its own table is at Pt -/
structure FunC (K : PySem.W.Frag) (x qual : Str) (st : Stmt) (f : Addr) (fd : FuncData) (c : Addr) : Prop where
  ex : ∃ (oc : Value) (od : Option Addr) (kV doc pm : Value) (an : Option Addr) (ct : Value) (osl : Array (Option Value)),
    fd = PySem.W.fnOf x qual (defArgs st) (defBody st) (defScope st) .none kV doc pm an (.ref c) ct ∧ K.lookup f = some ⟨oc, od, .func fd, osl⟩ ∧ PySem.W.codeIn K (.ref c) qual = true
  kp : PySem.W.keepIn K (.ref f) = true
theorem FunC.ok {x qual : Str} {st : Stmt} {f c : Addr} {fd : FuncData} {N ps : List Str} {k : Nat} {sp : Sp} (F : FunC K x qual st f fd c) (S : FnScope N ps (defScope st)) (len : ∀ vs H Q E, sp vs H Q E → vs.length = ps.length)
    (hbody : ∀ (A : Around) (outer : List Env) (s : Shared) (H : Hp) (vs : List V) (Q : VK) (E : XK), Room k (A.deeper (envOfC qual (defScope st) s.heap.objs.size f (.ref c))) → sp vs H Q E →
      ∃ t, PSs (cxOf CX0 P w K mg base N qual (defScope st) f (.ref c) A outer s H E).nox (defBody st) t ∧ t { nx := fun _ H' => Q .non H', rt := Q } (start N vs) H) : FnOk P w K mg base CX0 (k + 1) f fd ps sp := by
  obtain ⟨oc, od, kV, doc, pm, an, ct, osl, rfl, lk, hcd⟩ := F.ex
  refine fn_of lk hcd S len fun A outer s H vs Q E hr hsp => ?_
  obtain ⟨t, h, q⟩ := hbody A outer s H vs Q E hr hsp
  exact ⟨t, h.nox, q⟩
theorem FunC.fn {x qual : Str} {st : Stmt} {f c : Addr} {fd : FuncData} (F : FunC K x qual st f fd c) : Fun K x qual st f fd := by
  obtain ⟨oc, od, kV, doc, pm, an, ct, osl, rfl, lk, hcd⟩ := F.ex
  exact ⟨⟨oc, od, kV, doc, pm, an, _, ct, osl, rfl, lk, hcd⟩, F.kp⟩
theorem parts_at {H : Hp} {v : V} {xs : List V} (h : parts H v = some xs) : ∃ a, v = .ref a ∧ H a = some (.tup xs) := by
  cases v with
  | ref a =>
    unfold parts at h
    cases e : H a with
    | none => simp only [e] at h; cases h
    | some o =>
      cases o with
      | tup ys => simp only [e] at h; cases h; exact ⟨a, rfl, e⟩
      | _ => simp only [e] at h; cases h
  | _ => cases h
end
/-! ### all but the tables is kept -/
structure Kt (Ps : List Addr) (H H' : Hp) : Prop where
  tab : ∀ P ∈ Ps, GxR.TabG H' P
  keep : ∀ b o, b ∉ Ps → H b = some o → H' b = some o
def Tabs (Ps : List Addr) (H : Hp) : Prop := ∀ P ∈ Ps, GxR.TabG H P
theorem Kt.refl {Ps : List Addr} {H : Hp} (h : Tabs Ps H) : Kt Ps H H := ⟨h, fun _ _ _ e => e⟩
theorem Kt.trans {Ps : List Addr} {H H1 H2 : Hp} (a : Kt Ps H H1) (b : Kt Ps H1 H2) : Kt Ps H H2 := ⟨b.tab, fun x o h e => b.keep x o h (a.keep x o h e)⟩
theorem Kt.same {Ps : List Addr} {H H' : Hp} (h : Tabs Ps H) (s : Same H H') : Kt Ps H H' := ⟨fun P hP => by obtain ⟨ps, e, t⟩ := h P hP; exact ⟨ps, s _ _ e, t⟩, fun b o _ e => s b o e⟩
theorem Kt.tabbed {Ps : List Addr} {P : Addr} {H H' : Hp} (h : Tabs Ps H) (hP : P ∈ Ps) (t : GxR.Tabbed P H H') : Kt Ps H H' := by
  refine ⟨fun Q hQ => ?_, fun b o hb e => ?_⟩
  · by_cases e : Q = P
    · rw [e]
      exact t.1
    · obtain ⟨ps, e1, t1⟩ := h Q hQ
      exact ⟨ps, by rw [t.2 Q e]; exact e1, t1⟩
  · rw [t.2 b (fun z => hb (by rw [z]; exact hP))]
    exact e
theorem Tabs.out {Ps : List Addr} {H : Hp} {a : Addr} {o : HO} (t : Tabs Ps H) (h : H a = some o) (no : ∀ ps, o ≠ .tbl ps) : a ∉ Ps := fun z => by
  obtain ⟨ps, e, _⟩ := t a z
  rw [e] at h
  cases h
  exact no _ rfl
theorem Kt.tup {Ps : List Addr} {a : Addr} {H H' : Hp} {xs : List V} (k : Kt Ps H H') (t : Tabs Ps H) (h : H a = some (.tup xs)) : H' a = some (.tup xs) := k.keep a _ (t.out h fun _ z => by cases z) h
theorem Kt.lst {Ps : List Addr} {a : Addr} {H H' : Hp} {xs : List V} (k : Kt Ps H H') (t : Tabs Ps H) (h : H a = some (.lst xs)) : H' a = some (.lst xs) := k.keep a _ (t.out h fun _ z => by cases z) h
theorem Kt.dct {Ps : List Addr} {a : Addr} {H H' : Hp} {xs : List (Key × V)} (k : Kt Ps H H') (t : Tabs Ps H) (h : H a = some (.dK xs)) : H' a = some (.dK xs) := k.keep a _ (t.out h fun _ z => by cases z) h
theorem Kt.tk {Ps : List Addr} {H H' : Hp} (k : Kt Ps H H') (t : Tabs Ps H) : Tk H H' := fun _ _ e => k.tup t e
theorem Kt.kn {Ps : List Addr} {H H' : Hp} (k : Kt Ps H H') (t : Tabs Ps H) {v : V} (h : Kn H v) : Kn H' v := by
  cases v with
  | ref a =>
    rcases h with ⟨xs, h⟩ | ⟨xs, h⟩ | ⟨xs, h⟩
    · exact .inl ⟨xs, k.lst t h⟩
    · exact .inr (.inl ⟨xs, k.tup t h⟩)
    · exact .inr (.inr ⟨xs, k.dct t h⟩)
  | _ => exact h
theorem Kt.deck {Ps : List Addr} {d c : Addr} {H H' : Hp} (k : Kt Ps H H') (t : Tabs Ps H) (D : Deck H d c) : Deck H' d c := by
  obtain ⟨cells, st, n, e1, e2, e3⟩ := D
  exact ⟨cells, st, n, k.dct t e1, k.lst t e2, e3⟩
/-! ### x in t of data of any depth -/
def rInT (K : PySem.W.Frag) : R2 := fun x y H Q => ∃ d ds, Dp K H x d ∧ Dp K H y (.tuple ds) ∧ SeqAt.shaped d = true ∧ SeqAt.shaped (.tuple ds) = true ∧ Q (.bl (ds.any fun z => PyData.eqv z d)) H
theorem op_inTup {X : Cx} (hu : X.A.units + 65 < cLine) : OpR X (compareOp .In) (rInT X.K) := by
  intro pins s σ H x y v u Q I rx ry want
  obtain ⟨d, ds, hd, he, sd, se, q⟩ := want
  obtain ⟨as, r1⟩ := Dp.reads I d x v hd rx
  obtain ⟨bs, r2⟩ := Dp.reads I (.tuple ds) y u he ry
  have lay : PyData.canLayAll0 ds = true := by
    have z := SeqAt.canLay_of_shaped se
    rw [PyData.canLay0] at z
    exact z
  have deep := SeqAt.depth_of_shaped sd
  exact SeqAt.in_tuple_reads r2 r1 lay (SeqAt.canLay_of_shaped sd) (by omega) ⟨.bl _, H, I, rfl, q⟩
theorem small2500 {n : Nat} (h : n ≤ 2500) : n < sizeLine := by rw [sizeLine_eq]; omega
/-! ### enumerate of a tuple -/
set_option maxHeartbeats 1000000 in
theorem meets_enumOne {v : Value} {o : Obj} {S : Heap → Prop} (B : Begins v o S) : Meets (Builtin.«enumerate.__new__» ⟨[.type "enumerate", v], []⟩) (fun _ R s => S s.heap ∧
      R (.ok (.ret (.ref (s.heap.push o).objs.size))) { s with heap := (s.heap.push o).push { cls := .type "enumerate", data := .fields #[.none, .bool false, .ref s.heap.objs.size, rawInt 0, .none, .none] } }) :=
  .of_wp fun prog w A R s h => by
    obtain ⟨hp, g, d, tk, os⟩ := s
    obtain ⟨h1, h⟩ := h
    have sub0 := sub_enumerate
    have begun : ∀ {A' : PySem.Around} {E : Value → Shared → Prop} {Q : Value → Shared → Prop}, Q (.ref hp.objs.size) ⟨hp.push o, g, d, tk, os⟩ → wpAny (model prog w) A' (pyIter v) Q E ⟨hp, g, d, tk, os⟩ := fun q => B.iter prog w _ _ ⟨hp, g, d, tk, os⟩ _ h1 q
    wp_walk using begun
    refine wpAny_stack_any fun st => wpAny_pure ?_
    split
    · rename_i c _ _ _ _ _
      cases (c == Value.type "enumerate")
      all_goals
        wp_walk using begun
        exact ⟨_, rfl, h⟩
    · wp_walk using begun
      exact ⟨_, rfl, h⟩
theorem call_enumT {P : Program} {w : World} {A : PySem.Around} {E : Value → Shared → Prop} {s : Shared} {t : Addr} {items : Array Value} {Q : Value → Shared → Prop} (ht : s.heap.IsTuple t items)
    (h : ∀ h', IsEnum h' (s.heap.objs.size + 1) s.heap.objs.size 0 .none → h'.IsTupleIter s.heap.objs.size t 0 → (∀ b o, s.heap.get? b = some o → h'.get? b = some o) → Q (.ref (s.heap.objs.size + 1)) { s with heap := h' }) : wpAny (model P w) A (call (.type "enumerate") [.ref t]) Q E s := by
  refine callType_new PySem.F.called_enumerate (by decide) (PySem.F.typeCall_enumerate_1 _) (PySem.F.newCall_enumerate_1 _) (fun ob => PySem.F.args_object_init_2 ob _) PySem.F.entry_enumerate_new (meets_enumOne (begins_tuple t items)) ⟨ht, ?_⟩
  have size1 := Heap.size_push s.heap { cls := .type "tuple_iterator", data := .fields #[.ref t, .int 0 0] }
  have en := Heap.get?_push_size (s.heap.push { cls := .type "tuple_iterator", data := .fields #[.ref t, .int 0 0] }) (o := { cls := .type "enumerate", data := .fields #[.none, .bool false, .ref s.heap.objs.size, rawInt 0, .none, .none] }) rfl
  rw [size1] at en
  show _ ∧ _
  rw [size1]
  exact ⟨⟨_, en, rfl⟩, h _ en ⟨_, Heap.get?_push_of_some _ (Heap.get?_push_size _ rfl), rfl, rfl⟩ fun b o e => Heap.get?_push_of_some _ (Heap.get?_push_of_some _ e)⟩
/-- the turns: a new pair each, of the number and the part -/
def ItN (K : PySem.W.Frag) (a : Addr) : It where
  go := fun i H => ∃ (xs : List V) (x : V), SqT K H a xs ∧ xs[i]? = some x
  yld := fun i H v H' => ∃ T x, v = .ref T ∧ H T = none ∧ H' = upd H T (.tup [.int (i : Nat), x]) ∧ ∀ xs, SqT K H a xs → xs[i]? = some x
  stop := fun i H => ∃ xs : List V, SqT K H a xs ∧ xs.length ≤ i
theorem turn_enumT {P : Program} {w : World} {K : PySem.W.Frag} {elts : List Expr} {kk : Nat} {tpos : Pos} (a e it : Addr) (n1 : e ≠ it) (n2 : a ≠ it) (n3 : e ≠ a) :
    Turn P w K (.Tuple elts kk tpos) (ItN K a) [e, it] e (fun i h => (∃ old, IsEnum h e it ((i : Nat) : Int) old) ∧ h.IsTupleIter it a i) where
  mem := List.mem_cons_self
  obj := by
    rintro i h ⟨⟨old, he⟩, o, ho, hc, hd⟩ b hb
    rcases List.mem_cons.mp hb with rfl | hb
    · exact ⟨_, he, fun v q => nomatch q⟩
    · rw [List.mem_singleton.mp hb]
      exact ⟨o, ho, fun v q => by rw [hd] at q; cases q⟩
  keep := by
    rintro i h h' ⟨⟨old, he⟩, hit⟩ kp
    exact ⟨⟨old, kp e (by simp) _ he⟩, hit.at fun o q => kp it (by simp) o q⟩
  item := by
    intro X hP hw hK hc i pins s σ H E I hf st hg
    subst hP hw hK
    obtain ⟨⟨old, he⟩, hit⟩ := st
    obtain ⟨xs, x, hq, hx⟩ := hg
    obtain ⟨its, rv, tup, _⟩ := I.tuple hq
    obtain ⟨u, hu, ru⟩ := rv.get hx
    have le := Heap.lt_size he
    have li : it < s.heap.objs.size := let ⟨_, q, _⟩ := hit; Heap.lt_size q
    have lt : i < its.toArray.size := by simpa using (List.getElem?_eq_some_iff.mp hu).1
    refine wpAny_pyNext_enum_itemD (Draws.tuple (A := X.A.in1) (I.ok.hd hc) it a n2 its.toArray) he ⟨hit, tup⟩ lt n1 (by simp [n1, n3]) fun x' h' tk ex out st' new _ kp => ?_
    obtain rfl : u = x' := Option.some.inj (((by simpa using hu) : its.toArray[i]? = some u).symm.trans ex)
    refine ⟨_, rfl, wpAny_letOwnedTupleGo_enum (s := { s with heap := h', toks := tk + 1 }) out fun h2 he2 sb => ?_⟩
    have new2 : h2.get? s.heap.objs.size = some { cls := .type "tuple", data := .seq #[.int i tk, u] } := (sb.2 _ (Nat.ne_of_gt le)).trans new
    have objT : ObjOk X.prog X.w (upd H s.heap.objs.size (.tup [.int (i : Nat), x])) h2 s.heap.objs.size (.tup [.int (i : Nat), x]) := ⟨by show 2 ≤ sizeLine; decide, [.int i tk, u], .cons ⟨_, rfl⟩ (.cons ru .nil), ⟨_, new2, rfl, _, rfl⟩⟩
    have J : Inv X pins σ (upd H s.heap.objs.size (.tup [.int (i : Nat), x])) { s with heap := h2, toks := tk + 1 } := I.turnedNew (ch := [e, it]) (fun b ob hb q => by
      simp only [List.mem_cons, List.not_mem_nil, or_false, not_or] at hb
      exact (sb.2 b hb.1).trans (kp b ob hb.1 hb.2 q)) hf (Nat.le_refl _) objT
    refine ⟨.ref s.heap.objs.size, _, J, rfl, ⟨_, x, rfl, I.hok.fresh (Nat.le_refl _), rfl, fun ys hy => by rw [I.tuple_inj hy hq]; exact hx⟩, ⟨⟨u, ?_⟩, st'.1.at fun o q => (sb.2 it (Ne.symm n1)).trans q⟩, fun b hb => ?_⟩
    · rw [show ((i + 1 : Nat) : Int) = (i : Int) + 1 from by omega]
      exact he2
    · have lb : b < s.heap.objs.size := by
        rcases List.mem_cons.mp hb with rfl | hb
        · exact le
        · rw [List.mem_singleton.mp hb]
          exact li
      rw [upd_ne (Nat.ne_of_lt lb)]
      exact (hf b hb).1
  done := by
    intro X hP hw hK hc i pins s σ H E I hf st hg
    subst hP hw hK
    obtain ⟨⟨old, he⟩, hit⟩ := st
    obtain ⟨xs, hq, hx⟩ := hg
    obtain ⟨its, rv, tup, _⟩ := I.tuple hq
    have hl := rv.length
    obtain ⟨f0, f1, f2, f3, f4, f5⟩ := hf it (by simp)
    have D : Draws X.prog X.w X.A.in1 it [it, a] i (fun _ _ => False) (fun j h => j = i ∧ h.IsTupleIter it a i ∧ h.IsTuple a its.toArray) := {
      live := fun j h z => let ⟨_, ⟨o, q, _⟩, _⟩ := z; ⟨o, q⟩
      frame := fun j h h' z kp => ⟨z.1, z.2.1.at fun o q => kp it (by simp) o q, z.2.2.at fun o q => kp a (by simp) o q⟩
      item := fun j s' Q E' hj z => absurd z.1 (Nat.ne_of_lt hj)
      done := fun s' Q E' z fin => wpAny_nextOf_tuple_end (I.ok.hd hc) z.2.1 z.2.2 (by simp; omega) fin }
    exact wpAny_pyNext_enum_endD D he ⟨rfl, hit, tup⟩ fun h' eb => ⟨rfl, I.turned (t' := s.toks) (fun b o hb q => eb b o hb q) f0 f1 f3 f4 f5⟩
  self := fun A i s Q E st h => let ⟨⟨_, he⟩, _⟩ := st; wpAny_pyIter_enum he h
def iEnT (K : PySem.W.Frag) (ta : TA) : TI := fun σ H R => ta σ H fun vs H1 => ∃ a xs, vs = [.ref a] ∧ SqT K H1 a xs ∧ R (ItN K a) H1
theorem pi_enumT {X : Cx} {e : Expr} {ta : TA} {p pos tpos : Pos} {elts : List Expr} {kk : Nat} (hg : Gl X "enumerate") (hm : X.mg "enumerate" = none) (ha : PA X [e] ta) (hs : starEach [e] X.env = [(false, eval e X.env)] := by rfl) :
    PI X (.Tuple elts kk tpos) (.Call (.Name "enumerate" p) [e] [] pos) (iEnT X.K ta) := by
  refine ⟨fun pins s σ H R I want => Call_ (ld_blt I hg hm boot_enumerate (PyProof.Rows.callWith_type1 (thn (ha.run pos pins s σ H _ I want) fun us s1 got => ?_) hs rfl))⟩
  obtain ⟨vs, H1, J, rel, a, xs, ex, hq, q⟩ := got
  subst ex
  obtain ⟨u, eu, r1⟩ := vals1 rel
  subst eu
  obtain rfl : u = Value.ref a := r1
  obtain ⟨its, rv, tup, _⟩ := J.tuple hq
  have la : a < s1.heap.objs.size := let ⟨_, q, _⟩ := tup; Heap.lt_size q
  refine call_enumT (items := its.toArray) tup fun h' he hit kp => wpAny_pyIter_enum he ?_
  have J2 : Inv X pins σ H1 { s1 with heap := h' } := J.kept (t' := s1.toks) kp
  refine ⟨s1.heap.objs.size + 1, [s1.heap.objs.size + 1, s1.heap.objs.size], _, _, H1, rfl, J2, turn_enumT a (s1.heap.objs.size + 1) s1.heap.objs.size (Nat.succ_ne_self _) (Nat.ne_of_lt la) (Nat.ne_of_gt (Nat.lt_succ_of_lt la)), ⟨⟨.none, he⟩, hit⟩, fun b hb => ?_, q⟩
  have lb : s1.heap.objs.size ≤ b := by
    rcases List.mem_cons.mp hb with rfl | hb
    · exact Nat.le_succ _
    · rw [List.mem_singleton.mp hb]
      exact Nat.le_refl _
  exact J.fpOk lb (J.hok.fresh lb)
theorem walk_enumT {K : PySem.W.Frag} {a : Addr} {xs : List V} : Walk (ItN K a) xs.length (fun H => SqT K H a xs) (YPair (fun i => some (.int (i : Nat))) (fun i => xs[i]?)) :=
  ⟨fun i H hi h => ⟨xs, xs[i], h, List.getElem?_eq_getElem hi⟩, fun H h => ⟨xs, h, Nat.le_refl _⟩, fun i H x H' hi h y => by
    obtain ⟨T, z, e1, e2, e3, e4⟩ := y
    exact ⟨T, _, z, e1, e2, e3, rfl, e4 xs h⟩⟩
/-! ### zip of three tuples of one length -/
def ItZ (K : PySem.W.Frag) (a b c : Addr) : It where
  go := fun i H => ∃ (xs ys zs : List V), (SqT K H a xs ∧ SqT K H b ys ∧ SqT K H c zs) ∧ i < xs.length ∧ ys.length = xs.length ∧ zs.length = xs.length
  yld := fun i H v H' => ∃ T x y z, v = .ref T ∧ H T = none ∧ H' = upd H T (.tup [x, y, z]) ∧ (∀ xs, SqT K H a xs → xs[i]? = some x) ∧ (∀ ys, SqT K H b ys → ys[i]? = some y) ∧ ∀ zs, SqT K H c zs → zs[i]? = some z
  stop := fun i H => ∃ (xs ys zs : List V), (SqT K H a xs ∧ SqT K H b ys ∧ SqT K H c zs) ∧ xs.length = i ∧ ys.length = i ∧ zs.length = i
theorem turn_zip3 {P : Program} {w : World} {K : PySem.W.Frag} {elts : List Expr} {kk : Nat} {tpos : Pos} {a b c z TI TO i1 i2 i3 : Addr} (S : ZipSep3 z TI TO i1 i2 i3 [i1, a] [i2, b] [i3, c]) (n1 : a ≠ i1) (n2 : b ≠ i2) (n3 : c ≠ i3) :
    Turn P w K (.Tuple elts kk tpos) (ItZ K a b c) [z, TI, TO, i1, i2, i3] z (fun i h => IsZip h z TI TO .none ∧ IsTupOf3 h TI (.ref i1) (.ref i2) (.ref i3) ∧ (∃ a1 a2 a3, IsTupOf3 h TO a1 a2 a3) ∧ h.IsTupleIter i1 a i ∧ h.IsTupleIter i2 b i ∧ h.IsTupleIter i3 c i) where
  mem := List.mem_cons_self
  obj := by
    rintro i h ⟨hz, hTI, ⟨a1, a2, a3, hTO⟩, ⟨o1, e1, _, d1⟩, ⟨o2, e2, _, d2⟩, ⟨o3, e3, _, d3⟩⟩ q hq
    simp only [List.mem_cons, List.not_mem_nil, or_false] at hq
    rcases hq with rfl | rfl | rfl | rfl | rfl | rfl
    · exact ⟨_, hz, fun v y => nomatch y⟩
    · exact ⟨_, hTI, fun v y => nomatch y⟩
    · exact ⟨_, hTO, fun v y => nomatch y⟩
    · exact ⟨o1, e1, fun v y => by rw [d1] at y; cases y⟩
    · exact ⟨o2, e2, fun v y => by rw [d2] at y; cases y⟩
    · exact ⟨o3, e3, fun v y => by rw [d3] at y; cases y⟩
  keep := by
    rintro i h h' ⟨hz, hTI, ⟨a1, a2, a3, hTO⟩, t1, t2, t3⟩ kp
    exact ⟨kp z (by simp) _ hz, kp TI (by simp) _ hTI, ⟨a1, a2, a3, kp TO (by simp) _ hTO⟩, t1.at fun o q => kp i1 (by simp) o q, t2.at fun o q => kp i2 (by simp) o q, t3.at fun o q => kp i3 (by simp) o q⟩
  item := by
    intro X hP hw hK hc i pins s σ H E I hf st hg
    subst hP hw hK
    obtain ⟨hz, hTI, hTO, t1, t2, t3⟩ := st
    obtain ⟨xs, ys, zs, ⟨qx, qy, qz⟩, hi, ly, lz⟩ := hg
    obtain ⟨us, ru, tu, _⟩ := I.tuple qx
    obtain ⟨vs, rv, tv, _⟩ := I.tuple qy
    obtain ⟨ws, rw', tw, _⟩ := I.tuple qz
    have lu := ru.length
    have lv := rv.length
    have lw := rw'.length
    obtain ⟨u, hu, eu⟩ := ru.get (List.getElem?_eq_getElem hi)
    obtain ⟨v, hv, ev⟩ := rv.get (List.getElem?_eq_getElem (show i < ys.length by omega))
    obtain ⟨w', hw, ew⟩ := rw'.get (List.getElem?_eq_getElem (show i < zs.length by omega))
    have W := WalksT.zipD3 (A := X.A) S (Draws.tuple (prog := X.prog) (w := X.w) (A := X.A.in1) (I.ok.hd hc) i1 a n1 us.toArray) (Draws.tuple (prog := X.prog) (w := X.w) (A := X.A.in1) (I.ok.hd hc) i2 b n2 vs.toArray) (Draws.tuple (prog := X.prog) (w := X.w) (A := X.A.in1) (I.ok.hd hc) i3 c n3 ws.toArray)
    refine W.item i s _ _ (by simp only [List.size_toArray]; omega) ⟨hz, hTI, hTO, ⟨t1, tu⟩, ⟨t2, tv⟩, ⟨t3, tw⟩⟩ fun T vals h' tk hp newT isT mid kp => ?_
    obtain ⟨y1, y2, y3, p1, p2, p3, rfl⟩ := hp
    have apart := W.apart i T h' mid
    obtain rfl : u = y1 := Option.some.inj (((by simpa using hu) : us.toArray[i]? = some u).symm.trans p1)
    obtain rfl : v = y2 := Option.some.inj (((by simpa using hv) : vs.toArray[i]? = some v).symm.trans p2)
    obtain rfl : w' = y3 := Option.some.inj (((by simpa using hw) : ws.toArray[i]? = some w').symm.trans p3)
    refine ⟨_, rfl, W.go elts kk tpos i T { s with heap := h', toks := tk } _ _ mid fun h2 st2 kp2 => ?_⟩
    obtain ⟨g1, g2, g3, ⟨g4, _⟩, ⟨g5, _⟩, ⟨g6, _⟩⟩ := st2
    have objT : ObjOk X.prog X.w (upd H T (.tup [xs[i], ys[i], zs[i]])) h2 T (.tup [xs[i], ys[i], zs[i]]) := by
      obtain ⟨ot, et, ct, nt, dt⟩ := isT
      exact ⟨by show 3 ≤ sizeLine; decide, [u, v, w'], .cons eu (.cons ev (.cons ew .nil)), ⟨ot, kp2 _ _ apart et, ct, nt, dt⟩⟩
    have J : Inv X pins σ (upd H T (.tup [xs[i], ys[i], zs[i]])) { s with heap := h2, toks := tk } := I.turnedNew (ch := [z, TI, TO, i1, i2, i3]) (fun q ob hq e => by
      simp only [List.mem_cons, List.not_mem_nil, or_false, not_or] at hq
      have nw : q ∉ [z, TO, i1, i2, i3] := by simp [hq]
      exact kp2 q ob nw (kp q ob nw e)) hf newT objT
    refine ⟨.ref T, _, J, rfl, ⟨T, _, _, _, rfl, I.hok.fresh newT, rfl, fun l hl => by rw [I.tuple_inj hl qx]; exact List.getElem?_eq_getElem hi, fun l hl => by rw [I.tuple_inj hl qy]; exact List.getElem?_eq_getElem _, fun l hl => by rw [I.tuple_inj hl qz]; exact List.getElem?_eq_getElem _⟩, ⟨g1, g2, g3, g4, g5, g6⟩, fun q hq => ?_⟩
    have lq : q < s.heap.objs.size := by
      obtain ⟨_, _, ⟨a1, a2, a3, hTO⟩⟩ := (⟨hz, hTI, hTO⟩ : _ ∧ _ ∧ _)
      obtain ⟨o1, e1, _⟩ := t1
      obtain ⟨o2, e2, _⟩ := t2
      obtain ⟨o3, e3, _⟩ := t3
      simp only [List.mem_cons, List.not_mem_nil, or_false] at hq
      rcases hq with rfl | rfl | rfl | rfl | rfl | rfl
      · exact Heap.lt_size hz
      · exact Heap.lt_size hTI
      · exact Heap.lt_size hTO
      · exact Heap.lt_size e1
      · exact Heap.lt_size e2
      · exact Heap.lt_size e3
    rw [upd_ne (Nat.ne_of_lt (Nat.lt_of_lt_of_le lq newT))]
    exact (hf q hq).1
  done := by
    intro X hP hw hK hc i pins s σ H E I hf st hg
    subst hP hw hK
    obtain ⟨hz, hTI, hTO, t1, t2, t3⟩ := st
    obtain ⟨xs, ys, zs, ⟨qx, qy, qz⟩, lx, ly, lz⟩ := hg
    obtain ⟨us, ru, tu, _⟩ := I.tuple qx
    obtain ⟨vs, rv, tv, _⟩ := I.tuple qy
    obtain ⟨ws, rw', tw, _⟩ := I.tuple qz
    have lu := ru.length
    have lv := rv.length
    have lw := rw'.length
    have W := WalksT.zipD3 (A := X.A) S (Draws.tuple (prog := X.prog) (w := X.w) (A := X.A.in1) (I.ok.hd hc) i1 a n1 us.toArray) (Draws.tuple (prog := X.prog) (w := X.w) (A := X.A.in1) (I.ok.hd hc) i2 b n2 vs.toArray) (Draws.tuple (prog := X.prog) (w := X.w) (A := X.A.in1) (I.ok.hd hc) i3 c n3 ws.toArray)
    have en : min (min us.toArray.size vs.toArray.size) ws.toArray.size = i := by simp only [List.size_toArray]; omega
    refine W.done s _ _ ?_ fun h' tk kp => ⟨rfl, ?_⟩
    · rw [en]
      exact ⟨hz, hTI, hTO, ⟨t1, tu⟩, ⟨t2, tv⟩, ⟨t3, tw⟩⟩
    · refine I.turnedL (ch := [z, TI, TO, i1, i2, i3]) (fun q ob hq e => ?_) hf
      simp only [List.mem_cons, List.not_mem_nil, or_false, not_or] at hq
      exact kp q ob (by simp [hq]) e
  self := by
    rintro A i s Q E ⟨hz, _⟩ h
    exact wpAny_pyIter_zip hz h
def iZip3 (K : PySem.W.Frag) (ta : TA) : TI := fun σ H R => ta σ H fun vs H1 => ∃ a b c xs ys zs, vs = [.ref a, .ref b, .ref c] ∧ SqT K H1 a xs ∧ SqT K H1 b ys ∧ SqT K H1 c zs ∧ R (ItZ K a b c) H1
theorem pi_zip3 {X : Cx} {e e2 e3 : Expr} {ta : TA} {p pos tpos : Pos} {elts : List Expr} {kk : Nat} (hg : Gl X "zip") (hm : X.mg "zip" = none) (ha : PA X [e, e2, e3] ta) (hs : starEach [e, e2, e3] X.env = (false, eval e X.env) :: starEach [e2, e3] X.env := by rfl)
    (hpl : (backTo pos (starEach [e2, e3] X.env)).any (·.1) = false := by rfl) : PI X (.Tuple elts kk tpos) (.Call (.Name "zip" p) [e, e2, e3] [] pos) (iZip3 X.K ta) := by
  refine ⟨fun pins s σ H R I want => Call_ (ld_blt I hg hm PyProof.Rows.boot_zip (PyProof.Rows.callWith_type1 (thn (ha.run pos pins s σ H _ I want) fun us s1 got => ?_) hs hpl))⟩
  obtain ⟨vs, H1, J, rel, a, b, c, xs, ys, zs, ex, qa, qb, qc, q⟩ := got
  subst ex
  cases rel with
  | cons r1 rel =>
    cases rel with
    | cons r2 rel =>
      cases rel with
      | cons r3 rel =>
        cases rel
        cases r1
        cases r2
        cases r3
        obtain ⟨u1, _, t1, _⟩ := J.tuple qa
        obtain ⟨u2, _, t2, _⟩ := J.tuple qb
        obtain ⟨u3, _, t3, _⟩ := J.tuple qc
        have la : a < s1.heap.objs.size := let ⟨_, y, _⟩ := t1; Heap.lt_size y
        have lb : b < s1.heap.objs.size := let ⟨_, y, _⟩ := t2; Heap.lt_size y
        have lc : c < s1.heap.objs.size := let ⟨_, y, _⟩ := t3; Heap.lt_size y
        refine zip_begins3 (begins_tuple a u1.toArray) (begins_tuple b u2.toArray) (begins_tuple c u3.toArray) t1 t2 t3 fun h' hz hTI hTO g1 g2 g3 _ kp => wpAny_pyIter_zip hz ?_
        have J2 : Inv X pins σ H1 { s1 with heap := h' } := J.kept (t' := s1.toks) kp
        have S := zip_sep3 (N := s1.heap.objs.size) (fp1 := [a]) (fp2 := [b]) (fp3 := [c]) (fun y hy => by rw [List.mem_singleton.mp hy]; exact la) (fun y hy => by rw [List.mem_singleton.mp hy]; exact lb) (fun y hy => by rw [List.mem_singleton.mp hy]; exact lc)
        refine ⟨s1.heap.objs.size + 5, [s1.heap.objs.size + 5, s1.heap.objs.size + 3, s1.heap.objs.size + 4, s1.heap.objs.size, s1.heap.objs.size + 1, s1.heap.objs.size + 2], _, _, H1, rfl, J2, turn_zip3 S (Nat.ne_of_lt la) (Nat.ne_of_lt (Nat.lt_succ_of_lt lb)) (Nat.ne_of_lt (Nat.lt_succ_of_lt (Nat.lt_succ_of_lt lc))), ⟨hz, hTI, ⟨_, _, _, hTO⟩, ⟨_, g1, rfl, rfl⟩, ⟨_, g2, rfl, rfl⟩, ⟨_, g3, rfl, rfl⟩⟩, fun y hy => ?_, q⟩
        have ly : s1.heap.objs.size ≤ y := by
          simp only [List.mem_cons, List.not_mem_nil, or_false] at hy
          rcases hy with rfl | rfl | rfl | rfl | rfl | rfl
          · exact Nat.le_add_right _ _
          · exact Nat.le_add_right _ _
          · exact Nat.le_add_right _ _
          · exact Nat.le_refl _
          · exact Nat.le_add_right _ _
          · exact Nat.le_add_right _ _
        exact J.fpOk ly (J.hok.fresh ly)
/-! ### len(set(t)) of a tuple of ints -/
theorem sub_len : ∀ {ks ns : List Int}, ks.Nodup → (∀ x ∈ ks, x ∈ ns) → ks.length ≤ ns.length
  | [], _, _, _ => Nat.zero_le _
  | k :: ks, ns, nd, h => by
    rw [List.nodup_cons] at nd
    have hk := h k (by simp)
    have q := sub_len (ks := ks) (ns := ns.erase k) nd.2 fun x hx => (List.mem_erase_of_ne (fun z => nd.1 (by rw [← z]; exact hx))).mpr (h x (List.mem_cons_of_mem _ hx))
    rw [List.length_erase_of_mem hk] at q
    have : 0 < ns.length := List.length_pos_of_mem hk
    rw [List.length_cons]
    omega
theorem twice : ∀ {ns : List Int}, ¬ ns.Nodup → ∃ x, x ∈ ns ∧ x ∈ ns.erase x
  | [], h => absurd List.nodup_nil h
  | y :: l, h => by
    by_cases hy : y ∈ l
    · exact ⟨y, by simp, by rw [List.erase_cons_head]; exact hy⟩
    · have hl : ¬ l.Nodup := fun z => h (List.nodup_cons.mpr ⟨hy, z⟩)
      obtain ⟨x, h1, h2⟩ := twice hl
      refine ⟨x, List.mem_cons_of_mem _ h1, ?_⟩
      have ne : y ≠ x := fun z => hy (by rw [z]; exact h1)
      rw [List.erase_cons_tail (by simpa using ne)]
      exact List.mem_cons_of_mem _ h2
theorem many_iff {ks ns : List Int} (nd : ks.Nodup) (h : ∀ x, x ∈ ns ↔ x ∈ ks) : ks.length = ns.length ↔ ns.Nodup := by
  constructor
  · intro e
    by_cases hn : ns.Nodup
    · exact hn
    · obtain ⟨x, h1, h2⟩ := twice hn
      have q := sub_len (ns := ns.erase x) nd fun y hy => by
        by_cases e2 : y = x
        · rw [e2]
          exact h2
        · exact (List.mem_erase_of_ne e2).mpr ((h y).mpr hy)
      rw [List.length_erase_of_mem h1] at q
      have : 0 < ns.length := List.length_pos_of_mem h1
      omega
  · intro hn
    have q1 := sub_len nd fun y hy => (h y).mpr hy
    have q2 := sub_len hn fun y hy => (h y).mp hy
    omega
def tLenSet (K : PySem.W.Frag) (ta : TE) : TE := fun σ H Q => ta σ H fun x H1 => ∃ (l : Addr) (ns : List Int), x = .ref l ∧ SqT K H1 l (ns.map V.int) ∧ ns.length ≤ 4000 ∧ ∀ c : Nat, (c = ns.length ↔ ns.Nodup) → Q (.int c) H1
theorem pe_lenSetT {X : Cx} {a : Expr} {ta : TE} {p p2 q pos : Pos} (hg : Gl X "len") (hm : X.mg "len" = none) (hg2 : Gl X "set") (hm2 : X.mg "set" = none) (ha : PE X a ta) (hc : X.calm = true := by rfl)
    (na : starEach [a] X.env = (false, eval a X.env) :: starEach [] X.env := by rfl) : PE X (.Call (.Name "len" p) [.Call (.Name "set" p2) [a] [] q] [] pos) (tLenSet X.K ta) := by
  refine ⟨fun pins s σ H Q I want => Call_ (ld_blt I hg hm PySem.boot_len (PyProof.Rows.callWith_builtin1 (PyProof.Rows.args_cons (Call_ (ld_blt I hg2 hm2 PyProof.Rows.boot_set (PyProof.Rows.callWith_type1 (PyProof.Rows.args_cons (thn (ha.run pins s σ H _ I want) fun v s1 got => PyProof.Rows.args_nil ?_) na) na rfl))) rfl) rfl rfl))⟩
  obtain ⟨x, H1, J, r1, l, ns, ex, hq, hl, q1⟩ := got
  subst ex
  obtain rfl : v = Value.ref l := r1
  obtain ⟨its, rel, tup, _⟩ := J.tuple hq
  refine call_set_tupI ns (J.ok.hd hc) tup (by simpa using rel.ints) (by unfold scanBound; omega) fun h' tk c hS hcl kp => PyProof.Rows.args_nil ?_
  obtain ⟨o, es, ep, t, ho, hex, hd, _, nd, mem, _, hf, hn, _⟩ := hS
  have J2 : Inv X pins σ H1 { s1 with heap := h', toks := tk } := J.kept kp
  have len : (es.toList.map keyOf).length = c := by rw [List.length_map, Array.length_toList, hn]
  have key : c = ns.length ↔ ns.Nodup := by
    rw [← len]
    refine many_iff nd fun y => ?_
    rw [← mem y, decide_eq_true_iff]
  exact call_len_set ho hex hd hf (by omega) ⟨.int c, H1, J2.tok _, ⟨_, by rw [hn]⟩, q1 c key⟩
/-! ### t[::-1] of a tuple -/
theorem fm_congr {α β : Type} {f g : α → Option β} : ∀ {l : List α}, (∀ x ∈ l, f x = g x) → l.filterMap f = l.filterMap g
  | [], _ => rfl
  | x :: l, h => by
    rw [List.filterMap_cons, List.filterMap_cons, h x (by simp), fm_congr (l := l) fun y hy => h y (List.mem_cons_of_mem _ hy)]
theorem back_pick (items : Array Value) : ((List.range items.size).filterMap fun (k : Nat) => items[((items.size : Int) - 1 + (k : Int) * (-1)).toNat]?).toArray = items.toList.reverse.toArray := by
  have e : (List.range items.size).filterMap (fun (k : Nat) => items[((items.size : Int) - 1 + (k : Int) * (-1)).toNat]?) = ((List.range items.size).map fun k => items.size - 1 - k).filterMap (items[·]?) := by
    rw [List.filterMap_map]
    refine fm_congr fun k hk => ?_
    have := List.mem_range.mp hk
    show _ = items[items.size - 1 - k]?
    congr 1
    omega
  rw [e, PySem.W.krv_range, List.filterMap_reverse, PySem.W.krv_all]
section
variable {P : Program} {w : World} {A : PySem.Around} {E : Value → Shared → Prop} {s : Shared}
theorem applied_back {sl : Addr} {vk : Value} {n : Nat} {Q : Int × Int × Nat → Shared → Prop} (hs : s.heap.IsSliceOf sl .none .none vk) (pk : IsPart vk (some (-1))) (h : Q ((n : Int) - 1, -1, n) s) : wpAny (model P w) A (Builtin.Slice.sliceApplied (.ref sl) (pure (n : Int))) Q E s := by
  obtain ⟨os, look, _, flds⟩ := id hs
  unfold Builtin.Slice.sliceApplied Builtin.Slice.sliceFields
  refine wpAny_bind (wpAny_bind (wpAny_field look flds (x := .none) rfl (wpAny_bind (wpAny_field look flds (x := .none) rfl (wpAny_bind (wpAny_field look flds (x := vk) rfl (wpAny_pure ?_)))))))
  refine wpAny_bind (HT.slicePart_ pk ?_)
  show wpAny _ _ (if ((-1 : Int) == 0) = true then _ else _) _ _ s
  rw [if_neg (by decide)]
  refine wpAny_bind (HT.slicePart_ .none (wpAny_bind (HT.slicePart_ .none (wpAny_bind (wpAny_pure ?_)))))
  have pl : Builtin.Slice.slicePlaces ((n : Int) - 1) (-1) (-1) = n := by
    unfold Builtin.Slice.slicePlaces
    rw [if_neg (by decide)]
    by_cases z : (n : Int) - 1 > -1
    · rw [if_pos z, show (-(-1) : Int) = 1 from by decide, Int.ediv_one]
      omega
    · rw [if_neg z]
      omega
  show wpAny _ _ (pure ((n : Int) - 1, (-1 : Int), Builtin.Slice.slicePlaces ((n : Int) - 1) (-1) (-1))) _ _ s
  rw [pl]
  exact wpAny_pure h
theorem getItem_back {t sl : Addr} {items : Array Value} {vk : Value} {Q : Value → Shared → Prop} (ht : IsTup s.heap t items) (hs : s.heap.IsSliceOf sl .none .none vk) (pk : IsPart vk (some (-1))) (hsz : items.size ≤ sizeLine)
    (h : Q (.ref s.heap.objs.size) { s with heap := s.heap.push { cls := .type "tuple", data := .seq items.toList.reverse.toArray } }) : wpAny (model P w) A (getItem (.ref t) (.ref sl)) Q E s := by
  have small : sizeOk (.seq items.toList.reverse.toArray) := by
    show items.toList.reverse.toArray.size ≤ sizeLine
    rw [List.size_toArray, List.length_reverse, Array.length_toList]
    exact hsz
  obtain ⟨os, look, kind, _⟩ := id hs
  have isSl : s.TypeIs (.ref sl) "slice" := ⟨os, look, kind⟩
  unfold getItem
  try with_reducible refine wpAny_holding ?_
  first | refine wpAny_bind (wpAny_pure ?_) | skip
  refine wpAny_bind (wpAny_sequenceKey ht.typeIs (by decide) ?_)
  refine wpAny_bind (wpAny_callSpecial?_slot (name := Str.ofString "__getitem__") ht.typeIs PyProof.Rows.slot_tuple_getitem (wpAny_call_entry PyProof.Rows.slot_tuple_getitem ht.typeIs PySem.F.entry_tuple_getitem ?_ (PySem.F.args_tuple_getitem_2 _ _)))
  show wpAny _ _ (Builtin.Tuple.tupleItemsOf (.ref t) >>= _) _ _ s
  refine wpAny_bind (tupleItemsOf_ ht ?_)
  refine wpAny_bind (wpAny_typeOf isSl ?_)
  rw [if_pos (by decide)]
  refine wpAny_bind (applied_back hs pk ?_)
  have no : ¬ (((items.size : Int) - 1 == 0 && (-1 : Int) == 1 && items.size == items.size) = true) := by
    intro z
    rw [Bool.and_eq_true, Bool.and_eq_true] at z
    exact absurd z.1.2 (by decide)
  show wpAny _ _ (if ((items.size : Int) - 1 == 0 && (-1 : Int) == 1 && items.size == items.size) = true then _ else _) _ _ s
  rw [if_neg no, back_pick]
  first
    | exact wpAny_bind (m := Builtin.Tuple.tupleExact _) (wpAny_newObj_type (wpAny_pure ⟨_, rfl, wpAny_pure h⟩) small)
    | exact wpAny_bind (wpAny_bind (m := Builtin.Tuple.tupleExact _) (wpAny_newObj_type (wpAny_pure (wpAny_pure ⟨_, rfl, wpAny_pure h⟩)) small))
    | exact wpAny_bind (m := Builtin.Tuple.tupleExact _) (wpAny_newObj_type (wpAny_bind (wpAny_pure (wpAny_pure ⟨_, rfl, wpAny_pure h⟩))) small)
end
def tRevT (K : PySem.W.Frag) (te : TE) : TE := fun σ H Q => te σ H fun x H1 => ∃ a xs, x = .ref a ∧ SqT K H1 a xs ∧ ∀ p, H1 p = none → Q (.ref p) (upd H1 p (.tup xs.reverse))
theorem pe_revT {X : Cx} {e : Expr} {te : TE} {k : Nat} {p1 p2 p3 pos : Pos} (he : PE X e te) : PE X (.Subscript e (.Slice none none (some (.UnaryOp .USub (.Constant (.int 1) k p1) p2)) p3) pos) (tRevT X.K te) := by
  refine ⟨fun pins s σ H Q I want => Subscript_ (thn (he.run pins s σ H _ I want) fun v s1 got => ?_)⟩
  obtain ⟨x, H1, I1, r1, a, xs, ex, hx, q⟩ := got
  subst ex
  obtain rfl : v = Value.ref a := r1
  have step : PO X (some (.UnaryOp .USub (.Constant (.int 1) k p1) p2)) (tPart (tUn (rU fun i => .int (-i)) (tC (.int 1)))) := po_some (pe_un un_neg pe_int)
  refine wpAny_Slice (thn (po_none.run pins s1 σ H1 (fun o H2 => o = none ∧ H2 = H1) I1 ⟨rfl, rfl⟩) fun vl s2 got2 => ?_)
  obtain ⟨_, _, I2, pl, rfl, rfl⟩ := got2
  refine thn (po_none.run pins s2 σ _ (fun o H3 => o = none ∧ H3 = _) I2 ⟨rfl, rfl⟩) fun vu s3 got3 => ?_
  obtain ⟨_, _, I3, pu, rfl, rfl⟩ := got3
  refine thn (step.run pins s3 σ _ (fun o H4 => o = some (-1) ∧ H4 = _) I3 ⟨1, rfl, -1, rfl, rfl, rfl⟩) fun vk s4 got4 => ?_
  obtain ⟨_, H4, I4, pk, rfl, rfl⟩ := got4
  cases pl
  cases pu
  have I5 : Inv X pins σ H4 { s4 with heap := s4.heap.push { cls := .type "slice", data := .fields #[.none, .none, vk] } } := I4.kept (t' := s4.toks) fun b ob z => Heap.get?_push_of_some _ z
  obtain ⟨its, rel, tup, small⟩ := I5.tuple hx
  have hlen := rel.length
  show wpAny (model X.prog X.w) X.A (subscriptTail e (.Slice none none (some (.UnaryOp .USub (.Constant (.int 1) k p1) p2)) p3) (.ref a) (.ref s4.heap.objs.size)) (EP X pins σ Q) X.xe _
  refine tail_any (ops := [.ref a, .ref s4.heap.objs.size]) tup.typeIs PyProof.Rows.slot_tuple_getitem.lookup ?_ (by with_unfolding_all rfl)
  refine getItem_back tup (Heap.IsSliceOf.new _ .none .none vk) pk (by rw [List.size_toArray]; omega) ?_
  refine ⟨.ref _, _, I5.laid (t' := s4.toks) (o := .tup xs.reverse) (fun b ob z => Heap.get?_push_of_some _ z) (Nat.le_refl _) ?_, rfl, q _ (I5.hok.fresh (Nat.le_refl _))⟩
  exact ⟨by rw [List.length_reverse]; exact small, _, rel.reverse, IsTup.new _ _⟩
/-! ### ties, walks, parts: the mathematics -/
def Adj (ts : List Tie) (a b : Int) (foe : Bool) : Prop := ∃ t ∈ ts, t.foe = foe ∧ ((t.one = a ∧ t.other = b) ∨ (t.one = b ∧ t.other = a))
theorem Adj.symm {ts : List Tie} {a b : Int} {k : Bool} (h : Adj ts a b k) : Adj ts b a k := by
  obtain ⟨t, ht, e, h⟩ := h
  exact ⟨t, ht, e, h.symm⟩
/-- a walk with so many foes, even or odd -/
inductive RP (ts : List Tie) (a : Int) : Int → Bool → Prop
  | nil : RP ts a a false
  | step {b c : Int} {p k : Bool} : RP ts a b p → Adj ts b c k → RP ts a c (p ^^ k)
def Rch (ts : List Tie) (a b : Int) : Prop := ∃ p, RP ts a b p
theorem RP.trans {ts : List Tie} {a b c : Int} {p q : Bool} (h : RP ts a b p) (g : RP ts b c q) : RP ts a c (p ^^ q) := by
  induction g with
  | nil =>
    rw [Bool.xor_false]
    exact h
  | step _ k ih =>
    rw [← Bool.xor_assoc]
    exact ih.step k
theorem RP.one {ts : List Tie} {a b : Int} {k : Bool} (h : Adj ts a b k) : RP ts a b k := by
  have q := RP.nil.step h
  rw [Bool.false_xor] at q
  exact q
theorem RP.symm {ts : List Tie} {a b : Int} {p : Bool} (h : RP ts a b p) : RP ts b a p := by
  induction h with
  | nil => exact .nil
  | step _ k ih =>
    have q := (RP.one k.symm).trans ih
    rw [Bool.xor_comm] at q
    exact q
theorem Rch.refl {ts : List Tie} {a : Int} : Rch ts a a := ⟨_, .nil⟩
theorem Rch.symm {ts : List Tie} {a b : Int} (h : Rch ts a b) : Rch ts b a := by
  obtain ⟨p, h⟩ := h
  exact ⟨p, h.symm⟩
theorem Rch.trans {ts : List Tie} {a b c : Int} (h : Rch ts a b) (g : Rch ts b c) : Rch ts a c := by
  obtain ⟨p, h⟩ := h
  obtain ⟨q, g⟩ := g
  exact ⟨_, h.trans g⟩
theorem Rch.adj {ts : List Tie} {a b : Int} {k : Bool} (h : Adj ts a b k) : Rch ts a b := ⟨_, RP.one h⟩
theorem Rch.ind {ts : List Tie} {a b : Int} (C : Int → Prop) (h : Rch ts a b) (h0 : C a) (hs : ∀ x y k, C x → Adj ts x y k → C y) : C b := by
  obtain ⟨p, h⟩ := h
  induction h with
  | nil => exact h0
  | step _ k ih => exact hs _ _ _ ih k
theorem Adj.rng {ts : List Tie} {n a b : Int} {k : Bool} (ok : ∀ t ∈ ts, TieOk n t) (h : Adj ts a b k) : 0 ≤ b ∧ b < n := by
  obtain ⟨t, ht, _, h⟩ := h
  obtain ⟨h1, h2, h3, h4, _⟩ := ok t ht
  rcases h with ⟨e1, e2⟩ | ⟨e1, e2⟩
  · omega
  · omega
theorem Rch.rng {ts : List Tie} {n a b : Int} (ok : ∀ t ∈ ts, TieOk n t) (ha : 0 ≤ a ∧ a < n) (h : Rch ts a b) : 0 ≤ b ∧ b < n := h.ind (fun x => 0 ≤ x ∧ x < n) ha fun _ _ _ _ k => k.rng ok
def leader (ts : List Tie) (s : Int) : Prop := ∀ q, Rch ts s q → s ≤ q
/-- rising lists of the same numbers are one -/
theorem rising_ext : ∀ {xs ys : List Int}, xs.Pairwise (· < ·) → ys.Pairwise (· < ·) → (∀ z, z ∈ xs ↔ z ∈ ys) → xs = ys
  | [], [], _, _, _ => rfl
  | [], y :: ys, _, _, h => by have := (h y).mpr (by simp); simp at this
  | x :: xs, [], _, _, h => by have := (h x).mp (by simp); simp at this
  | x :: xs, y :: ys, hx, hy, h => by
    rw [List.pairwise_cons] at hx hy
    have e : x = y := by
      have h1 := (h x).mp (by simp)
      have h2 := (h y).mpr (by simp)
      rcases List.mem_cons.mp h1 with e | e
      · exact e
      · rcases List.mem_cons.mp h2 with e' | e'
        · exact e'.symm
        · have := hx.1 y e'
          have := hy.1 x e
          omega
    subst e
    rw [rising_ext hx.2 hy.2 fun z => ?_]
    constructor
    · intro hz
      rcases List.mem_cons.mp ((h z).mp (List.mem_cons_of_mem _ hz)) with e | e
      · have := hx.1 z hz
        omega
      · exact e
    · intro hz
      rcases List.mem_cons.mp ((h z).mpr (List.mem_cons_of_mem _ hz)) with e | e
      · have := hy.1 z hz
        omega
      · exact e
/-- 0, 1, .., n - 1 -/
def rng (n : Nat) : List Int := (List.range n).map fun (i : Nat) => (i : Int)
theorem mem_rng {n : Nat} {z : Int} : z ∈ rng n ↔ 0 ≤ z ∧ z < n := by
  unfold rng
  rw [List.mem_map]
  constructor
  · rintro ⟨i, hi, rfl⟩
    have := List.mem_range.mp hi
    omega
  · rintro ⟨h1, h2⟩
    exact ⟨z.toNat, List.mem_range.mpr (by omega), by omega⟩
theorem rng_rising (n : Nat) : (rng n).Pairwise (· < ·) := by
  unfold rng
  rw [List.pairwise_map]
  exact List.pairwise_lt_range.imp (by intro a b h; omega)
theorem rng_succ (n : Nat) : rng (n + 1) = rng n ++ [(n : Int)] := by
  unfold rng
  rw [List.range_succ, List.map_append]
  rfl
theorem rng_length (n : Nat) : (rng n).length = n := by
  unfold rng
  rw [List.length_map, List.length_range]
open Classical in
/-- the part of s -/
noncomputable def partOf (ts : List Tie) (n : Nat) (s : Int) : List Int := (rng n).filter fun p => decide (Rch ts s p)
open Classical in
/-- the parts by their first places, below i -/
noncomputable def partsTo (ts : List Tie) (n i : Nat) : List (List Int) := ((rng i).filter fun s => decide (leader ts s)).map (partOf ts n)
open Classical in
theorem partsTo_succ (ts : List Tie) (n i : Nat) : partsTo ts n (i + 1) = partsTo ts n i ++ (if leader ts i then [partOf ts n i] else []) := by
  unfold partsTo
  rw [rng_succ, List.filter_append, List.map_append]
  congr 1
  by_cases h : leader ts (i : Int)
  · rw [if_pos h, List.filter_cons, if_pos (decide_eq_true h)]
    rfl
  · rw [if_neg h, List.filter_cons, if_neg (by simpa using h)]
    rfl
theorem part_rising (ts : List Tie) (n : Nat) (s : Int) : (partOf ts n s).Pairwise (· < ·) := (rng_rising n).filter _
theorem mem_part {ts : List Tie} {n : Nat} {s z : Int} : z ∈ partOf ts n s ↔ (0 ≤ z ∧ z < n) ∧ Rch ts s z := by
  unfold partOf
  rw [List.mem_filter, mem_rng]
  simp
/-! ### the least place that each comes to, gone over again and again -/
def relax (f : Int → Int) (t : Tie) : Int → Int := fun x => if x = t.one ∨ x = t.other then min (f t.one) (f t.other) else f x
def rounds (ts : List Tie) : Nat → Int → Int
  | 0 => fun x => x
  | r + 1 => ts.foldl relax (rounds ts r)
theorem relax_le (f : Int → Int) (t : Tie) (x : Int) : relax f t x ≤ f x := by
  unfold relax
  split
  · rename_i h
    rcases h with rfl | rfl <;> omega
  · exact Int.le_refl _
theorem fold_le : ∀ (l : List Tie) (f : Int → Int) (x : Int), l.foldl relax f x ≤ f x
  | [], _, _ => Int.le_refl _
  | t :: l, f, x => Int.le_trans (fold_le l (relax f t) x) (relax_le f t x)
theorem fold_tie : ∀ (l : List Tie) (f : Int → Int) (t : Tie), t ∈ l → l.foldl relax f t.one ≤ min (f t.one) (f t.other) ∧ l.foldl relax f t.other ≤ min (f t.one) (f t.other)
  | t' :: l, f, t, h => by
    rcases List.mem_cons.mp h with e | e
    · subst e
      have h1 := fold_le l (relax f t) t.one
      have h2 := fold_le l (relax f t) t.other
      have e1 : relax f t t.one = min (f t.one) (f t.other) := by unfold relax; rw [if_pos (.inl rfl)]
      have e2 : relax f t t.other = min (f t.one) (f t.other) := by unfold relax; rw [if_pos (.inr rfl)]
      rw [e1] at h1
      rw [e2] at h2
      exact ⟨h1, h2⟩
    · have ih := fold_tie l (relax f t') t e
      have h1 := relax_le f t' t.one
      have h2 := relax_le f t' t.other
      exact ⟨Int.le_trans ih.1 (by omega), Int.le_trans ih.2 (by omega)⟩
theorem fold_rch {ts : List Tie} : ∀ (l : List Tie) (f : Int → Int), (∀ t ∈ l, t ∈ ts) → (∀ x, Rch ts x (f x)) → ∀ x, Rch ts x (l.foldl relax f x)
  | [], _, _, h => h
  | t :: l, f, hl, h => fold_rch l (relax f t) (fun t' ht => hl t' (List.mem_cons_of_mem _ ht)) fun x => by
    have ad : Rch ts t.one t.other := Rch.adj (k := t.foe) ⟨t, hl t (by simp), rfl, .inl ⟨rfl, rfl⟩⟩
    unfold relax
    split
    · rename_i hx
      have key : Rch ts x t.one ∧ Rch ts x t.other := by
        rcases hx with e | e <;> subst e
        · exact ⟨Rch.refl, ad⟩
        · exact ⟨ad.symm, Rch.refl⟩
      rcases Int.le_total (f t.one) (f t.other) with q | q
      · rw [Int.min_eq_left q]
        exact key.1.trans (h _)
      · rw [Int.min_eq_right q]
        exact key.2.trans (h _)
    · exact h x
theorem rounds_rch (ts : List Tie) : ∀ (r : Nat) (x : Int), Rch ts x (rounds ts r x)
  | 0, _ => Rch.refl
  | r + 1, x => fold_rch ts _ (fun _ h => h) (rounds_rch ts r) x
theorem filter_lt {p q : Int → Bool} : ∀ {l : List Int}, (∀ x ∈ l, q x = true → p x = true) → (∃ x ∈ l, p x = true ∧ q x = false) → (l.filter q).length < (l.filter p).length
  | [], _, ⟨x, hx, _⟩ => by simp at hx
  | y :: l, hi, ⟨x, hx, hp, hq⟩ => by
    have mono : (l.filter q).length ≤ (l.filter p).length := by
      have hi' : ∀ x ∈ l, q x = true → p x = true := fun x h => hi x (List.mem_cons_of_mem _ h)
      clear hi hx hp hq
      induction l with
      | nil => exact Nat.le_refl _
      | cons z l ih =>
        have ih := ih fun x h => hi' x (List.mem_cons_of_mem _ h)
        rw [List.filter_cons, List.filter_cons]
        have hz := hi' z (by simp)
        cases h1 : q z <;> cases h2 : p z <;> simp_all <;> omega
    rw [List.filter_cons, List.filter_cons]
    rcases List.mem_cons.mp hx with e | e
    · subst e
      rw [hq, hp]
      simp
      omega
    · have ih := filter_lt (l := l) (fun x h => hi x (List.mem_cons_of_mem _ h)) ⟨x, e, hp, hq⟩
      have hy := hi y (by simp)
      cases h1 : q y <;> cases h2 : p y <;> simp_all <;> omega
open Classical in
/-- behind as many rounds as there are places each has its part's least place -/
theorem rounds_least {ts : List Tie} {n : Nat} (ok : ∀ t ∈ ts, TieOk n t) {m p : Int} (hm : leader ts m) (h0 : 0 ≤ m ∧ m < n) (hp : Rch ts m p) : rounds ts n p = m := by
  have ge : ∀ r x, Rch ts m x → m ≤ rounds ts r x := fun r x hx => hm _ (hx.trans (rounds_rch ts r x))
  have mono : ∀ r x, rounds ts (r + 1) x ≤ rounds ts r x := fun r x => fold_le ts _ x
  have atm : ∀ r, rounds ts r m = m := fun r => by
    have h1 := ge r m Rch.refl
    have h2 : rounds ts r m ≤ m := by
      induction r with
      | zero => exact Int.le_refl _
      | succ r ih => exact Int.le_trans (mono r m) (ih (ge r m Rch.refl))
    omega
  have cnt : ∀ r, ((rng n).filter fun x => decide (Rch ts m x ∧ rounds ts r x ≠ m)).length ≤ n - r := fun r => by
    induction r with
    | zero =>
      refine Nat.le_trans (List.length_filter_le _ _) ?_
      rw [rng_length]
      omega
    | succ r ih =>
      by_cases hex : ∃ x, Rch ts m x ∧ rounds ts r x ≠ m
      · obtain ⟨x, hx, hne⟩ := hex
        -- an edge over which it comes
        have edge : ∃ a b k, Rch ts m a ∧ rounds ts r a = m ∧ Adj ts a b k ∧ rounds ts r b ≠ m := by
          by_cases hn : ∃ a b k, Rch ts m a ∧ rounds ts r a = m ∧ Adj ts a b k ∧ rounds ts r b ≠ m
          · exact hn
          · exfalso
            refine hne (hx.ind (fun y => Rch ts m y ∧ rounds ts r y = m) ⟨Rch.refl, atm r⟩ fun a b k ha k' => ⟨ha.1.trans (Rch.adj k'), ?_⟩).2
            by_cases hb : rounds ts r b = m
            · exact hb
            · exact absurd ⟨a, b, k, ha.1, ha.2, k', hb⟩ hn
        obtain ⟨a, b, k, ha, ha2, hab, hb⟩ := edge
        have hmb : Rch ts m b := ha.trans (Rch.adj hab)
        have hb' : rounds ts (r + 1) b = m := by
          have h1 := ge (r + 1) b hmb
          obtain ⟨t, ht, _, h⟩ := hab
          have ft := fold_tie ts (rounds ts r) t ht
          have h2 : rounds ts (r + 1) b ≤ m := by
            rcases h with ⟨e1, e2⟩ | ⟨e1, e2⟩
            · have q := ft.2
              rw [e1, e2, ha2] at q
              exact Int.le_trans q (by omega)
            · have q := ft.1
              rw [e1, e2, ha2] at q
              exact Int.le_trans q (by omega)
          omega
        have lt := filter_lt (p := fun x => decide (Rch ts m x ∧ rounds ts r x ≠ m)) (q := fun x => decide (Rch ts m x ∧ rounds ts (r + 1) x ≠ m)) (l := rng n) (fun x _ hq => by
          have hq := of_decide_eq_true hq
          refine decide_eq_true ⟨hq.1, fun z => hq.2 ?_⟩
          have h1 := ge (r + 1) x hq.1
          have h2 := mono r x
          omega) ⟨b, mem_rng.mpr (hmb.rng ok h0), decide_eq_true ⟨hmb, hb⟩, decide_eq_false fun z => z.2 hb'⟩
        omega
      · have e : (rng n).filter (fun x => decide (Rch ts m x ∧ rounds ts (r + 1) x ≠ m)) = [] := by
          rw [List.filter_eq_nil_iff]
          intro x _ hq
          have hq := of_decide_eq_true hq
          refine hex ⟨x, hq.1, fun z => hq.2 ?_⟩
          have h1 := ge (r + 1) x hq.1
          have h2 := mono r x
          omega
        rw [e]
        exact Nat.zero_le _
  have c := cnt n
  rw [Nat.sub_self] at c
  have e := List.eq_nil_of_length_eq_zero (Nat.le_zero.mp c)
  by_cases hne : rounds ts n p = m
  · exact hne
  · rw [List.filter_eq_nil_iff] at e
    exact absurd (decide_eq_true ⟨hp, hne⟩) (e p (mem_rng.mpr (hp.rng ok h0)))
open Classical in
/-- each has a least place -/
theorem has_leader {ts : List Tie} {n : Nat} (ok : ∀ t ∈ ts, TieOk n t) {p : Int} (h0 : 0 ≤ p ∧ p < n) : ∃ m, leader ts m ∧ (0 ≤ m ∧ m < n) ∧ Rch ts m p := by
  have key : ∀ (k : Nat) (x : Int), x = k → Rch ts p x → ∃ m, leader ts m ∧ (0 ≤ m ∧ m < n) ∧ Rch ts m p := by
    intro k
    induction k using Nat.strongRecOn with
    | ind k ih =>
      intro x hx hr
      have hxr := hr.rng ok h0
      by_cases hl : leader ts x
      · exact ⟨x, hl, hxr, hr.symm⟩
      · have hl' : ∃ q, Rch ts x q ∧ q < x := by
          by_cases h : ∃ q, Rch ts x q ∧ q < x
          · exact h
          · exfalso
            refine hl fun q hq => ?_
            by_cases h' : q < x
            · exact absurd ⟨q, hq, h'⟩ h
            · omega
        obtain ⟨q, hq, hlt⟩ := hl'
        have hqr := hq.rng ok hxr
        exact ih q.toNat (by omega) q (by omega) (hr.trans hq)
  exact key p.toNat p (by omega) Rch.refl
/-! ### rows of numbers as data -/
def IntsV (H : Hp) (v : V) (xs : List Int) : Prop := ∃ b, v = .ref b ∧ H b = some (.tup (xs.map V.int))
theorem IntsV.tk {H H' : Hp} (k : Tk H H') {v : V} {xs : List Int} (h : IntsV H v xs) : IntsV H' v xs := by
  obtain ⟨a, rfl, e⟩ := h
  exact ⟨a, rfl, k _ _ e⟩
def intsD (xs : List Int) : PyData := .tuple (xs.map PyData.int)
section
variable {K : PySem.W.Frag} {H : Hp}
theorem dp_ints : ∀ (xs : List Int), DpAll K H (xs.map V.int) (xs.map PyData.int)
  | [] => .nil
  | x :: xs => .cons (.int x) (dp_ints xs)
theorem IntsV.dp {v : V} {xs : List Int} (h : IntsV H v xs) : Dp K H v (intsD xs) := by
  obtain ⟨b, rfl, e⟩ := h
  exact .tup (SqT.of e) (dp_ints xs)
end
theorem lay_ints : ∀ xs : List Int, PyData.canLayAll0 (xs.map PyData.int) = true
  | [] => by simp [PyData.canLayAll0]
  | x :: xs => by simp [PyData.canLayAll0, PyData.canLay0, lay_ints xs]
theorem deep_ints : ∀ xs : List Int, PyData.depthAll (xs.map PyData.int) = 0
  | [] => by simp [PyData.depthAll]
  | x :: xs => by simp [PyData.depthAll, PyData.depth, deep_ints xs]
theorem lay_intsD (xs : List Int) : (intsD xs).canLay0 = true := by
  unfold intsD
  rw [PyData.canLay0]
  exact lay_ints xs
theorem deep_intsD (xs : List Int) : (intsD xs).depth = 1 := by
  unfold intsD
  rw [PyData.depth, deep_ints]
theorem shaped_intsD (xs : List Int) : SeqAt.shaped (intsD xs) = true := by
  unfold SeqAt.shaped
  rw [lay_intsD, deep_intsD]
  rfl
theorem eqv_nil (xs : List Int) : PyData.eqv (intsD xs) (intsD []) = xs.isEmpty := by
  unfold intsD
  rw [PyData.eqv]
  cases xs <;> rfl

section
variable {P : Program} {w : World} {K : PySem.W.Frag} {mg : Str → Option Value} {base : Heap}
theorem Kp.free {d c l : Addr} {H H' : Hp} (k : Kp d c H H') (h : H' l = none) (h1 : l ≠ d) (h2 : l ≠ c) : H l = none := by
  cases e : H l with
  | none => rfl
  | some o =>
    rw [k l o h1 h2 e] at h
    cases h
theorem atI_of {xs : List V} {i : Int} {v : V} (h0 : 0 ≤ i) (e : xs[i.toNat]? = some v) : atI xs i = some v := by
  obtain ⟨j, rfl⟩ : ∃ j : Nat, i = (j : Int) := ⟨i.toNat, by omega⟩
  exact atI_nat (by rw [Int.toNat_natCast] at e; exact e)
theorem atI_ints {xs : List Int} {i : Int} (h0 : 0 ≤ i) (h1 : i < xs.length) : ∃ x ∈ xs, xs[i.toNat]? = some x ∧ atI (xs.map V.int) i = some (.int x) := by
  have h : i.toNat < xs.length := by omega
  exact ⟨xs[i.toNat], List.getElem_mem h, List.getElem?_eq_getElem h, atI_of h0 (by rw [List.getElem?_map, List.getElem?_eq_getElem h]; rfl)⟩
end
theorem Same.mut {H H' : Hp} {a : Addr} {o : HO} (s : Same H H') (h : H a = none) : Same H (upd H' a o) := fun b x e => by
  rw [upd_ne (ne_of_none e h)]
  exact s b x e
/-! ### what is asked of rings -/
def wbelow (lim : Int) : V → Bool
  | .int i => decide (0 ≤ i) && decide (i < lim)
  | _ => false
def unl (lim : Int) : Option (List V) → Bool
  | some xs => xs.all (wbelow lim) && decide xs.Nodup
  | none => false
theorem ints_of {lim : Int} : ∀ {xs : List V}, xs.all (wbelow lim) = true → ∃ ns : List Int, xs = ns.map V.int ∧ ∀ n ∈ ns, 0 ≤ n ∧ n < lim
  | [], _ => ⟨[], rfl, fun n hn => by simp at hn⟩
  | x :: xs, h => by
    rw [List.all_cons, Bool.and_eq_true] at h
    obtain ⟨ns, e, h2⟩ := ints_of h.2
    cases x with
    | int i =>
      have h1 : (decide (0 ≤ i) && decide (i < lim)) = true := h.1
      rw [Bool.and_eq_true, decide_eq_true_iff, decide_eq_true_iff] at h1
      refine ⟨i :: ns, by rw [e]; rfl, fun n hn => ?_⟩
      rcases List.mem_cons.mp hn with z | z
      · rw [z]
        exact h1
      · exact h2 n z
    | _ => exact absurd (show false = true from h.1) Bool.false_ne_true
theorem nodup_ints {ns : List Int} : (ns.map V.int).Nodup ↔ ns.Nodup := by
  unfold List.Nodup
  rw [List.pairwise_map]
  exact ⟨fun h => h.imp fun {a b} g z => g (by rw [z]), fun h => h.imp fun {a b} g z => g (V.int.inj z)⟩
theorem room65 {k : Nat} {A : PySem.Around} (r : Room k A) : A.units + 65 < cLine := by have := r.un; omega
theorem eqv_two (x y u v : Int) : PyData.eqv (intsD [x, y]) (intsD [u, v]) = (decide (u = x) && decide (v = y)) := by
  show PyData.eqv (.tuple [.int x, .int y]) (.tuple [.int u, .int v]) = _
  rw [PyData.eqv, PyData.eqvAll, PyData.eqv, PyData.eqvAll, PyData.eqv, PyData.eqvAll, Bool.and_true]
  rw [Bool.eq_iff_iff, Bool.and_eq_true, Bool.and_eq_true, beq_iff_eq, beq_iff_eq, decide_eq_true_iff, decide_eq_true_iff]
  exact ⟨fun h => ⟨h.1.symm, h.2.symm⟩, fun h => ⟨h.1.symm, h.2.symm⟩⟩
def spBelow : Sp := fun vs H Q _ => ∃ lim v, vs = [.int lim, v] ∧ Kn H v ∧ Q (.bl (wbelow lim v)) H
def spUnlike (Ps : List Addr) : Sp := fun vs H Q _ => ∃ lim v, vs = [.int lim, v] ∧ Kn H v ∧ (∀ xs, parts H v = some xs → (∀ x ∈ xs, Kn H x) ∧ xs.length ≤ 2500) ∧ Tabs Ps H ∧ ∀ H', Kt Ps H H' → Q (.bl (unl lim (parts H v))) H'
def joinB (t : Tie) (a b : Int) : Bool := (decide (t.one = a) && decide (t.other = b)) || (decide (t.one = b) && decide (t.other = a))
def spJoins : Sp := fun vs H Q _ => ∃ (c : Addr) (a b : Int) (t : Tie), vs = [.ref c, .int a, .int b] ∧ H c = some (.tup [.int t.one, .int t.other, .str (kindS t.foe)]) ∧ ∀ H', Same H H' → Q (.bl (joinB t a b)) H'
section
variable {P : Program} {w : World} {K : PySem.W.Frag} {mg : Str → Option Value} {base : Heap}
theorem ok_is_whole_below {f : Addr} {fd : FuncData} (F : Fun K "is_whole_below" "is_whole_below" s_is_whole_below f fd) (D1 : Df P w K mg base 1 "is_whole" ["thing"] spWhole) : FnOk P w K mg base CX0 2 f fd ["limit", "thing"] spBelow := by
  obtain ⟨f1, fd1, G1, g1, k1, b1⟩ := D1
  refine F.ok sc_is_whole_below (fun vs H Q E h => ?_) (fun cdv A outer s H vs Q E hr h => ?_)
  · obtain ⟨lim, v, rfl, _⟩ := h
    rfl
  · obtain ⟨lim, v, rfl, hk, q⟩ := h
    refine ⟨_, (pss_one (ps_ret (pe_and (pe_call G1 hr (by rfl) g1 k1 b1 .nil pass0 (pa_cons (pv 1) pa_nil)) (pe_one (pe_chain op_le op_lt pe_int (pv 1) (pv 0)))))), ?_⟩
    refine ⟨v, rfl, v, rfl, hk, _, rfl, ?_⟩
    cases v with
    | int i =>
      refine ⟨.int i, rfl, 0, i, rfl, rfl, _, rfl, ?_⟩
      have e : wbelow lim (.int i) = (decide (0 ≤ i) && decide (i < lim)) := rfl
      rw [e] at q
      by_cases h0 : (0 : Int) ≤ i
      · rw [decide_eq_true h0] at q ⊢
        rw [Bool.true_and] at q
        exact ⟨.int lim, rfl, i, lim, rfl, rfl, q⟩
      · rw [decide_eq_false h0] at q ⊢
        exact q
    | _ => exact q
theorem ok_are_unlike {f c Pt : Addr} {fd : FuncData} {Ps : List Addr} (F : FunC K "are_unlike_below" "are_unlike_below" s_are_unlike_below f fd c) (TB : GxR.TabB base mg c Pt) (hPt : Pt ∈ Ps) (M : Free mg) (hall : mg "all" = none) (hset : mg "set" = none) (D1 : Df P w K mg base 2 "is_whole_below" ["limit", "thing"] spBelow) : FnOk P w K mg base CX0 4 f fd ["limit", "thing"] (spUnlike Ps) := by
  obtain ⟨f1, fd1, G1, g1, k1, b1⟩ := D1
  refine F.ok sc_are_unlike_below (fun vs H Q E h => ?_) (fun A outer s H vs Q E hr h => ?_)
  · obtain ⟨lim, v, rfl, _⟩ := h
    rfl
  · obtain ⟨lim, v, rfl, hk, hsub, hT, q⟩ := h
    refine ⟨_, (pss_cons (ps_if (pt_not (pt_val (pe_callB call_isi (by rfl) M.isinstance (by decide +kernel) (pa_cons (pv 1) (pa_cons (pe_bltn (v := .ty "tuple") (by rfl) M.tuple (by decide +kernel) rfl) pa_nil)))))
        (pss_one (ps_ret pe_bl))
        pss_nil)
      (pss_one (ps_ret (pe_and (pe_all (k := 2) (own := [("number", 2)]) (g := gName 2) hr TB rfl rfl sc_are_unlike_below.nd (by rfl) hall (pi_tup (pv 1)) (blkOk_by (N := N_are_unlike_below) (sc := defScope s_are_unlike_below) (own := [("number", 2)]) (by decide +kernel)) ⟨rfl, by decide +kernel, by decide +kernel⟩ (show (".0" : Str) ∉ N_are_unlike_below by decide +kernel)
        (fun _ _ _ _ _ _ _ => pg_name (i := 2) sc_are_unlike_below.nd rfl (.inl rfl)) (fun _ _ _ _ _ _ _ hr' => pe_call G1 hr' (by rfl) g1 k1 b1 .nil pass0 (pa_cons (pv 0) (pa_cons (pv 2) pa_nil)))) (pe_one (pe_cmpR op_eq (pe_lenSetT (by rfl) M.len (by rfl) hset (pv 1)) (pe_callB call_len_seq (by rfl) M.len PySem.boot_len (pa_cons (pv 1) pa_nil)) (nomark _))))))), ?_⟩
    obtain ⟨t1, h1, e1⟩ := kn_tup (K := K) hk
    refine ⟨v, rfl, v, _, t1, _, _, rfl, .ty "tuple", h1, e1, _, rfl, ?_⟩
    cases hi : isT H v with
    | false =>
      rw [parts_none hi] at q
      exact q _ (Kt.refl hT)
    | true =>
      obtain ⟨a, xs, rfl, ea⟩ := isT_at hi
      rw [parts_of' ea] at q
      obtain ⟨kn, few⟩ := hsub xs (parts_of' ea)
      refine ⟨.ref a, rfl, a, rfl, ⟨_, SqT.of ea⟩, hT Pt hPt, fun i m H' => i + m = xs.length ∧ Kt Ps H H' ∧ (xs.take i).all (wbelow lim) = true, fun H2 hH2 => ⟨xs.length, by omega, Kt.tabbed hT hPt hH2, rfl⟩, fun i m H' hw => ?_⟩
      obtain ⟨em, kt, hal⟩ := hw
      have ea' := kt.tup hT ea
      by_cases hi : i < xs.length
      · refine .inr ⟨⟨_, _, SqT.of ea', List.getElem?_eq_getElem hi⟩, fun H3 => Kt Ps H H3 ∧ (xs.take (i + 1)).all (wbelow lim) = true, fun H3 n3 => ⟨m - 1, by omega, by omega, n3.1, n3.2⟩, fun x H3 hy => ?_⟩
        obtain ⟨rfl, fy⟩ := hy
        have ex : xs[i]? = some x := fy _ (SqT.of ea')
        refine ⟨rfl, .int lim, rfl, x, rfl, lim, x, rfl, kt.kn hT (kn x (List.mem_of_getElem? ex)), _, rfl, ?_⟩
        have step : (xs.take (i + 1)).all (wbelow lim) = wbelow lim x := by
          rw [List.take_add_one, ex, List.all_append, hal]
          simp
        cases hb : wbelow lim x with
        | true => exact ⟨kt, step.trans hb⟩
        | false =>
          have no : xs.all (wbelow lim) = false := by
            rw [Bool.eq_false_iff]
            intro z
            rw [List.all_eq_true] at z
            rw [z x (List.mem_of_getElem? ex)] at hb
            cases hb
          refine ⟨_, rfl, ?_⟩
          have e : unl lim (some xs) = false := by
            show (xs.all (wbelow lim) && decide xs.Nodup) = false
            rw [no, Bool.false_and]
          rw [e] at q
          exact q _ kt
      · refine .inl ⟨⟨_, SqT.of ea', by omega⟩, _, rfl, ?_⟩
        rw [List.take_of_length_le (by omega)] at hal
        obtain ⟨ns, rfl, _⟩ := ints_of hal
        refine ⟨.ref a, rfl, a, ns, rfl, SqT.of ea', by rw [List.length_map] at few; omega, fun cnt hc => ⟨.ref a, rfl, a, _, rfl, .inr (SqT.of ea'), rfl, ?_⟩⟩
        have e : unl lim (some (ns.map V.int)) = decide (V.int (cnt : Int) = V.int ((ns.map V.int).length : Int)) := by
          show ((ns.map V.int).all (wbelow lim) && decide (ns.map V.int).Nodup) = _
          rw [hal, Bool.true_and, decide_eq_decide, nodup_ints, ← hc, List.length_map]
          constructor
          · intro z
            rw [z]
          · intro z
            have := V.int.inj z
            omega
        rw [← e]
        exact q _ kt
theorem ok_joins {f : Addr} {fd : FuncData} (F : Fun K "joins" "joins" s_joins f fd) : FnOk P w K mg base CX0 1 f fd ["tie", "one", "other"] spJoins := by
  refine F.ok sc_joins (fun vs H Q E h => ?_) (fun cdv A outer s H vs Q E hr h => ?_)
  · obtain ⟨c, a, b, t, rfl, _⟩ := h
    rfl
  · obtain ⟨c, a, b, t, rfl, hc, q⟩ := h
    have hu := room65 hr
    refine ⟨_, (pss_one (ps_ret (pe_cmpR (op_inTup hu) (pe_tup (pa_cons (pe_ix ix_tup (pv 0) pe_int (fun _ _ => rfl)) (pa_cons (pe_ix ix_tup (pv 0) pe_int (fun _ _ => rfl)) pa_nil))) (pe_tup (pa_cons (pe_tup (pa_cons (pv 1) (pa_cons (pv 2) pa_nil))) (pa_cons (pe_tup (pa_cons (pv 2) (pa_cons (pv 1) pa_nil))) pa_nil))) rfl))), ?_⟩
    refine ⟨.ref c, rfl, c, _, 0, _, rfl, rfl, SqT.of hc, rfl, .ref c, rfl, c, _, 1, _, rfl, rfl, SqT.of hc, rfl, by show 2 ≤ sizeLine; decide, fun p1 n1 => ?_⟩
    refine ⟨.int a, rfl, .int b, rfl, by show 2 ≤ sizeLine; decide, fun p2 n2 => ⟨.int b, rfl, .int a, rfl, by show 2 ≤ sizeLine; decide, fun p3 n3 => ⟨by show 2 ≤ sizeLine; decide, fun p4 n4 => ?_⟩⟩⟩
    have s4 := same_new (o := .tup [.ref p2, .ref p3]) n4
    have s3 := (same_new (o := .tup [.int b, .int a]) n3).trans s4
    have s2 := (same_new (o := .tup [.int a, .int b]) n2).trans s3
    have s1 := (same_new (o := .tup [.int t.one, .int t.other]) n1).trans s2
    refine ⟨intsD [t.one, t.other], [intsD [a, b], intsD [b, a]], IntsV.dp ⟨p1, rfl, s2 _ _ upd_same⟩, .tup (SqT.of upd_same) (.cons (IntsV.dp ⟨p2, rfl, s3 _ _ upd_same⟩) (.cons (IntsV.dp ⟨p3, rfl, s4 _ _ upd_same⟩) .nil)), shaped_intsD _, rfl, ?_⟩
    have e : ([intsD [a, b], intsD [b, a]].any fun z => PyData.eqv z (intsD [t.one, t.other])) = joinB t a b := by
      show (PyData.eqv (intsD [a, b]) (intsD [t.one, t.other]) || (PyData.eqv (intsD [b, a]) (intsD [t.one, t.other]) || false)) = joinB t a b
      rw [eqv_two, eqv_two, Bool.or_false]
      rfl
    rw [e]
    exact q _ s1
end
def tieAt (ts : List Tie) (i : Int) : Tie := ts.getD i.toNat ⟨0, 0, false⟩
theorem tieAt_get {ts : List Tie} {i : Int} (h0 : 0 ≤ i) (h1 : i < ts.length) : ts[i.toNat]? = some (tieAt ts i) := by
  have h : i.toNat < ts.length := by omega
  unfold tieAt
  rw [List.getD_eq_getElem?_getD, List.getElem?_eq_getElem h]
  rfl
def toI : V → Int
  | .int i => i
  | _ => 0
theorem toI_map (ns : List Int) : (ns.map V.int).map toI = ns := by
  rw [List.map_map]
  exact List.map_id ns
/-- the ties join the places, each with the one behind it -/
def ringI (ts : List Tie) (ps es : List Int) : Bool := (List.range es.length).all fun k => joinB (tieAt ts (es.getD k 0)) (ps.getD k 0) (ps.getD ((k + 1) % ps.length) 0)
def ringP (n : Int) (ts : List Tie) : Option (List V) → Option (List V) → Bool
  | some ps, some es => unl n (some ps) && (unl ts.length (some es) && (decide (2 ≤ ps.length) && (decide (ps.length = es.length) && ringI ts (ps.map toI) (es.map toI))))
  | _, _ => false
def ringB (H : Hp) (n : Int) (ts : List Tie) (v : V) : Bool := match parts H v with
  | some [p, t] => ringP n ts (parts H p) (parts H t)
  | _ => false
def Part2 (H : Hp) (x : V) : Prop := Kn H x ∧ ∀ ys, parts H x = some ys → (∀ y ∈ ys, Kn H y) ∧ ys.length ≤ 2500
def Thing2 (H : Hp) (v : V) : Prop := Kn H v ∧ ∀ xs, parts H v = some xs → ∀ x ∈ xs, Part2 H x
theorem kt_parts {Ps : List Addr} {H H' : Hp} (k : Kt Ps H H') (t : Tabs Ps H) {v : V} (h : Kn H v) : parts H' v = parts H v := by
  cases v with
  | ref a =>
    unfold parts
    rcases h with ⟨xs, h⟩ | ⟨xs, h⟩ | ⟨xs, h⟩
    · simp only [h, k.lst t h]
    · simp only [h, k.tup t h]
    · simp only [h, k.dct t h]
  | _ => rfl
theorem Part2.kt {Ps : List Addr} {H H' : Hp} (k : Kt Ps H H') (t : Tabs Ps H) {v : V} (h : Part2 H v) : Part2 H' v :=
  ⟨k.kn t h.1, fun ys e => by
    rw [kt_parts k t h.1] at e
    obtain ⟨h1, h2⟩ := h.2 ys e
    exact ⟨fun y hy => k.kn t (h1 y hy), h2⟩⟩
def spRing (Ps : List Addr) : Sp := fun vs H Q _ => ∃ (wv : V) (n : Int) (ts : List Tie) (v : V), vs = [wv, v] ∧ WebAt H wv n ts ∧ WebOk n ts ∧ Thing2 H v ∧ Tabs Ps H ∧ ∀ H', Kt Ps H H' → Q (.bl (ringB H n ts v)) H'
theorem behind {ns : List Int} {k : Nat} (h2 : 2 ≤ ns.length) (hk : k < ns.length) : (ns.drop 1 ++ ns.take 1)[k]? = some (ns.getD ((k + 1) % ns.length) 0) := by
  by_cases e : k + 1 < ns.length
  · rw [List.getElem?_append_left (by rw [List.length_drop]; omega), List.getElem?_drop, Nat.mod_eq_of_lt e, show 1 + k = k + 1 from by omega, List.getD_eq_getElem?_getD, List.getElem?_eq_getElem e]
    rfl
  · have e2 : k + 1 = ns.length := by omega
    rw [List.getElem?_append_right (by rw [List.length_drop]; omega), List.length_drop, show k - (ns.length - 1) = 0 from by omega, e2, Nat.mod_self, List.getElem?_take_of_lt (by decide), List.getD_eq_getElem?_getD, List.getElem?_eq_getElem (by omega)]
    rfl
theorem cut1a {xs : List V} (h : 1 ≤ xs.length) : cutV xs (some 1) none = xs.drop 1 := by
  unfold cutV
  rw [HT.sIx_none, show (some (1 : Int)) = some ((1 : Nat) : Int) from rfl, HT.sIx_nat, Nat.min_eq_left h]
  exact List.take_of_length_le (by rw [List.length_drop]; omega)
theorem cut1b {xs : List V} (h : 1 ≤ xs.length) : cutV xs none (some 1) = xs.take 1 := by
  unfold cutV
  rw [HT.sIx_none, show (some (1 : Int)) = some ((1 : Nat) : Int) from rfl, HT.sIx_nat, Nat.min_eq_left h, List.drop_zero]
section
variable {P : Program} {w : World} {K : PySem.W.Frag} {mg : Str → Option Value} {base : Heap}
set_option maxHeartbeats 4000000 in
theorem ok_ring_holds {f c Pt : Addr} {fd : FuncData} {Ps : List Addr} (F : FunC K "ring_holds" "ring_holds" s_ring_holds f fd c) (TB : GxR.TabB base mg c Pt) (hPt : Pt ∈ Ps) (M : Free mg) (hall : mg "all" = none) (mz : mg "zip" = none) (D1 : Df P w K mg base 1 "is_tuple_of" ["length", "thing"] spTupleOf)
    (D2 : Df P w K mg base 4 "are_unlike_below" ["limit", "thing"] (spUnlike Ps)) (D3 : Df P w K mg base 1 "joins" ["tie", "one", "other"] spJoins) : FnOk P w K mg base CX0 5 f fd ["web", "thing"] (spRing Ps) := by
  obtain ⟨f1, fd1, G1, g1, k1, b1⟩ := D1
  obtain ⟨f2, fd2, G2, g2, k2, b2⟩ := D2
  obtain ⟨f3, fd3, G3, g3, k3, b3⟩ := D3
  refine F.ok sc_ring_holds (fun vs H Q E h => ?_) (fun A outer s H vs Q E hr h => ?_)
  · obtain ⟨wv, n, ts, v, rfl, _⟩ := h
    rfl
  · obtain ⟨wv, n, ts, v, rfl, ⟨wa, wb, us, rfl, hwa, hwb, hp⟩, ok, ⟨hk, hsub⟩, hT, q⟩ := h
    have hr1 : Room 1 _ := hr.mono (by decide : 1 ≤ 4)
    refine ⟨_, (pss_cons (ps_if (pt_not (pt_val (pe_call G1 hr1 (by rfl) g1 k1 b1 .nil pass0 (pa_cons pe_int (pa_cons (pv 1) pa_nil)))))
        (pss_one (ps_ret pe_bl))
        pss_nil)
      (pss_cons (ps_asg (pv 1) (pg_tup rfl (pgs_cons (pg_name (i := 2) sc_ring_holds.nd rfl (.inl rfl)) (pgs_cons (pg_name (i := 3) sc_ring_holds.nd rfl (.inl rfl)) pgs_nil))))
      (pss_cons (ps_if (PW.pt (pw_or (pt_not (pt_val (pe_call G2 hr (by rfl) g2 k2 b2 .nil pass0 (pa_cons (pe_ix ix_tup (pv 0) pe_int (fun _ _ => rfl)) (pa_cons (pv 2) pa_nil))))) (pw_or1 (pt_not (pt_val (pe_call G2 hr (by rfl) g2 k2 b2 .nil pass0 (pa_cons (pe_callB call_len_seq (by rfl) M.len PySem.boot_len (pa_cons (pe_ix ix_tup (pv 0) pe_int (fun _ _ => rfl)) pa_nil)) (pa_cons (pv 3) pa_nil))))))))
        (pss_one (ps_ret pe_bl))
        pss_nil)
      (pss_cons (ps_if (PW.pt (pw_or (pt_cmpR op_lt (pe_callB call_len_seq (by rfl) M.len PySem.boot_len (pa_cons (pv 2) pa_nil)) pe_int (nomark _)) (pw_or1 (pt_cmpR op_ne (pe_callB call_len_seq (by rfl) M.len PySem.boot_len (pa_cons (pv 2) pa_nil)) (pe_callB call_len_seq (by rfl) M.len PySem.boot_len (pa_cons (pv 3) pa_nil)) (nomark _)))))
        (pss_one (ps_ret pe_bl))
        pss_nil)
      (pss_cons (ps_set (i := 4) sc_ring_holds.nd rfl (.inl rfl) (pe_op op_catU (pe_slice sl_tupU (pv 2) (po_some pe_int) po_none) (pe_slice sl_tupU (pv 2) po_none (po_some pe_int))))
      (pss_one (ps_ret (pe_all (k := 3) (own := [("tie", 5), ("one", 6), ("other", 7)]) (g := gTup K 3 (gCons (gName 5) (gCons (gName 6) (gCons (gName 7) gNil)))) hr TB rfl rfl sc_ring_holds.nd (by rfl) hall (pi_zip3 (by rfl) mz (pa_cons (pv 3) (pa_cons (pv 2) (pa_cons (pv 4) pa_nil)))) (blkOk_by (N := N_ring_holds) (sc := defScope s_ring_holds) (own := [("tie", 5), ("one", 6), ("other", 7)]) (by decide +kernel)) ⟨rfl, by decide +kernel, by decide +kernel⟩ (show (".0" : Str) ∉ N_ring_holds by decide +kernel)
        (fun _ _ _ _ _ _ _ => pg_tup rfl (pgs_cons (pg_name (i := 5) sc_ring_holds.nd rfl (.inl rfl)) (pgs_cons (pg_name (i := 6) sc_ring_holds.nd rfl (.inl rfl)) (pgs_cons (pg_name (i := 7) sc_ring_holds.nd rfl (.inl rfl)) pgs_nil)))) (fun _ _ _ _ _ _ _ hr' => pe_call G3 (hr'.mono (by decide : 1 ≤ 3)) (by rfl) g3 k3 b3 .nil pass0 (pa_cons (pe_ix (r := rIxT K) ix_tup (pe_ix (r := rIxT K) ix_tup (pv 0) pe_int (fun _ _ => rfl)) (pv 5) (fun _ _ => rfl)) (pa_cons (pv 6) (pa_cons (pv 7) pa_nil)))))))))))), ?_⟩
    have hlen : us.length = ts.length := Paired.length hp
    have few := ok.few
    -- a pair
    refine ⟨v, rfl, 2, v, rfl, hk, _, rfl, ?_⟩
    cases hpv : parts H v with
    | none =>
      have e1 : lenIs H v 2 = false := by unfold lenIs; rw [hpv]
      have e2 : ringB H n ts v = false := by unfold ringB; rw [hpv]
      rw [e1]
      rw [e2] at q
      exact q _ (Kt.refl hT)
    | some xs =>
    obtain ⟨a, rfl, ea⟩ := parts_at hpv
    have e1 : lenIs H (.ref a) 2 = decide ((xs.length : Int) = 2) := by unfold lenIs; rw [hpv]
    rw [e1]
    match xs, hpv, ea, hsub xs hpv with
    | [], hpv, ea, _ =>
      have e2 : ringB H n ts (.ref a) = false := by unfold ringB; rw [hpv]
      rw [e2] at q
      exact q _ (Kt.refl hT)
    | [x], hpv, ea, _ =>
      have e2 : ringB H n ts (.ref a) = false := by unfold ringB; rw [hpv]
      rw [e2] at q
      exact q _ (Kt.refl hT)
    | x :: y :: z :: r, hpv, ea, _ =>
      have e2 : ringB H n ts (.ref a) = false := by unfold ringB; rw [hpv]
      rw [e2] at q
      rw [decide_eq_false (by simp only [List.length_cons]; omega)]
      exact q _ (Kt.refl hT)
    | [pv', tv], hpv, ea, hxs =>
    have e2 : ringB H n ts (.ref a) = ringP n ts (parts H pv') (parts H tv) := by unfold ringB; rw [hpv]
    rw [e2] at q
    have hP := hxs pv' (by simp)
    have hQ := hxs tv (by simp)
    clear e1 e2 hxs hsub
    refine ⟨.ref a, rfl, a, _, rfl, SqT.of ea, rfl, _, _, rfl, _, _, rfl, rfl, ?_⟩
    -- unlike places
    refine ⟨.ref wa, rfl, wa, _, 0, .int n, rfl, rfl, SqT.of hwa, rfl, pv', rfl, n, pv', rfl, hP.1, hP.2, hT, fun H1 k1' => ⟨_, rfl, ?_⟩⟩
    cases hu1 : unl n (parts H pv') with
    | false =>
      have e : ringP n ts (parts H pv') (parts H tv) = false := by
        cases h1 : parts H pv' with
        | none => rfl
        | some ps =>
          cases h2 : parts H tv with
          | none => rfl
          | some es =>
            rw [h1] at hu1
            show (unl n (some ps) && _) = false
            rw [hu1, Bool.false_and]
      rw [e] at q
      exact q _ k1'
    | true =>
    -- unlike ties
    have hwa1 := k1'.tup hT hwa
    have hwb1 := k1'.tup hT hwb
    have hQ1 := hQ.kt k1' hT
    refine ⟨.ref wa, rfl, wa, _, 1, .ref wb, rfl, rfl, SqT.of hwa1, rfl, wb, us, rfl, .inr (SqT.of hwb1), tv, rfl, _, tv, rfl, hQ1.1, hQ1.2, k1'.tab, fun H2 k2' => ⟨_, rfl, ?_⟩⟩
    rw [kt_parts k1' hT hQ.1, hlen]
    have k12 := k1'.trans k2'
    cases hu2 : unl ts.length (parts H tv) with
    | false =>
      have e : ringP n ts (parts H pv') (parts H tv) = false := by
        cases h1 : parts H pv' with
        | none => rfl
        | some ps =>
          cases h2 : parts H tv with
          | none => rfl
          | some es =>
            rw [h1] at hu1
            rw [h2] at hu2
            show (unl n (some ps) && (unl ts.length (some es) && _)) = false
            rw [hu2, Bool.false_and, Bool.and_false]
      rw [e] at q
      exact q _ k12
    | true =>
    cases h1 : parts H pv' with
    | none => rw [h1] at hu1; cases hu1
    | some ps =>
    cases h2 : parts H tv with
    | none => rw [h2] at hu2; cases hu2
    | some es =>
    rw [h1] at hu1
    rw [h2] at hu2
    rw [h1, h2] at q
    obtain ⟨pa, rfl, epa⟩ := parts_at h1
    obtain ⟨ta, rfl, eta⟩ := parts_at h2
    have epa2 := k12.tup hT epa
    have eta2 := k12.tup hT eta
    have er : ringP n ts (some ps) (some es) = (decide (2 ≤ ps.length) && (decide (ps.length = es.length) && ringI ts (ps.map toI) (es.map toI))) := by
      show (unl n (some ps) && (unl ts.length (some es) && _)) = _
      rw [hu1, hu2, Bool.true_and, Bool.true_and]
    rw [er] at q
    -- lengths
    refine ⟨.ref pa, rfl, pa, ps, rfl, .inr (SqT.of epa2), _, 2, rfl, rfl, _, rfl, ?_⟩
    by_cases l2 : 2 ≤ ps.length
    · rw [decide_eq_false (show ¬ ((ps.length : Int) < 2) by omega)]
      rw [decide_eq_true l2, Bool.true_and] at q
      refine ⟨.ref pa, rfl, pa, ps, rfl, .inr (SqT.of epa2), .ref ta, rfl, ta, es, rfl, .inr (SqT.of eta2), rfl, _, rfl, ?_⟩
      by_cases le : ps.length = es.length
      · rw [show decide (V.int (ps.length : Int) = V.int (es.length : Int)) = true from decide_eq_true (by rw [le])]
        rw [decide_eq_true le, Bool.true_and] at q
        have ha1 : ps.all (wbelow n) = true := (Bool.and_eq_true_iff.mp hu1).1
        have ha2 : es.all (wbelow ts.length) = true := (Bool.and_eq_true_iff.mp hu2).1
        obtain ⟨pn, rfl, hpn⟩ := ints_of ha1
        obtain ⟨en, rfl, hen⟩ := ints_of ha2
        rw [toI_map, toI_map] at q
        rw [List.length_map] at l2 le
        rw [List.length_map] at le
        have lps : pn.length ≤ 2500 := by have := (hP.2 _ h1).2; rw [List.length_map] at this; exact this
        -- followers
        refine ⟨.ref pa, rfl, 1, rfl, pa, _, rfl, epa2, fun r1 H3 s3 h3 => ⟨.ref pa, rfl, 1, rfl, pa, _, rfl, s3 _ _ epa2, fun r2 H4 s4 h4 => ⟨r1, r2, _, _, rfl, rfl, s4 _ _ h3, h4, ?_, fun r3 H5 s5 h5 => ?_⟩⟩⟩
        · have z1 := cutV_length (pn.map V.int) (some 1) none
          have z2 := cutV_length (pn.map V.int) none (some 1)
          rw [List.length_map] at z1 z2
          omega
        rw [cut1a (by rw [List.length_map]; omega), cut1b (by rw [List.length_map]; omega), ← List.map_drop, ← List.map_take, ← List.map_append] at h5
        have k5 := k12.trans (Kt.same k12.tab ((s3.trans s4).trans s5))
        have hwa5 := k5.tup hT hwa
        have hwb5 := k5.tup hT hwb
        have epa5 := k5.tup hT epa
        have eta5 := k5.tup hT eta
        have hp5 := ties_tk (k5.tk hT) hp
        clear s3 s4 s5 h3 h4 epa2 eta2 hwa1 hwb1
        have lfo : (pn.drop 1 ++ pn.take 1).length = pn.length := by rw [List.length_append, List.length_drop, List.length_take]; omega
        have nth : ∀ k : Nat, k < en.length → ∃ (cc : Addr), H5 cc = some (.tup [.int (tieAt ts (en.getD k 0)).one, .int (tieAt ts (en.getD k 0)).other, .str (kindS (tieAt ts (en.getD k 0)).foe)]) ∧ atI us (en.getD k 0) = some (.ref cc) := fun k hk => by
          have hm : en.getD k 0 ∈ en := by
            rw [List.getD_eq_getElem?_getD, List.getElem?_eq_getElem hk]
            exact List.getElem_mem hk
          obtain ⟨z0, z1⟩ := hen _ hm
          obtain ⟨u, eu, cc, rfl, hcc⟩ := Paired.at' hp5 (tieAt_get z0 z1)
          exact ⟨cc, hcc, atI_of z0 eu⟩
        refine ⟨.ref ta, rfl, .ref pa, rfl, .ref r3, rfl, ta, pa, r3, _, _, _, rfl, SqT.of eta5, SqT.of epa5, SqT.of h5, k5.tab Pt hPt, fun i m H' => i + m = en.length ∧ Kt Ps H5 H' ∧ (List.range i).all (fun k => joinB (tieAt ts (en.getD k 0)) (pn.getD k 0) (pn.getD ((k + 1) % pn.length) 0)) = true, fun H6 t6 => ⟨en.length, by omega, Kt.tabbed k5.tab hPt t6, rfl⟩, fun i m H6 hw => ?_⟩
        obtain ⟨em, k6, hal⟩ := hw
        have eta6 := k6.tup k5.tab eta5
        have epa6 := k6.tup k5.tab epa5
        have h6 := k6.tup k5.tab h5
        by_cases hi : i < en.length
        · refine .inr ⟨⟨_, _, _, ⟨SqT.of eta6, SqT.of epa6, SqT.of h6⟩, by rw [List.length_map]; exact hi, by rw [List.length_map, List.length_map]; exact le, by rw [List.length_map, List.length_map, lfo]; exact le⟩, fun H7 => Kt Ps H5 H7 ∧ (List.range (i + 1)).all (fun k => joinB (tieAt ts (en.getD k 0)) (pn.getD k 0) (pn.getD ((k + 1) % pn.length) 0)) = true, fun H7 n7 => ⟨m - 1, by omega, by omega, n7.1, n7.2⟩, fun x H7 hy => ?_⟩
          obtain ⟨T, x1, x2, x3, rfl, nT, rfl, y1, y2, y3⟩ := hy
          have ex1 : x1 = .int (en.getD i 0) := by
            have z := y1 _ (SqT.of eta6)
            rw [List.getElem?_map, List.getElem?_eq_getElem hi] at z
            rw [List.getD_eq_getElem?_getD, List.getElem?_eq_getElem hi]
            exact (Option.some.inj z).symm
          have ex2 : x2 = .int (pn.getD i 0) := by
            have z := y2 _ (SqT.of epa6)
            rw [List.getElem?_map, List.getElem?_eq_getElem (show i < pn.length by omega)] at z
            rw [List.getD_eq_getElem?_getD, List.getElem?_eq_getElem (show i < pn.length by omega)]
            exact (Option.some.inj z).symm
          have ex3 : x3 = .int (pn.getD ((i + 1) % pn.length) 0) := by
            have z := y3 _ (SqT.of h6)
            rw [List.getElem?_map, behind l2 (by omega)] at z
            exact (Option.some.inj z).symm
          subst ex1
          subst ex2
          subst ex3
          obtain ⟨cc, hcc, acc⟩ := nth i hi
          have k7 := k6.trans (Kt.same k6.tab (same_new (o := .tup [.int (en.getD i 0), .int (pn.getD i 0), .int (pn.getD ((i + 1) % pn.length) 0)]) nT))
          refine ⟨T, _, rfl, SqT.of upd_same, rfl, _, _, rfl, _, _, rfl, _, _, rfl, rfl, rfl, .ref wa, rfl, wa, _, 1, .ref wb, rfl, rfl, SqT.of (k7.tup k5.tab hwa5), rfl, .int (en.getD i 0), rfl, wb, us, _, .ref cc, rfl, rfl, SqT.of (k7.tup k5.tab hwb5), acc, .int (pn.getD i 0), rfl, .int (pn.getD ((i + 1) % pn.length) 0), rfl, cc, _, _, tieAt ts (en.getD i 0), rfl, k7.tup k5.tab hcc, fun H8 s8 => ⟨_, rfl, ?_⟩⟩
          have k8 := k7.trans (Kt.same k7.tab s8)
          cases hj : joinB (tieAt ts (en.getD i 0)) (pn.getD i 0) (pn.getD ((i + 1) % pn.length) 0) with
          | true =>
            refine ⟨k8, ?_⟩
            rw [List.range_succ, List.all_append, hal]
            simp only [List.all_cons, List.all_nil, hj, Bool.and_true]
          | false =>
            have no : ringI ts pn en = false := by
              unfold ringI
              rw [Bool.eq_false_iff]
              intro z
              rw [List.all_eq_true] at z
              rw [z i (List.mem_range.mpr hi)] at hj
              cases hj
            rw [no] at q
            exact q _ (k5.trans k8)
        · have ei : i = en.length := by omega
          refine .inl ⟨⟨_, _, _, ⟨SqT.of eta6, SqT.of epa6, SqT.of h6⟩, by rw [List.length_map, ei], by rw [List.length_map, ei]; exact le, by rw [List.length_map, lfo, ei]; exact le⟩, ?_⟩
          rw [ei] at hal
          have yes : ringI ts pn en = true := hal
          rw [yes] at q
          exact q _ (k5.trans k6)
      · rw [show decide (V.int (ps.length : Int) = V.int (es.length : Int)) = false from decide_eq_false (fun z => le (by have := V.int.inj z; omega))]
        rw [decide_eq_false le, Bool.false_and] at q
        exact q _ k12
    · rw [decide_eq_true (show ((ps.length : Int) < 2) by omega)]
      rw [decide_eq_false l2, Bool.false_and] at q
      exact q _ k12
end
def foesI (ts : List Tie) (es : List Int) : Nat := (es.filter fun e => (tieAt ts e).foe).length
theorem foesI_take (ts : List Tie) (es : List Int) {i : Nat} {e : Int} (h : es[i]? = some e) : (es.take (i + 1)).filter (fun e => (tieAt ts e).foe) = (es.take i).filter (fun e => (tieAt ts e).foe) ++ (if (tieAt ts e).foe = true then [e] else []) := by
  rw [List.take_add_one, h, List.filter_append]
  congr 1
  show List.filter _ [e] = _
  rw [List.filter_cons]
  rfl
def spFoes : Sp := fun vs H Q _ => ∃ (wv : V) (n : Int) (ts : List Tie) (a ta : Addr) (p : V) (es : List Int), vs = [wv, .ref a] ∧ WebAt H wv n ts ∧ H a = some (.tup [p, .ref ta]) ∧ H ta = some (.tup (es.map V.int)) ∧ (∀ e ∈ es, 0 ≤ e ∧ e < (ts.length : Int)) ∧ es.length ≤ 2500 ∧
  ∀ H', Same H H' → Q (.int (foesI ts es)) H'
/-- a ring with an odd number of foes -/
def oddB (H : Hp) (n : Int) (ts : List Tie) (v : V) : Bool := ringB H n ts v && (match parts H v with
  | some [_, t] => (match parts H t with
    | some es => decide (foesI ts (es.map toI) % 2 = 1)
    | none => false)
  | _ => false)
def spOdd (Ps : List Addr) : Sp := fun vs H Q _ => ∃ (wv : V) (n : Int) (ts : List Tie) (v : V), vs = [wv, v] ∧ WebAt H wv n ts ∧ WebOk n ts ∧ Thing2 H v ∧ Tabs Ps H ∧ ∀ H', Kt Ps H H' → Q (.bl (oddB H n ts v)) H'
/-- what a ring is: a pair of rows of numbers -/
theorem ring_is {H : Hp} {n : Int} {ts : List Tie} {v : V} (h : ringB H n ts v = true) : ∃ (a pa ta : Addr) (pn en : List Int), v = .ref a ∧ H a = some (.tup [.ref pa, .ref ta]) ∧ H pa = some (.tup (pn.map V.int)) ∧ H ta = some (.tup (en.map V.int)) ∧ (∀ p ∈ pn, 0 ≤ p ∧ p < n) ∧ (∀ e ∈ en, 0 ≤ e ∧ e < (ts.length : Int)) ∧ pn.Nodup ∧ en.Nodup ∧ 2 ≤ pn.length ∧ pn.length = en.length ∧ ringI ts pn en = true := by
  unfold ringB at h
  cases hpv : parts H v with
  | none => rw [hpv] at h; cases h
  | some xs =>
    rw [hpv] at h
    obtain ⟨a, rfl, ea⟩ := parts_at hpv
    match xs, h, ea with
    | [p, t], h, ea =>
      change ringP n ts (parts H p) (parts H t) = true at h
      cases h1 : parts H p with
      | none => rw [h1] at h; cases h
      | some ps =>
        cases h2 : parts H t with
        | none => rw [h1, h2] at h; cases h
        | some es =>
          rw [h1, h2] at h
          obtain ⟨pa, rfl, epa⟩ := parts_at h1
          obtain ⟨ta, rfl, eta⟩ := parts_at h2
          change (unl n (some ps) && (unl ts.length (some es) && (decide (2 ≤ ps.length) && (decide (ps.length = es.length) && ringI ts (ps.map toI) (es.map toI))))) = true at h
          simp only [Bool.and_eq_true, decide_eq_true_iff] at h
          obtain ⟨u1, u2, l2, le, hr⟩ := h
          have v1 : ps.all (wbelow n) = true ∧ decide ps.Nodup = true := Bool.and_eq_true_iff.mp u1
          have v2 : es.all (wbelow ts.length) = true ∧ decide es.Nodup = true := Bool.and_eq_true_iff.mp u2
          obtain ⟨pn, rfl, hpn⟩ := ints_of v1.1
          obtain ⟨en, rfl, hen⟩ := ints_of v2.1
          rw [toI_map, toI_map] at hr
          rw [List.length_map] at l2 le
          rw [List.length_map] at le
          exact ⟨a, pa, ta, pn, en, rfl, ea, epa, eta, hpn, hen, nodup_ints.mp (of_decide_eq_true v1.2), nodup_ints.mp (of_decide_eq_true v2.2), l2, le, hr⟩
section
variable {P : Program} {w : World} {K : PySem.W.Frag} {mg : Str → Option Value} {base : Heap}
theorem ok_foes_in {f : Addr} {fd : FuncData} (F : Fun K "foes_in" "foes_in" s_foes_in f fd) (M : Free mg) : FnOk P w K mg base CX0 1 f fd ["web", "ring"] spFoes := by
  refine F.ok sc_foes_in (fun vs H Q E h => ?_) (fun cdv A outer s H vs Q E hr h => ?_)
  · obtain ⟨wv, n, ts, a, ta, p, es, rfl, _⟩ := h
    rfl
  · obtain ⟨wv, n, ts, a, ta, p, es, rfl, ⟨wa, wb, us, rfl, hwa, hwb, hp⟩, ha, hta, hes, lm, q⟩ := h
    refine ⟨_, (pss_one (ps_ret (pe_callB call_len_seq (by rfl) M.len PySem.boot_len (pa_cons (pe_lc (own := [("tie", 2)]) (g := gName 2) (te := tVar 2) rfl sc_foes_in.nd (pi_tup (pe_ix ix_tup (pv 1) pe_int (fun _ _ => rfl))) (blkOk_by (N := N_foes_in) (sc := defScope s_foes_in) (own := [("tie", 2)]) (by decide +kernel)) (fun _ _ _ _ _ => (pg_name (i := 2) sc_foes_in.nd rfl (.inl rfl))) (fun _ _ _ _ _ => (pts_one (pt_cmpR op_eq (pe_ix (r := rIxT K) ix_tup (pe_ix (r := rIxT K) ix_tup (pe_ix (r := rIxT K) ix_tup (pv 0) pe_int (fun _ _ => rfl)) (pv 2) (fun _ _ => rfl)) pe_int (fun _ _ => rfl)) pe_str (nomark _)))) (fun _ _ _ _ _ => (pv 2))) pa_nil)))), ?_⟩
    refine ⟨.ref a, rfl, a, _, 1, .ref ta, rfl, rfl, SqT.of ha, rfl, ta, rfl, ⟨_, SqT.of hta⟩, fun Z nZ => ?_⟩
    refine lc_tup (xs := es.map V.int) (fun j H' => H' = upd H Z (.lst (((es.take j).filter fun e => (tieAt ts e).foe).map V.int))) rfl (fun j H' _ h => by rw [h]; exact SqT.of (same_new nZ _ _ hta)) ?_ ?_
    · rintro j x H' ex rfl
      rw [List.getElem?_map] at ex
      obtain ⟨e, he, rfl⟩ := Option.map_eq_some_iff.mp ex
      obtain ⟨z0, z1⟩ := hes e (List.mem_of_getElem? he)
      have hj := (List.getElem?_eq_some_iff.mp he).1
      have s1 := same_new (o := .lst (((es.take j).filter fun e => (tieAt ts e).foe).map V.int)) nZ
      obtain ⟨u, eu, cc, rfl, hcc⟩ := Paired.at' hp (tieAt_get z0 z1)
      refine ⟨rfl, .ref wa, rfl, wa, _, 1, .ref wb, rfl, rfl, SqT.of (s1 _ _ hwa), rfl, .int e, rfl, wb, us, e, .ref cc, rfl, rfl, SqT.of (s1 _ _ hwb), atI_of z0 eu, cc, _, 2, _, rfl, rfl, SqT.of (s1 _ _ hcc), rfl, rfl, _, rfl, ?_⟩
      rw [foesI_take ts es he, List.map_append]
      have lf : ((es.take j).filter fun e => (tieAt ts e).foe).length ≤ j := by
        have := List.length_filter_le (fun e => (tieAt ts e).foe) (es.take j)
        rw [List.length_take] at this
        omega
      cases hf : (tieAt ts e).foe with
      | true =>
        refine ⟨.int e, rfl, _, upd_same, by rw [List.length_map]; exact small2500 (by omega), ?_⟩
        funext b
        by_cases eb : b = Z
        · subst eb
          rw [upd_same, upd_same]
          rfl
        · rw [upd_ne eb, upd_ne eb, upd_ne eb]
      | false =>
        show upd H Z _ = upd H Z (.lst (((es.take j).filter fun e => (tieAt ts e).foe).map V.int ++ []))
        rw [List.append_nil]
    · rintro H' rfl
      rw [List.length_map, List.take_length]
      refine ⟨Z, _, rfl, .inl (SqL.of upd_same), ?_⟩
      rw [List.length_map]
      exact q _ (same_new nZ)
theorem ok_odd_ring {f : Addr} {fd : FuncData} {Ps : List Addr} (F : Fun K "odd_ring_holds" "odd_ring_holds" s_odd_ring_holds f fd) (D1 : Df P w K mg base 5 "ring_holds" ["web", "thing"] (spRing Ps)) (D2 : Df P w K mg base 1 "foes_in" ["web", "ring"] spFoes) : FnOk P w K mg base CX0 6 f fd ["web", "thing"] (spOdd Ps) := by
  obtain ⟨f1, fd1, G1, g1, k1, b1⟩ := D1
  obtain ⟨f2, fd2, G2, g2, k2, b2⟩ := D2
  refine F.ok sc_odd_ring_holds (fun vs H Q E h => ?_) (fun cdv A outer s H vs Q E hr h => ?_)
  · obtain ⟨wv, n, ts, v, rfl, _⟩ := h
    rfl
  · obtain ⟨wv, n, ts, v, rfl, hW, ok, hv, hT, q⟩ := h
    have hr1 : Room 1 _ := hr.mono (by decide : 1 ≤ 5)
    refine ⟨_, (pss_one (ps_ret (pe_and (pe_call G1 hr (by rfl) g1 k1 b1 .nil pass0 (pa_cons (pv 0) (pa_cons (pv 1) pa_nil))) (pe_one (pe_cmpR op_eq (pe_op op_mod (pe_call G2 hr1 (by rfl) g2 k2 b2 .nil pass0 (pa_cons (pv 0) (pa_cons (pv 1) pa_nil))) pe_int) pe_int (nomark _)))))), ?_⟩
    refine ⟨wv, rfl, v, rfl, wv, n, ts, v, rfl, hW, ok, hv, hT, fun H1 k => ⟨_, rfl, ?_⟩⟩
    cases hb : ringB H n ts v with
    | false =>
      have e : oddB H n ts v = false := by unfold oddB; rw [hb, Bool.false_and]
      rw [e] at q
      exact q _ k
    | true =>
      obtain ⟨a, pa, ta, pn, en, rfl, ea, epa, eta, _, hen, _, ndE, _, le, _⟩ := ring_is hb
      have lm : en.length ≤ 2500 := by
        have z := (hv.2 _ (parts_of' ea) (.ref ta) (by simp)).2 _ (parts_of' eta)
        have := z.2
        rw [List.length_map] at this
        exact this
      refine ⟨wv, rfl, .ref a, rfl, wv, n, ts, a, ta, .ref pa, en, rfl, hW.tk (k.tk hT), k.tup hT ea, k.tup hT eta, hen, lm, fun H2 s2 => ⟨_, 2, rfl, rfl, show (0 : Int) < 2 by decide, rfl, ?_⟩⟩
      have e : oddB H n ts (.ref a) = decide (V.int ((foesI ts en : Nat) % 2 : Int) = V.int 1) := by
        unfold oddB
        rw [hb, parts_of' ea]
        simp only [parts_of' eta, toI_map, Bool.true_and]
        rw [decide_eq_decide]
        constructor
        · intro z
          congr 1
          omega
        · intro z
          have := V.int.inj z
          omega
      rw [← e]
      exact q _ (k.trans (Kt.same k.tab s2))
end
/-! ### rising rows -/
def ltV : V → V → Bool
  | .int a, .int b => decide (a < b)
  | _, _ => false
def chainB (xs : List V) : Bool := (xs.zip (xs.drop 1)).all fun p => ltV p.1 p.2
def riseB (H : Hp) (lim : Int) (v : V) : Bool := match parts H v with
  | some xs => xs.all (wbelow lim) && chainB xs
  | none => false
def RowK (H : Hp) (v : V) : Prop := Kn H v ∧ ∀ xs, parts H v = some xs → (∀ x ∈ xs, Kn H x) ∧ xs.length ≤ 2500
def spRising (Ps : List Addr) : Sp := fun vs H Q _ => ∃ (lim : Int) (v : V), vs = [.int lim, v] ∧ RowK H v ∧ Tabs Ps H ∧ ∀ H', Kt Ps H H' → Q (.bl (riseB H lim v)) H'
theorem take_all {α : Type} {xs : List α} {p : α → Bool} {i : Nat} {x : α} (h : xs[i]? = some x) (ha : (xs.take i).all p = true) : (xs.take (i + 1)).all p = p x := by
  rw [List.take_add_one, h, List.all_append, ha]
  simp
theorem all_not {α : Type} {xs : List α} {p : α → Bool} {i : Nat} {x : α} (h : xs[i]? = some x) (hp : p x = false) : xs.all p = false := by
  rw [Bool.eq_false_iff]
  intro z
  rw [List.all_eq_true] at z
  rw [z x (List.mem_of_getElem? h)] at hp
  cases hp
theorem zip_at {α β : Type} {xs : List α} {ys : List β} {i : Nat} {x : α} {y : β} (h : xs[i]? = some x) (g : ys[i]? = some y) : (xs.zip ys)[i]? = some (x, y) := by
  rw [List.getElem?_zip_eq_some]
  exact ⟨h, g⟩
theorem kt_kn_parts {Ps : List Addr} {H H' : Hp} (k : Kt Ps H H') (t : Tabs Ps H) {v : V} (h : Kn H v) : parts H' v = parts H v := by
  cases v with
  | ref a =>
    unfold parts
    rcases h with ⟨xs, h⟩ | ⟨xs, h⟩ | ⟨xs, h⟩
    · simp only [h, k.lst t h]
    · simp only [h, k.tup t h]
    · simp only [h, k.dct t h]
  | _ => rfl
theorem RowK.kt {Ps : List Addr} {H H' : Hp} {v : V} (h : RowK H v) (k : Kt Ps H H') (t : Tabs Ps H) : RowK H' v := ⟨k.kn t h.1, fun xs e => by
  rw [kt_kn_parts k t h.1] at e
  exact ⟨fun x hx => k.kn t ((h.2 xs e).1 x hx), (h.2 xs e).2⟩⟩
theorem rise_kt {Ps : List Addr} {H H' : Hp} {v : V} (h : RowK H v) (k : Kt Ps H H') (t : Tabs Ps H) (lim : Int) : riseB H' lim v = riseB H lim v := by
  unfold riseB
  rw [kt_kn_parts k t h.1]
theorem cut_tail (xs : List V) : cutV xs (some 1) none = xs.drop 1 := by
  unfold cutV
  rw [HT.sIx_none, show (1 : Int) = ((1 : Nat) : Int) from rfl, HT.sIx_nat]
  cases xs with
  | nil => rfl
  | cons x r =>
    rw [Nat.min_eq_left (by simp)]
    exact List.take_of_length_le (by simp)
section
variable {P : Program} {w : World} {K : PySem.W.Frag} {mg : Str → Option Value} {base : Heap}
theorem ok_are_rising_below {f c Pt : Addr} {fd : FuncData} {Ps : List Addr} (F : FunC K "are_rising_below" "are_rising_below" s_are_rising_below f fd c) (TB : GxR.TabB base mg c Pt) (hPt : Pt ∈ Ps) (M : Free mg) (m_all : mg "all" = none) (m_zip : mg "zip" = none) (D_is_whole_below : Df P w K mg base 2 "is_whole_below" ["limit", "thing"] spBelow) : FnOk P w K mg base CX0 4 f fd ["limit", "thing"] (spRising Ps) := by
  obtain ⟨f_is_whole_below, fd_is_whole_below, G_is_whole_below, g_is_whole_below, k_is_whole_below, b_is_whole_below⟩ := D_is_whole_below
  refine F.ok sc_are_rising_below (fun vs H Q E h => ?_) (fun A outer s H vs Q E hr h => ?_)
  · obtain ⟨lim, v, rfl, _⟩ := h
    rfl
  · obtain ⟨lim, v, rfl, ⟨kv, kp⟩, hT, q⟩ := h
    refine ⟨_, (Evl.pss_cut (ps_if (PW.pt (pw_or (pt_not (pt_val (pe_callB call_isi (by rfl) M.isinstance (by decide +kernel) (pa_cons (pv 1) (pa_cons (pe_bltn (v := .ty "tuple") (by rfl) M.tuple (by decide +kernel) rfl) pa_nil))))) (pw_or1 (pt_not (pt_val (pe_all (k := 2) (own := [("number", 2)]) (g := gName 2) hr TB rfl rfl sc_are_rising_below.nd (by rfl) m_all (pi_tup (pv 1)) (blkOk_by (N := N_are_rising_below) (sc := defScope s_are_rising_below) (own := [("number", 2)]) (by decide +kernel)) ⟨rfl, by decide +kernel, by decide +kernel⟩ (show (".0" : Str) ∉ N_are_rising_below by decide +kernel) (fun _ _ _ _ _ _ _ => (pg_name (i := 2) sc_are_rising_below.nd rfl (.inl rfl))) (fun _ _ _ _ _ _ _ hr' => (pe_call G_is_whole_below hr' (by rfl) g_is_whole_below k_is_whole_below b_is_whole_below .nil pass0 (pa_cons (pv 0) (pa_cons (pv 2) pa_nil))))))))))
        (pss_one (ps_ret pe_bl))
        pss_nil)
      (pss_one (ps_ret (pe_all (k := 2) (own := [("number", 2), ("following", 3)]) (g := gTup K 2 (gCons (gName 2) (gCons (gName 3) gNil))) hr TB rfl rfl sc_are_rising_below.nd (by rfl) m_all (RZ.pi_zipA (by rfl) m_zip (pa_cons (pv 1) (pa_cons (pe_slice sl_tupU (pv 1) (po_some pe_int) po_none) pa_nil))) (blkOk_by (N := N_are_rising_below) (sc := defScope s_are_rising_below) (own := [("number", 2), ("following", 3)]) (by decide +kernel)) ⟨rfl, by decide +kernel, by decide +kernel⟩ (show (".0" : Str) ∉ N_are_rising_below by decide +kernel) (fun _ _ _ _ _ _ _ => (pg_tup rfl (pgs_cons (pg_name (i := 2) sc_are_rising_below.nd rfl (.inl rfl)) (pgs_cons (pg_name (i := 3) sc_are_rising_below.nd rfl (.inl rfl)) pgs_nil)))) (fun _ _ _ _ _ _ _ hr' => (pe_cmpR op_lt (pv 2) (pv 3) (nomark _))))))), ?_⟩
    refine ⟨fun σ' H' => σ' = [some (.int lim), some v, none, none] ∧ Kt Ps H H' ∧ ∃ a xs, v = .ref a ∧ H a = some (.tup xs) ∧ xs.all (wbelow lim) = true, ?_, ?_⟩
    · obtain ⟨t1, h1, e1⟩ := kn_tup (K := K) kv
      refine ⟨v, rfl, v, _, t1, _, _, rfl, .ty "tuple", h1, e1, _, rfl, ?_⟩
      cases hi : isT H v with
      | false =>
        unfold riseB at q
        rw [parts_none hi] at q
        exact q _ (Kt.refl hT)
      | true =>
        obtain ⟨a, xs, rfl, ha⟩ := isT_at hi
        obtain ⟨kx, lx⟩ := kp xs (parts_of' ha)
        refine ⟨.ref a, rfl, a, rfl, ⟨_, SqT.of ha⟩, hT Pt hPt, fun j m H' => j + m = xs.length ∧ Kt Ps H H' ∧ (xs.take j).all (wbelow lim) = true, fun H2 hH2 => ⟨xs.length, by omega, Kt.tabbed hT hPt hH2, rfl⟩, fun j m H' hw => ?_⟩
        obtain ⟨em, kt, hal⟩ := hw
        have ha' := kt.tup hT ha
        by_cases hj : j < xs.length
        · refine .inr ⟨⟨_, _, SqT.of ha', List.getElem?_eq_getElem hj⟩, fun H3 => Kt Ps H H3 ∧ (xs.take (j + 1)).all (wbelow lim) = true, fun H3 n3 => ⟨m - 1, by omega, by omega, n3.1, n3.2⟩, fun x H3 hy => ?_⟩
          obtain ⟨rfl, fy⟩ := hy
          have ex : xs[j]? = some x := fy _ (SqT.of ha')
          refine ⟨rfl, .int lim, rfl, x, rfl, lim, x, rfl, kt.kn hT (kx x (List.mem_of_getElem? ex)), _, rfl, ?_⟩
          cases hb : wbelow lim x with
          | true => exact ⟨kt, (take_all ex hal).trans hb⟩
          | false =>
            have no : riseB H lim (.ref a) = false := by
              unfold riseB
              rw [parts_of' ha]
              show (xs.all (wbelow lim) && chainB xs) = false
              rw [all_not ex hb]
              rfl
            rw [no] at q
            exact ⟨_, rfl, q _ kt⟩
        · refine .inl ⟨⟨_, SqT.of ha', by omega⟩, ?_⟩
          rw [List.take_of_length_le (by omega)] at hal
          exact ⟨_, rfl, rfl, kt, a, xs, rfl, ha, hal⟩
    · rintro σ' H1 ⟨rfl, kt1, a, xs, rfl, ha, hal⟩
      obtain ⟨kx, lx⟩ := kp xs (parts_of' ha)
      have er : riseB H lim (.ref a) = chainB xs := by
        unfold riseB
        rw [parts_of' ha]
        show (xs.all (wbelow lim) && chainB xs) = chainB xs
        rw [hal]
        rfl
      rw [er] at q
      have T1 : Tabs Ps H1 := kt1.tab
      have ha1 := kt1.tup hT ha
      refine ⟨.ref a, rfl, .ref a, rfl, 1, rfl, a, xs, rfl, ha1, fun r H2 s2 hr2 => ?_⟩
      rw [cut_tail] at hr2
      have k2 := Kt.same T1 s2
      have T2 : Tabs Ps H2 := k2.tab
      have ha2 := s2 _ _ ha1
      have k12 := kt1.trans k2
      refine ⟨a, r, xs, xs.drop 1, rfl, .inr ⟨SqT.of ha2, SqT.of hr2, ?_⟩⟩
      refine ⟨T2 Pt hPt, fun i m H' => i + m = xs.length - 1 ∧ Kt Ps H2 H' ∧ ((xs.zip (xs.drop 1)).take i).all (fun p => ltV p.1 p.2) = true, fun H3 hH3 => ⟨xs.length - 1, by omega, Kt.tabbed T2 hPt hH3, rfl⟩, fun i m H' hw => ?_⟩
      obtain ⟨em, kt, hal2⟩ := hw
      have ha' := kt.tup T2 ha2
      have hr' := kt.tup T2 hr2
      by_cases hi : i < xs.length - 1
      · have hd : i < (xs.drop 1).length := by rw [List.length_drop]; exact hi
        refine .inr ⟨⟨xs, xs.drop 1, _, _, SqT.of ha', SqT.of hr', List.getElem?_eq_getElem (by omega), List.getElem?_eq_getElem hd⟩, fun H3 => Kt Ps H2 H3 ∧ ((xs.zip (xs.drop 1)).take (i + 1)).all (fun p => ltV p.1 p.2) = true, fun H3 n3 => ⟨m - 1, by omega, by omega, n3.1, n3.2⟩, fun x H3 hy => ?_⟩
        obtain ⟨T, x1, y1, rfl, nT, rfl, gx, gy⟩ := hy
        have ex := gx _ (SqT.of ha')
        have ey := gy _ (SqT.of hr')
        have ez := zip_at ex ey
        have wb : ∀ z ∈ xs, ∃ k, z = .int k := fun z hz => by
          rw [List.all_eq_true] at hal
          have := hal z hz
          cases z with
          | int k => exact ⟨k, rfl⟩
          | _ => cases this
        obtain ⟨a1, rfl⟩ := wb x1 (List.mem_of_getElem? ex)
        obtain ⟨b1, rfl⟩ := wb y1 (List.mem_of_mem_drop (List.mem_of_getElem? ey))
        have s3 : Same H' (upd H' T (.tup [.int a1, .int b1])) := same_new nT
        have kt3 := kt.trans (Kt.same kt.tab s3)
        refine ⟨T, _, rfl, SqT.of upd_same, rfl, _, _, rfl, _, _, rfl, rfl, rfl, .int a1, rfl, .int b1, rfl, a1, b1, rfl, rfl, _, rfl, ?_⟩
        cases hb : decide (a1 < b1) with
        | true => exact ⟨kt3, (take_all ez hal2).trans hb⟩
        | false =>
          have no : chainB xs = false := all_not ez hb
          rw [no] at q
          exact q _ (k12.trans kt3)
      · refine .inl ⟨⟨xs, xs.drop 1, SqT.of ha', SqT.of hr', .inr (by rw [List.length_drop]; omega)⟩, ?_⟩
        have lz : (xs.zip (xs.drop 1)).length ≤ i := by rw [List.length_zip, List.length_drop]; omega
        rw [List.take_of_length_le lz] at hal2
        have yes : chainB xs = true := hal2
        rw [yes] at q
        exact q _ (k12.trans kt)
end
/-! ### papers: things, and what they show -/
def PapV : Nat → Hp → V → Prop
  | 0, H, v => Kn H v ∧ parts H v = none
  | d + 1, H, v => Kn H v ∧ ∀ xs, parts H v = some xs → (∀ x ∈ xs, PapV d H x) ∧ xs.length ≤ 2500
theorem PapV.kn {d : Nat} {H : Hp} {v : V} (h : PapV d H v) : Kn H v := by
  cases d with
  | zero => exact h.1
  | succ d => exact h.1
theorem PapV.up : ∀ {d : Nat} {H : Hp} {v : V}, PapV d H v → PapV (d + 1) H v
  | 0, H, v, h => ⟨h.1, fun xs e => by rw [h.2] at e; cases e⟩
  | d + 1, H, v, h => ⟨h.1, fun xs e => ⟨fun x hx => PapV.up ((h.2 xs e).1 x hx), (h.2 xs e).2⟩⟩
theorem PapV.mono {d e : Nat} (l : d ≤ e) {H : Hp} {v : V} (h : PapV d H v) : PapV e H v := by
  induction l with
  | refl => exact h
  | step _ ih => exact ih.up
theorem PapV.part {d : Nat} {H : Hp} {v : V} (h : PapV d H v) : Part2 H v := by
  have h := h.up
  exact ⟨h.1, fun ys e => ⟨fun y hy => ((h.2 ys e).1 y hy).kn, (h.2 ys e).2⟩⟩
theorem PapV.thing {d : Nat} {H : Hp} {v : V} (h : PapV d H v) : Thing2 H v := by
  have h := h.up
  exact ⟨h.1, fun xs e x hx => ((h.2 xs e).1 x hx).part⟩
theorem PapV.row {d : Nat} {H : Hp} {v : V} (h : PapV d H v) : RowK H v := h.part
/-- what is known stays -/
def StayP (H H' : Hp) : Prop := ∀ u, Kn H u → Kn H' u ∧ parts H' u = parts H u
theorem StayP.kt {Ps : List Addr} {H H' : Hp} (k : Kt Ps H H') (t : Tabs Ps H) : StayP H H' := fun u h => ⟨k.kn t h, kt_parts k t h⟩
theorem StayP.same {H H' : Hp} (s : Same H H') : StayP H H' := fun u h => by
  cases u with
  | ref a =>
    unfold parts
    rcases h with ⟨xs, h⟩ | ⟨xs, h⟩ | ⟨xs, h⟩
    · exact ⟨.inl ⟨xs, s _ _ h⟩, by simp only [h, s _ _ h]⟩
    · exact ⟨.inr (.inl ⟨xs, s _ _ h⟩), by simp only [h, s _ _ h]⟩
    · exact ⟨.inr (.inr ⟨xs, s _ _ h⟩), by simp only [h, s _ _ h]⟩
  | _ => exact ⟨h, rfl⟩
theorem StayP.trans {H H1 H2 : Hp} (a : StayP H H1) (b : StayP H1 H2) : StayP H H2 := fun u h => ⟨(b u (a u h).1).1, ((b u (a u h).1).2).trans (a u h).2⟩
theorem PapV.stay : ∀ {d : Nat} {H H' : Hp} {v : V}, PapV d H v → StayP H H' → PapV d H' v
  | 0, H, H', v, h, s => ⟨(s v h.1).1, (s v h.1).2.trans h.2⟩
  | d + 1, H, H', v, h, s => ⟨(s v h.1).1, fun xs e => by
    rw [(s v h.1).2] at e
    exact ⟨fun x hx => PapV.stay ((h.2 xs e).1 x hx) s, (h.2 xs e).2⟩⟩
theorem ring_stay {H H' : Hp} {v : V} (h : Thing2 H v) (s : StayP H H') (n : Int) (ts : List Tie) : ringB H' n ts v = ringB H n ts v := by
  unfold ringB
  rw [(s v h.1).2]
  cases e : parts H v with
  | none => rfl
  | some xs =>
    match xs, e with
    | [], _ => rfl
    | [_], _ => rfl
    | [a, b], e =>
      show ringP n ts (parts H' a) (parts H' b) = ringP n ts (parts H a) (parts H b)
      rw [(s a (h.2 _ e a (by simp)).1).2, (s b (h.2 _ e b (by simp)).1).2]
    | _ :: _ :: _ :: _, _ => rfl
theorem odd_stay {H H' : Hp} {v : V} (h : Thing2 H v) (s : StayP H H') (n : Int) (ts : List Tie) : oddB H' n ts v = oddB H n ts v := by
  unfold oddB
  rw [ring_stay h s, (s v h.1).2]
  congr 1
  cases e : parts H v with
  | none => rfl
  | some xs =>
    match xs, e with
    | [], _ => rfl
    | [_], _ => rfl
    | [a, b], e =>
      show (match parts H' b with | some es => decide (foesI ts (es.map toI) % 2 = 1) | none => false) = (match parts H b with | some es => decide (foesI ts (es.map toI) % 2 = 1) | none => false)
      rw [(s b (h.2 _ e b (by simp)).1).2]
    | _ :: _ :: _ :: _, _ => rfl
def tiesOf (H : Hp) (ring : V) : List Int := match parts H ring with
  | some [_, t] => ((parts H t).getD []).map toI
  | _ => []
theorem tiesOf_stay {H H' : Hp} {v : V} (h : Thing2 H v) (s : StayP H H') : tiesOf H' v = tiesOf H v := by
  unfold tiesOf
  rw [(s v h.1).2]
  cases e : parts H v with
  | none => rfl
  | some xs =>
    match xs, e with
    | [], _ => rfl
    | [_], _ => rfl
    | [a, b], e =>
      show ((parts H' b).getD []).map toI = ((parts H b).getD []).map toI
      rw [(s b (h.2 _ e b (by simp)).1).2]
    | _ :: _ :: _ :: _, _ => rfl
/-- a row of rings: an odd ring, and how often -/
def rowR (H : Hp) (n : Int) (ts : List Tie) (r : V) : Option (List Int × Int) := match parts H r with
  | some [x, .int t] => if decide (1 ≤ t) && oddB H n ts x then some (tiesOf H x, t) else none
  | _ => none
theorem rowR_stay {d : Nat} {H H' : Hp} {v : V} (h : PapV d H v) (s : StayP H H') (n : Int) (ts : List Tie) : rowR H' n ts v = rowR H n ts v := by
  have h := h.up
  unfold rowR
  rw [(s v h.1).2]
  cases e : parts H v with
  | none => rfl
  | some xs =>
    match xs, e with
    | [], _ => rfl
    | [_], _ => rfl
    | [a, b], e =>
      cases b with
      | int t =>
        have ha := ((h.2 _ e).1 a (by simp)).thing
        show (if decide (1 ≤ t) && oddB H' n ts a then some (tiesOf H' a, t) else none) = (if decide (1 ≤ t) && oddB H n ts a then some (tiesOf H a, t) else none)
        rw [odd_stay ha s, tiesOf_stay ha s]
      | _ => rfl
    | _ :: y :: _ :: _, _ => cases y <;> rfl
def stepR (H : Hp) (n : Int) (ts : List Tie) : Option (List (List Int × Int)) → V → Option (List (List Int × Int))
  | none, _ => none
  | some xs, r => match rowR H n ts r with
    | none => none
    | some x => some (xs ++ [x])
def loadR (xs : List (List Int × Int)) (e : Int) : Int := (xs.map fun x => if e ∈ x.1 then x.2 else 0).sum
def totR (xs : List (List Int × Int)) : Int := (xs.map (·.2)).sum
def givR (m : Nat) (given : List Int) (xs : List (List Int × Int)) : Bool := xs.all fun x => x.1.all fun e => decide (e ∈ given) || decide ((m : Int) ≤ e)
def fitR (lim : List Int) (xs : List (List Int × Int)) : Bool := xs.all fun x => x.1.all fun e => decide ((lim.length : Int) ≤ e) || decide (loadR xs e ≤ lim.getD e.toNat 0)
def ringsS (H : Hp) (n : Int) (ts : List Tie) (lim given : List Int) (rows : List V) : Option Int := match rows.foldl (stepR H n ts) (some []) with
  | none => none
  | some xs => if givR lim.length given xs && fitR lim xs then some ((totR xs + 1) / 2) else none
/-- a row of a split: rising ties, and something for them -/
def rowT (H : Hp) (m : Nat) (r : V) : Option (List Int × V) := match parts H r with
  | some [t, p] => if riseB H m t then some (((parts H t).getD []).map toI, p) else none
  | _ => none
def stepT (H : Hp) (m : Nat) (given : List Int) (S : List Int → V → Option Int) : Option (List Int × Int) → V → Option (List Int × Int)
  | none, _ => none
  | some (tk, tot), r => match rowT H m r with
    | none => none
    | some (es, p) => if es.all (fun e => decide (e ∈ given) && !decide (e ∈ tk)) then (match S es p with
      | none => none
      | some k => some (tk ++ es, tot + k)) else none
def splitS (H : Hp) (m : Nat) (given : List Int) (S : List Int → V → Option Int) (rows : List V) : Option Int := (rows.foldl (stepT H m given S) (some ([], 0))).map (·.2)
def minO : Option Int → Option Int → Option Int
  | some x, some y => some (min x y)
  | _, _ => none
def caseS (n : Int) (S : Tie → V → Option Int) (p q a b : V) : Option Int := match p, q with
  | .int x, .int y => if wbelow n (.int x) && (wbelow n (.int y) && !decide (x = y)) then minO (S ⟨x, y, false⟩ a) (S ⟨x, y, true⟩ b) else none
  | _, _ => none
def shownS : Nat → Hp → Int → List Tie → List Int → List Int → V → Option Int
  | 0, _, _, _, _, _, _ => none
  | d + 1, H, n, ts, lim, given, v => match parts H v with
    | some [w, r] => (match parts H r with
      | none => none
      | some rows => if w = .str "rings" then ringsS H n ts lim given rows else if w = .str "split" then splitS H lim.length given (fun es p => shownS d H n ts lim es p) rows else none)
    | some [w, p, q, a, b] => if w = .str "case" then caseS n (fun t x => shownS d H n (ts ++ [t]) lim given x) p q a b else none
    | _ => none
theorem fold_at {α β : Type} {f : β → α → β} {b : β} {rows : List α} {i : Nat} {r : α} (e : rows[i]? = some r) : (rows.take (i + 1)).foldl f b = f ((rows.take i).foldl f b) r := by
  rw [List.take_add_one, e, List.foldl_append]
  rfl
theorem fold_none {α β : Type} {f : Option β → α → Option β} (hf : ∀ a, f none a = none) : ∀ rows : List α, rows.foldl f none = none
  | [] => rfl
  | r :: rs => by rw [List.foldl_cons, hf, fold_none hf rs]
theorem fold_off {α β : Type} {f : Option β → α → Option β} (hf : ∀ a, f none a = none) {b : Option β} {rows : List α} {i : Nat} (h : (rows.take i).foldl f b = none) : rows.foldl f b = none := by
  have e : rows = rows.take i ++ rows.drop i := (List.take_append_drop ..).symm
  rw [e, List.foldl_append, h]
  exact fold_none hf _
theorem stepR_none (H : Hp) (n : Int) (ts : List Tie) (r : V) : stepR H n ts none r = none := rfl
theorem stepT_none (H : Hp) (m : Nat) (given : List Int) (S : List Int → V → Option Int) (r : V) : stepT H m given S none r = none := rfl
theorem foldl_ext {α β : Type} {f g : β → α → β} : ∀ {rows : List α} {b : β}, (∀ r ∈ rows, ∀ b, f b r = g b r) → rows.foldl f b = rows.foldl g b
  | [], _, _ => rfl
  | r :: rs, b, h => by rw [List.foldl_cons, List.foldl_cons, h r List.mem_cons_self, foldl_ext fun x hx => h x (List.mem_cons_of_mem _ hx)]
theorem rowT_stay {d : Nat} {H H' : Hp} {v : V} (h : PapV d H v) (s : StayP H H') (m : Nat) : rowT H' m v = rowT H m v := by
  have h := h.up
  unfold rowT
  rw [(s v h.1).2]
  cases e : parts H v with
  | none => rfl
  | some xs =>
    have hx := (h.2 _ e).1
    match xs, hx with
    | [], _ => rfl
    | [_], _ => rfl
    | [a, b], hx =>
      have ha := hx a (by simp)
      have e4 : riseB H' m a = riseB H m a := by
        unfold riseB
        rw [(s a ha.kn).2]
      show (if riseB H' m a = true then some (((parts H' a).getD []).map toI, b) else none) = (if riseB H m a = true then some (((parts H a).getD []).map toI, b) else none)
      rw [e4, (s a ha.kn).2]
    | _ :: _ :: _ :: _, _ => rfl
theorem rowT_is {H : Hp} {m : Nat} {r : V} {es : List Int} {p : V} (h : rowT H m r = some (es, p)) : ∃ t, parts H r = some [t, p] ∧ riseB H m t = true ∧ es = ((parts H t).getD []).map toI := by
  unfold rowT at h
  cases e : parts H r with
  | none => rw [e] at h; cases h
  | some xs =>
    rw [e] at h
    match xs, h with
    | [t, q], h =>
      change (if riseB H m t = true then some (((parts H t).getD []).map toI, q) else none) = some (es, p) at h
      by_cases hb : riseB H m t = true
      · rw [if_pos hb] at h
        have h := Option.some.inj h
        obtain ⟨rfl, rfl⟩ := Prod.mk.inj h
        exact ⟨t, rfl, hb, rfl⟩
      · rw [if_neg hb] at h
        cases h
theorem rowT_pap {d : Nat} {H : Hp} {m : Nat} {r : V} {es : List Int} {p : V} (h : PapV d H r) (e : rowT H m r = some (es, p)) : PapV d H p := by
  obtain ⟨t, h1, _, _⟩ := rowT_is e
  cases d with
  | zero => rw [h.2] at h1; cases h1
  | succ d => exact (((h.2 _ h1).1 p (by simp))).up
theorem shown_stay : ∀ {d e : Nat} {H H' : Hp} {v : V}, PapV e H v → StayP H H' → ∀ (n : Int) (ts : List Tie) (lim given : List Int), shownS d H' n ts lim given v = shownS d H n ts lim given v
  | 0, _, _, _, _, _, _, _, _, _, _ => rfl
  | d + 1, e, H, H', v, h, s, n, ts, lim, given => by
    have h := h.up
    unfold shownS
    rw [(s v h.1).2]
    cases ev : parts H v with
    | none => rfl
    | some xs =>
      have hx := (h.2 _ ev).1
      match xs, hx with
      | [], _ => rfl
      | [_], _ => rfl
      | [w, r], hx =>
        have hr := (hx r (by simp)).up
        show (match parts H' r with | none => none | some rows => _) = (match parts H r with | none => none | some rows => _)
        rw [(s r hr.1).2]
        cases er : parts H r with
        | none => rfl
        | some rows =>
          have hrow := (hr.2 _ er).1
          show (if w = .str "rings" then _ else if w = .str "split" then _ else none) = (if w = .str "rings" then _ else if w = .str "split" then _ else none)
          by_cases e1 : w = .str "rings"
          · rw [if_pos e1, if_pos e1]
            unfold ringsS
            rw [foldl_ext (g := stepR H n ts) fun r hr b => by
              cases b with
              | none => rfl
              | some b =>
                show (match rowR H' n ts r with | none => none | some x => some (b ++ [x])) = (match rowR H n ts r with | none => none | some x => some (b ++ [x]))
                rw [rowR_stay (hrow r hr) s]]
          · rw [if_neg e1, if_neg e1]
            by_cases e2 : w = .str "split"
            · rw [if_pos e2, if_pos e2]
              unfold splitS
              rw [foldl_ext (g := stepT H lim.length given fun es p => shownS d H n ts lim es p) fun r hr b => ?_]
              cases b with
              | none => rfl
              | some b =>
                show (match rowT H' lim.length r with | none => none | some (es, p) => if es.all (fun e => decide (e ∈ given) && !decide (e ∈ b.1)) then (match shownS d H' n ts lim es p with | none => none | some k => some (b.1 ++ es, b.2 + k)) else none) = (match rowT H lim.length r with | none => none | some (es, p) => if es.all (fun e => decide (e ∈ given) && !decide (e ∈ b.1)) then (match shownS d H n ts lim es p with | none => none | some k => some (b.1 ++ es, b.2 + k)) else none)
                rw [rowT_stay (hrow r hr) s]
                cases e3 : rowT H lim.length r with
                | none => rfl
                | some ep =>
                  obtain ⟨es, p⟩ := ep
                  have hp := rowT_pap (hrow r hr) e3
                  show (if es.all (fun e => decide (e ∈ given) && !decide (e ∈ b.1)) then (match shownS d H' n ts lim es p with | none => none | some k => some (b.1 ++ es, b.2 + k)) else none) = (if es.all (fun e => decide (e ∈ given) && !decide (e ∈ b.1)) then (match shownS d H n ts lim es p with | none => none | some k => some (b.1 ++ es, b.2 + k)) else none)
                  rw [shown_stay hp s]
            · rw [if_neg e2, if_neg e2]
      | [_, _, _], _ => rfl
      | [_, _, _, _], _ => rfl
      | [w, p, q, a, b], hx =>
        show (if w = .str "case" then caseS n _ p q a b else none) = (if w = .str "case" then caseS n _ p q a b else none)
        congr 1
        unfold caseS
        cases p <;> cases q <;> try rfl
        simp only [shown_stay (hx a (by simp)) s, shown_stay (hx b (by simp)) s]
      | _ :: _ :: _ :: _ :: _ :: _ :: _, _ => rfl
/-! ### a thing of any kind against a text -/
section
open PySem.SeqAt PySem.MeetsSeq
open PySem.AutoSeq1 (wpAny_loadPart')
variable {A : Around} {s : Shared}
theorem str_eq_declines_dictP (b : Str) (u : Tok) (l : Addr) (o : Obj) : Meets (Builtin.«str.__eq__» ⟨[.str b u, .ref l], []⟩) (fun _ R s => s.heap.get? l = some o ∧ o.cls = .type "dict" ∧ (∃ es ep, o.data = .dict es ep) ∧ R (.ok (.ret .notImplemented)) s) :=
  .of_wp fun prog w A R s h => by
    obtain ⟨hp, g, d, tk, os⟩ := s
    obtain ⟨hl, hc, ⟨es, ep, hd⟩, h⟩ := h
    obtain ⟨cls, dd, data, sl⟩ := o
    simp only at hc hd
    subst hc hd
    wp_walk using wpAny_loadPart' hl, wpAny_load hl
    exact ⟨_, rfl, h⟩
theorem dict_eq_declines_strP (l : Addr) (o : Obj) (b : Str) (u : Tok) : Meets (Builtin.«dict.__eq__» ⟨[.ref l, .str b u], []⟩) (fun _ R s => s.heap.get? l = some o ∧ o.cls = .type "dict" ∧ (∃ es ep, o.data = .dict es ep) ∧ R (.ok (.ret .notImplemented)) s) :=
  .of_wp fun prog w A R s h => by
    obtain ⟨hp, g, d, tk, os⟩ := s
    obtain ⟨hl, hc, ⟨es, ep, hd⟩, h⟩ := h
    obtain ⟨cls, dd, data, sl⟩ := o
    simp only at hc hd
    subst hc hd
    have f1 := F.sub_str_dict
    wp_walk using wpAny_loadPart' hl
    exact ⟨_, rfl, h⟩
theorem rc_dict_str {l : Addr} {o : Obj} {es : Array DictEntry} {ep : Nat} (b : Str) (u : Tok) (ho : s.heap.get? l = some o) (hc : o.cls = .type "dict") (hd : o.data = .dict es ep) (hu : A.units < cLine) : RcAt A s (.ref l) (.str b u) false := fun prog w E Q h => by
  exact rc_eq_decline_or (k := false) ⟨_, ho, hc⟩ (typeIs_str s b u) (by decide) F.sub_str_dict F.slot_dict_eq F.slot_str_eq_refl
    (fun _ hq => call_meets F.slot_dict_eq ⟨_, ho, hc⟩ F.entry_dict_eq (F.args_dict_eq_2 _ _) (dict_eq_declines_strP l o b u) ⟨ho, hc, ⟨_, _, hd⟩, hq⟩)
    (fun _ hq => call_meets F.slot_str_eq_refl (typeIs_str s b u) F.entry_str_eq (F.args_str_eq_2 _ _) (str_eq_declines_dictP b u l o) ⟨ho, hc, ⟨_, _, hd⟩, hq⟩)
    (fun _ hq => wpAny_of_eq (rfl : isSame (.ref l) (.str b u) = pure false) hq) (.inr hu) h
end
def rEqAS : R2 := fun x y H Q => ∃ b, y = .str b ∧ Kn H x ∧ Q (.bl (decide (x = .str b))) H
theorem op_eqAS {X : Cx} (hu : X.A.units < cLine) : OpR X (compareOp .Eq) rEqAS := by
  intro pins s σ H x y v u Q I rx ry want
  obtain ⟨b, rfl, hk, q⟩ := want
  obtain ⟨k, rfl⟩ := ry
  cases x with
  | non =>
    cases rx
    exact SeqAt.RcAt.none_str b k _ _ _ _ ⟨.bl false, H, I, rfl, q⟩
  | bl a =>
    cases rx
    exact SeqAt.RcAt.bool_str a b k _ _ _ _ ⟨.bl false, H, I, rfl, q⟩
  | int a =>
    obtain ⟨t, rfl⟩ := rx
    exact SeqAt.RcAt.int_str a t b k _ _ _ _ ⟨.bl false, H, I, rfl, q⟩
  | str a =>
    obtain ⟨t, rfl⟩ := rx
    refine SeqAt.RcAt.str_str a t b k _ _ _ _ ⟨.bl (a == b), H, I, rfl, ?_⟩
    have e : decide (V.str a = V.str b) = (a == b) := by
      rw [Bool.eq_iff_iff, decide_eq_true_iff, beq_iff_eq]
      exact ⟨fun h => V.str.inj h, fun h => by rw [h]⟩
    rw [← e]
    exact q
  | ref a =>
    obtain rfl : v = Value.ref a := rx
    have q : Q (.bl false) H := q
    rcases hk with ⟨xs, h⟩ | ⟨xs, h⟩ | ⟨xs, h⟩
    · obtain ⟨its, r1, p1, _⟩ := I.list (.inl (.inl h))
      exact SeqAt.RcAt.list_str b k p1.isList hu _ _ _ _ ⟨.bl false, H, I, rfl, q⟩
    · obtain ⟨its, rv, tup, _⟩ := I.tuple (.inl (.inl h))
      exact SeqAt.RcAt.tuple_str b k tup hu _ _ _ _ ⟨.bl false, H, I, rfl, q⟩
    · obtain ⟨hz, hne, vs, kv, o2, es, ep, ho2, ed, hd2, ko, pr, nd⟩ := I.hok a _ h
      exact rc_dict_str b k ho2 ed.1 hd2 hu _ _ _ _ ⟨.bl false, H, I, rfl, q⟩
  | _ => exact hk.elim
theorem room1 {k : Nat} {A : PySem.Around} (r : Room k A) : A.units + 1 < cLine := by have := r.un; omega
def rLen49 (K : PySem.W.Frag) : List V → Hp → VK → Prop := fun xs H Q => ∃ p ys, xs = [V.ref p] ∧ (SqL K H p ys ∨ SqT K H p ys) ∧ Q (V.int (ys.length : Nat)) H
/-! ### papers: rows of rings, rows of splits -/
def kvG (ks : List Int) : List (Key × V) := ks.map fun k => (Sum.inl k, V.bl true)
theorem kvG_val {x : Int} : ∀ {ks : List Int}, valV (kvG ks) (Sum.inl x) = if x ∈ ks then some (.bl true) else none
  | [] => rfl
  | k :: ks => by
    show valV ((Sum.inl k, V.bl true) :: kvG ks) (Sum.inl x) = _
    by_cases e : k = x
    · rw [valV_pos (p := ((Sum.inl k : Key), V.bl true)) (show (Sum.inl k : Key) = Sum.inl x by rw [e]), e, if_pos List.mem_cons_self]
    · rw [valV_neg (p := ((Sum.inl k : Key), V.bl true)) (show ¬ (Sum.inl k : Key) = Sum.inl x from fun z => e (Sum.inl.inj z)), kvG_val (ks := ks)]
      by_cases h : x ∈ ks
      · rw [if_pos h, if_pos (List.mem_cons_of_mem _ h)]
      · rw [if_neg h, if_neg fun z => h ((List.mem_cons.mp z).resolve_left fun q => e q.symm)]
theorem kvG_some {x : Int} {ks : List Int} : (valV (kvG ks) (Sum.inl x)).isSome = decide (x ∈ ks) := by
  rw [kvG_val]
  by_cases h : x ∈ ks
  · rw [if_pos h, decide_eq_true h]; rfl
  · rw [if_neg h, decide_eq_false h]; rfl
theorem len_is {H : Hp} {v : V} {n : Int} : lenIs H v n = true → ∃ xs, parts H v = some xs ∧ (xs.length : Int) = n := fun h => by
  unfold lenIs at h
  cases e : parts H v with
  | none => rw [e] at h; cases h
  | some xs => rw [e] at h; exact ⟨xs, rfl, of_decide_eq_true h⟩
theorem two_of {α : Type} : ∀ {xs : List α}, (xs.length : Int) = 2 → ∃ a b, xs = [a, b]
  | [a, b], _ => ⟨a, b, rfl⟩
  | [], h => by cases h
  | [_], h => by cases h
  | _ :: _ :: _ :: xs, h => by
    simp only [List.length_cons] at h
    omega
theorem two_not {H : Hp} {v : V} (h : lenIs H v 2 = false) {xs : List V} (e : parts H v = some xs) : ∀ a b, xs ≠ [a, b] := fun a b z => by
  subst z
  unfold lenIs at h
  rw [e] at h
  cases h
def rowOk (H : Hp) (n : Int) (ts : List Tie) (m : Nat) (given : List Int) (v : V) : Bool := match rowR H n ts v with
  | some x => x.1.all fun e => decide (e ∈ given) || decide ((m : Int) ≤ e)
  | none => false
theorem rowR_not {H : Hp} {n : Int} {ts : List Tie} {v : V} (h : lenIs H v 2 = false) : rowR H n ts v = none := by
  unfold rowR
  cases e : parts H v with
  | none => rfl
  | some xs =>
    have := two_not h e
    match xs, this with
    | [], _ => rfl
    | [_], _ => rfl
    | [a, b], t => exact (t a b rfl).elim
    | _ :: y :: _ :: _, _ => cases y <;> rfl
theorem rowR_two {H : Hp} {n : Int} {ts : List Tie} {v a b : V} (h : parts H v = some [a, b]) : rowR H n ts v = if wfrom 1 b && oddB H n ts a then some (tiesOf H a, toI b) else none := by
  unfold rowR
  rw [h]
  cases b with
  | int t => rfl
  | _ => rfl
theorem pigeon49 {m : Nat} (xs : List Int) (nd : xs.Nodup) (h : ∀ x ∈ xs, 0 ≤ x ∧ x < (m : Int)) : xs.length ≤ m := by
  have sub : ∀ (ys zs : List Int), ys.Nodup → (∀ y ∈ ys, y ∈ zs) → ys.length ≤ zs.length := fun ys => by
    induction ys with
    | nil => intro zs _ _; exact Nat.zero_le _
    | cons y ys ih =>
      intro zs nd hs
      have nd' := List.nodup_cons.mp nd
      have hy := hs y List.mem_cons_self
      have := ih (zs.erase y) nd'.2 fun w hw => (List.mem_erase_of_ne (show w ≠ y from fun z => nd'.1 (z ▸ hw))).mpr (hs w (List.mem_cons_of_mem _ hw))
      rw [List.length_erase_of_mem hy] at this
      have := List.length_pos_of_mem hy
      rw [List.length_cons]
      omega
  have := sub xs (rng m) nd fun x hx => mem_rng.mpr (h x hx)
  rw [rng_length] at this
  exact this
theorem odd_ties {H : Hp} {n : Int} {ts : List Tie} {v : V} (h : oddB H n ts v = true) : ∃ (a ta : Addr) (p : V) (en : List Int), v = .ref a ∧ H a = some (.tup [p, .ref ta]) ∧ H ta = some (.tup (en.map V.int)) ∧ tiesOf H v = en ∧ (∀ e ∈ en, 0 ≤ e ∧ e < (ts.length : Int)) ∧ en.Nodup ∧ en.length ≤ ts.length := by
  unfold oddB at h
  rw [Bool.and_eq_true] at h
  obtain ⟨a, pa, ta, pn, en, rfl, ea, epa, eta, hpn, hen, npn, nen, l2, le, _⟩ := ring_is h.1
  refine ⟨a, ta, .ref pa, en, rfl, ea, eta, ?_, hen, nen, ?_⟩
  · unfold tiesOf
    rw [parts_of' ea]
    show ((parts H (.ref ta)).getD []).map toI = en
    rw [parts_of' eta]
    exact toI_map en
  · exact pigeon49 en nen hen
/-- what a def of the checker is handed: the web with the sure ties, twice the weights, the ties that are given -/
structure KnotAt (H : Hp) (wv : V) (lv gv : Addr) (n : Int) (ts : List Tie) (lim given : List Int) : Prop where
  web : WebAt H wv n ts
  ok : WebOk n ts
  lm : H lv = some (.lst (lim.map V.int))
  few : lim.length ≤ ts.length
  giv : H gv = some (.dK (kvG given))
  inn : ∀ e ∈ given, 0 ≤ e ∧ e < (lim.length : Int)
  nd : given.Nodup
theorem KnotAt.kt {Ps : List Addr} {H H' : Hp} {wv : V} {lv gv : Addr} {n : Int} {ts : List Tie} {lim given : List Int} (h : KnotAt H wv lv gv n ts lim given) (k : Kt Ps H H') (t : Tabs Ps H) : KnotAt H' wv lv gv n ts lim given :=
  ⟨h.web.tk (k.tk t), h.ok, k.lst t h.lm, h.few, k.dct t h.giv, h.inn, h.nd⟩
def spRingRow (Ps : List Addr) : Sp := fun vs H Q _ => ∃ (wv : V) (lv gv : Addr) (v : V) (n : Int) (ts : List Tie) (lim given : List Int) (d : Nat), vs = [wv, .ref lv, .ref gv, v] ∧ KnotAt H wv lv gv n ts lim given ∧ PapV d H v ∧ Tabs Ps H ∧ ∀ H', Kt Ps H H' → Q (.bl (rowOk H n ts lim.length given v)) H'
section
variable {P : Program} {w : World} {K : PySem.W.Frag} {mg : Str → Option Value} {base : Heap}
set_option maxHeartbeats 2000000 in
theorem ok_is_ring_row {f c Pt : Addr} {fd : FuncData} {Ps : List Addr} (F : FunC K "is_ring_row" "is_ring_row" s_is_ring_row f fd c) (TB : GxR.TabB base mg c Pt) (hPt : Pt ∈ Ps) (M : Free mg) (m_all : mg "all" = none) (D_is_tuple_of : Df P w K mg base 1 "is_tuple_of" ["length", "thing"] spTupleOf) (D_odd_ring_holds : Df P w K mg base 6 "odd_ring_holds" ["web", "thing"] (spOdd Ps)) (D_is_whole_from : Df P w K mg base 2 "is_whole_from" ["low", "thing"] spFrom) : FnOk P w K mg base CX0 9 f fd ["web", "limits", "given", "thing"] (spRingRow Ps) := by
  obtain ⟨f_is_tuple_of, fd_is_tuple_of, G_is_tuple_of, g_is_tuple_of, k_is_tuple_of, b_is_tuple_of⟩ := D_is_tuple_of
  obtain ⟨f_odd_ring_holds, fd_odd_ring_holds, G_odd_ring_holds, g_odd_ring_holds, k_odd_ring_holds, b_odd_ring_holds⟩ := D_odd_ring_holds
  obtain ⟨f_is_whole_from, fd_is_whole_from, G_is_whole_from, g_is_whole_from, k_is_whole_from, b_is_whole_from⟩ := D_is_whole_from
  refine F.ok sc_is_ring_row (fun vs H Q E h => ?_) (fun A outer s H vs Q E hr h => ?_)
  · obtain ⟨wv, lv, gv, v, n, ts, lim, given, d, rfl, _⟩ := h
    rfl
  · obtain ⟨wv, lv, gv, v, n, ts, lim, given, d, rfl, hK, hP, hT, q⟩ := h
    have hu := room1 hr
    refine ⟨_, (pss_cons (ps_if (pt_not (pt_val (pe_call G_is_tuple_of (hr.mono (by decide)) (by rfl) g_is_tuple_of k_is_tuple_of b_is_tuple_of .nil pass0 (pa_cons pe_int (pa_cons (pv 3) pa_nil)))))
        (pss_one (ps_ret pe_bl))
        pss_nil)
      (pss_cons (ps_asg (pv 3) (pg_tup rfl (pgs_cons (pg_name (i := 4) sc_is_ring_row.nd rfl (.inl rfl)) (pgs_cons (pg_name (i := 5) sc_is_ring_row.nd rfl (.inl rfl)) pgs_nil))))
      (pss_cons (ps_if (PW.pt (pw_or (pt_not (pt_val (pe_call G_is_whole_from (hr.mono (by decide)) (by rfl) g_is_whole_from k_is_whole_from b_is_whole_from .nil pass0 (pa_cons pe_int (pa_cons (pv 5) pa_nil))))) (pw_or1 (pt_not (pt_val (pe_call G_odd_ring_holds (hr.mono (by decide)) (by rfl) g_odd_ring_holds k_odd_ring_holds b_odd_ring_holds .nil pass0 (pa_cons (pv 0) (pa_cons (pv 4) pa_nil))))))))
        (pss_one (ps_ret pe_bl))
        pss_nil)
      (pss_one (ps_ret (pe_all (k := 7) (own := [("tie", 6)]) (g := gName 6) hr TB rfl rfl sc_is_ring_row.nd (by rfl) m_all (pi_tup (pe_ix ix_tup (pv 4) pe_int (fun _ _ => rfl))) (blkOk_by (N := N_is_ring_row) (sc := defScope s_is_ring_row) (own := [("tie", 6)]) (by decide +kernel)) ⟨rfl, by decide +kernel, by decide +kernel⟩ (show (".0" : Str) ∉ N_is_ring_row by decide +kernel) (fun _ _ _ _ _ _ _ => (pg_name (i := 6) sc_is_ring_row.nd rfl (.inl rfl))) (fun _ _ _ _ _ _ _ hr' => (pe_or (pe_cmp (pc_din (room1 hr') (pv 6) (pv 2))) (pe_one (pe_cmpR op_ge (pv 6) (pe_callB (r := rLen49 K) call_len_seq (by rfl) M.len PySem.boot_len (pa_cons (pv 1) pa_nil)) (nomark _))))))))))), ?_⟩
    obtain ⟨hW, ok, hlim, few, hgiv, inn, ndg⟩ := hK
    have kv := hP.kn
    refine ⟨v, rfl, 2, v, rfl, kv, _, rfl, ?_⟩
    cases h2 : lenIs H v 2 with
    | false =>
      have e : rowOk H n ts lim.length given v = false := by
        unfold rowOk
        rw [rowR_not h2]
      rw [e] at q
      exact q _ (Kt.refl hT)
    | true =>
    obtain ⟨xs, hx, lx⟩ := len_is h2
    obtain ⟨a, b, rfl⟩ := two_of lx
    obtain ⟨va, rfl, hva⟩ := parts_at hx
    have hPu := hP.up
    have pa := (hPu.2 _ hx).1 a (by simp)
    have pb := (hPu.2 _ hx).1 b (by simp)
    have er := rowR_two (n := n) (ts := ts) hx
    refine ⟨.ref va, rfl, va, _, rfl, SqT.of hva, rfl, _, _, rfl, _, _, rfl, rfl, ?_⟩
    refine ⟨b, rfl, 1, b, rfl, pb.kn, _, rfl, ?_⟩
    cases hw : wfrom 1 b with
    | false =>
      have e : rowOk H n ts lim.length given (.ref va) = false := by
        unfold rowOk
        rw [er, hw]
        rfl
      rw [e] at q
      exact q _ (Kt.refl hT)
    | true =>
    refine ⟨wv, rfl, a, rfl, wv, n, ts, a, rfl, hW, ok, pa.thing, hT, fun H1 k1 => ⟨_, rfl, ?_⟩⟩
    cases ho : oddB H n ts a with
    | false =>
      have e : rowOk H n ts lim.length given (.ref va) = false := by
        unfold rowOk
        rw [er, hw, ho]
        rfl
      rw [e] at q
      exact q _ k1
    | true =>
    obtain ⟨ra, ta, p, en, rfl, hra, hta, et, hen, nen, len⟩ := odd_ties ho
    have eR : rowOk H n ts lim.length given (.ref va) = en.all fun e => decide (e ∈ given) || decide ((lim.length : Int) ≤ e) := by
      unfold rowOk
      rw [er, hw, ho, et]
      rfl
    rw [eR] at q
    have T1 : Tabs Ps H1 := k1.tab
    have fts := ok.few
    refine ⟨.ref ra, rfl, ra, _, 1, .ref ta, rfl, rfl, SqT.of (k1.tup hT hra), rfl, ta, rfl, ⟨_, SqT.of (k1.tup hT hta)⟩, ?_⟩
    refine ⟨T1 Pt hPt, fun j m H' => j + m = en.length ∧ Kt Ps H H' ∧ (en.take j).all (fun e => decide (e ∈ given) || decide ((lim.length : Int) ≤ e)) = true, fun H2 hH2 => ⟨en.length, by omega, k1.trans (Kt.tabbed T1 hPt hH2), rfl⟩, fun j m H' hw => ?_⟩
    obtain ⟨em, kt, hal⟩ := hw
    have hta' := kt.tup hT hta
    by_cases hj : j < en.length
    · refine .inr ⟨⟨_, _, SqT.of hta', List.getElem?_eq_getElem (by rw [List.length_map]; exact hj)⟩, fun H3 => Kt Ps H H3 ∧ (en.take (j + 1)).all (fun e => decide (e ∈ given) || decide ((lim.length : Int) ≤ e)) = true, fun H3 n3 => ⟨m - 1, by omega, by omega, n3.1, n3.2⟩, fun x H3 hy => ?_⟩
      obtain ⟨rfl, fy⟩ := hy
      have ex := fy _ (SqT.of hta')
      rw [List.getElem?_map, List.getElem?_eq_getElem hj] at ex
      cases ex
      have ee := List.getElem?_eq_getElem hj
      refine ⟨rfl, .int en[j], rfl, .ref gv, rfl, gv, _, rfl, DGet.k (k := Sum.inl en[j]) (kt.dct hT hgiv), ?_⟩
      rw [kvG_some]
      cases hb : decide (en[j] ∈ given) with
      | true => exact ⟨_, rfl, _, rfl, kt, (take_all ee hal).trans (by rw [hb]; rfl)⟩
      | false =>
        refine ⟨_, rfl, .int en[j], rfl, .ref lv, rfl, lv, _, rfl, .inl (SqL.of (kt.lst hT hlim)), _, _, rfl, rfl, _, rfl, ?_⟩
        rw [List.length_map]
        cases hc : decide (en[j] ≥ (lim.length : Int)) with
        | true => exact ⟨kt, (take_all ee hal).trans (by rw [hb]; exact hc)⟩
        | false =>
          have no : (en.all fun e => decide (e ∈ given) || decide ((lim.length : Int) ≤ e)) = false := all_not ee (by rw [hb]; exact hc)
          rw [no] at q
          exact q _ kt
    · refine .inl ⟨⟨_, SqT.of hta', by rw [List.length_map]; omega⟩, ?_⟩
      rw [List.take_of_length_le (by omega)] at hal
      rw [hal] at q
      exact q _ kt
end
/-! ### papers: what rings show -/
def kvI (ks : List Int) (f : Int → Int) : List (Key × V) := ks.map fun k => (Sum.inl k, V.int (f k))
def addI (ks : List Int) (x : Int) : List Int := if x ∈ ks then ks else ks ++ [x]
theorem addI_mem {ks : List Int} {x y : Int} : y ∈ addI ks x ↔ y ∈ ks ∨ y = x := by
  unfold addI
  split
  · rename_i h
    exact ⟨.inl, fun z => z.elim id fun e => e ▸ h⟩
  · simp
theorem addI_nd {ks : List Int} {x : Int} (nd : ks.Nodup) : (addI ks x).Nodup := by
  unfold addI
  split
  · exact nd
  · rename_i h
    exact List.nodup_append.mpr ⟨nd, by simp, fun a ha b hb e => h (by rw [List.mem_singleton.mp hb] at e; exact e ▸ ha)⟩
theorem kvI_val {f : Int → Int} {x : Int} : ∀ {ks : List Int}, valV (kvI ks f) (Sum.inl x) = if x ∈ ks then some (.int (f x)) else none
  | [] => rfl
  | k :: ks => by
    show valV ((Sum.inl k, V.int (f k)) :: kvI ks f) (Sum.inl x) = _
    by_cases e : k = x
    · rw [valV_pos (p := ((Sum.inl k : Key), V.int (f k))) (show (Sum.inl k : Key) = Sum.inl x by rw [e]), e, if_pos List.mem_cons_self]
    · rw [valV_neg (p := ((Sum.inl k : Key), V.int (f k))) (show ¬ (Sum.inl k : Key) = Sum.inl x from fun z => e (Sum.inl.inj z)), kvI_val (ks := ks)]
      by_cases h : x ∈ ks
      · rw [if_pos h, if_pos (List.mem_cons_of_mem _ h)]
      · rw [if_neg h, if_neg fun z => h ((List.mem_cons.mp z).resolve_left fun q => e q.symm)]
theorem kvI_get {f : Int → Int} {ks : List Int} {x : Int} (h0 : x ∉ ks → f x = 0) : (valV (kvI ks f) (Sum.inl x)).getD (.int 0) = .int (f x) := by
  rw [kvI_val]
  by_cases h : x ∈ ks
  · rw [if_pos h]; rfl
  · rw [if_neg h, h0 h]; rfl
theorem kvI_put {f g : Int → Int} {ks : List Int} {x : Int} (hg : ∀ k, g k = if k = x then g x else f k) : putK (kvI ks f) (Sum.inl x) (.int (g x)) = kvI (addI ks x) g := by
  have same : ∀ k, k ≠ x → g k = f k := fun k hk => by rw [hg k, if_neg hk]
  unfold putK
  rw [valV_any, kvI_val]
  unfold addI
  by_cases h : x ∈ ks
  · rw [if_pos h, if_pos h]
    show List.map (fun kv : Key × V => if kv.1 = Sum.inl x then (kv.1, V.int (g x)) else kv) (kvI ks f) = _
    unfold kvI
    rw [List.map_map]
    refine List.map_congr_left fun k _ => ?_
    show (if (Sum.inl k : Key) = Sum.inl x then ((Sum.inl k : Key), V.int (g x)) else (Sum.inl k, V.int (f k))) = _
    by_cases e : k = x
    · rw [e, if_pos rfl]
    · rw [if_neg fun z => e (Sum.inl.inj z), same k e]
  · rw [if_neg h, if_neg h, if_neg (by simp)]
    unfold kvI
    rw [List.map_append]
    refine congr (congrArg _ (List.map_congr_left fun k hk => ?_)) rfl
    rw [same k fun z => h (z ▸ hk)]
theorem Kt.mutN {Ps : List Addr} {H H' : Hp} {a : Addr} {o : HO} (k : Kt Ps H H') (t : Tabs Ps H) (n : H a = none) : Kt Ps H (upd H' a o) := by
  have na : a ∉ Ps := fun z => by
    obtain ⟨ps, e, _⟩ := t a z
    rw [n] at e
    cases e
  refine ⟨fun P hP => ?_, fun b o' hb e => ?_⟩
  · obtain ⟨ps, e, t'⟩ := k.tab P hP
    exact ⟨ps, by rw [upd_ne (show P ≠ a from fun z => na (z ▸ hP))]; exact e, t'⟩
  · rw [upd_ne (fun z => by rw [z, n] at e; cases e)]
    exact k.keep b o' hb e
def optV : Option Int → V
  | none => .non
  | some k => .int k
theorem loadR_snoc (xs : List (List Int × Int)) (x : List Int × Int) (e : Int) : loadR (xs ++ [x]) e = loadR xs e + (if e ∈ x.1 then x.2 else 0) := by
  unfold loadR
  rw [List.map_append, List.sum_append]
  simp
theorem totR_snoc (xs : List (List Int × Int)) (x : List Int × Int) : totR (xs ++ [x]) = totR xs + x.2 := by
  unfold totR
  rw [List.map_append, List.sum_append]
  simp
def tiesR (xs : List (List Int × Int)) : List Int := xs.flatMap (·.1)
theorem tiesR_snoc (xs : List (List Int × Int)) (x : List Int × Int) : tiesR (xs ++ [x]) = tiesR xs ++ x.1 := by
  unfold tiesR
  rw [List.flatMap_append]
  simp
theorem loadR_out {xs : List (List Int × Int)} {e : Int} (h : e ∉ tiesR xs) : loadR xs e = 0 := by
  induction xs with
  | nil => rfl
  | cons x xs ih =>
    have h1 : e ∉ x.1 := fun z => h (by unfold tiesR; rw [List.flatMap_cons]; exact List.mem_append_left _ z)
    have h2 : e ∉ tiesR xs := fun z => h (by unfold tiesR; rw [List.flatMap_cons]; exact List.mem_append_right _ z)
    have := ih h2
    unfold loadR at this ⊢
    rw [List.map_cons, List.sum_cons, this, if_neg h1]
    rfl
theorem fitR_iff {lim : List Int} {xs : List (List Int × Int)} : fitR lim xs = (tiesR xs).all fun e => decide ((lim.length : Int) ≤ e) || decide (loadR xs e ≤ lim.getD e.toNat 0) := by
  unfold fitR tiesR
  rw [List.all_flatMap]
theorem givR_snoc (m : Nat) (given : List Int) (xs : List (List Int × Int)) (x : List Int × Int) : givR m given (xs ++ [x]) = (givR m given xs && x.1.all fun e => decide (e ∈ given) || decide ((m : Int) ≤ e)) := by
  unfold givR
  rw [List.all_append]
  simp
theorem all_false_of {α : Type} {xs : List α} {p : α → Bool} {x : α} (h : x ∈ xs) (hp : p x = false) : xs.all p = false := by
  rw [Bool.eq_false_iff]
  intro z
  rw [List.all_eq_true] at z
  rw [z x h] at hp
  cases hp
/-- the rows told so far -/
structure ToldR (H : Hp) (n : Int) (ts : List Tie) (lim given : List Int) (rows : List V) (i : Nat) (xs : List (List Int × Int)) : Prop where
  fold : (rows.take i).foldl (stepR H n ts) (some []) = some xs
  giv : givR lim.length given xs = true
  ties : ∀ e ∈ tiesR xs, 0 ≤ e ∧ e < (ts.length : Int)
theorem ringsS_off {H : Hp} {n : Int} {ts : List Tie} {lim given : List Int} {rows : List V} {i : Nat} {xs : List (List Int × Int)} {r : V} (T : ToldR H n ts lim given rows i xs) (e : rows[i]? = some r) (h : rowOk H n ts lim.length given r = false) : ringsS H n ts lim given rows = none := by
  unfold ringsS
  have ef := fold_at (f := stepR H n ts) (b := some []) e
  rw [T.fold] at ef
  have ef : (rows.take (i + 1)).foldl (stepR H n ts) (some []) = match rowR H n ts r with | none => none | some x => some (xs ++ [x]) := ef
  unfold rowOk at h
  cases hr : rowR H n ts r with
  | none =>
    rw [hr] at ef
    rw [fold_off (stepR_none H n ts) ef]
  | some x =>
    rw [hr] at ef h
    have ef : (rows.take (i + 1)).foldl (stepR H n ts) (some []) = some (xs ++ [x]) := ef
    have h : (x.1.all fun e => decide (e ∈ given) || decide ((lim.length : Int) ≤ e)) = false := h
    have e2 : rows = rows.take (i + 1) ++ rows.drop (i + 1) := (List.take_append_drop ..).symm
    rw [e2, List.foldl_append, ef]
    have more : ∀ (rs : List V) (ys : List (List Int × Int)), givR lim.length given ys = false → (match rs.foldl (stepR H n ts) (some ys) with | none => none | some xs => if givR lim.length given xs && fitR lim xs then some ((totR xs + 1) / 2) else none) = (none : Option Int) := fun rs => by
      induction rs with
      | nil =>
        intro ys hy
        show (if givR lim.length given ys && fitR lim ys then some ((totR ys + 1) / 2) else none) = none
        rw [hy]
        rfl
      | cons r rs ih =>
        intro ys hy
        rw [List.foldl_cons]
        have es : stepR H n ts (some ys) r = match rowR H n ts r with | none => none | some x => some (ys ++ [x]) := rfl
        rw [es]
        cases rowR H n ts r with
        | none => rw [fold_none (stepR_none H n ts)]
        | some z => exact ih (ys ++ [z]) (by rw [givR_snoc, hy]; rfl)
    exact more _ _ (by rw [givR_snoc, h, Bool.and_false])
theorem rowOk_is {H : Hp} {n : Int} {ts : List Tie} {m : Nat} {given : List Int} {v : V} (h : rowOk H n ts m given v = true) : ∃ (va ra ta : Addr) (p : V) (en : List Int) (t : Int), v = .ref va ∧ H va = some (.tup [.ref ra, .int t]) ∧ H ra = some (.tup [p, .ref ta]) ∧ H ta = some (.tup (en.map V.int)) ∧ rowR H n ts v = some (en, t) ∧ 1 ≤ t ∧ (∀ e ∈ en, 0 ≤ e ∧ e < (ts.length : Int)) ∧ en.Nodup ∧ en.length ≤ ts.length ∧ (en.all fun e => decide (e ∈ given) || decide ((m : Int) ≤ e)) = true := by
  unfold rowOk at h
  cases e : rowR H n ts v with
  | none => rw [e] at h; cases h
  | some x =>
    rw [e] at h
    cases ep : parts H v with
    | none => unfold rowR at e; rw [ep] at e; cases e
    | some xs =>
      obtain ⟨va, rfl, hva⟩ := parts_at ep
      cases h2 : lenIs H (.ref va) 2 with
      | false => rw [rowR_not h2] at e; cases e
      | true =>
        obtain ⟨ys, hy, ly⟩ := len_is h2
        rw [ep] at hy
        obtain rfl := Option.some.inj hy
        obtain ⟨a, b, rfl⟩ := two_of ly
        rw [rowR_two ep] at e
        cases hw : (wfrom 1 b && oddB H n ts a) with
        | false => rw [hw] at e; cases e
        | true =>
          rw [hw, if_pos rfl] at e
          obtain rfl := Option.some.inj e
          rw [Bool.and_eq_true] at hw
          obtain ⟨ra, ta, p, en, rfl, hra, hta, et, hen, nen, len⟩ := odd_ties hw.2
          cases b with
          | int t =>
            have h1 : 1 ≤ t := of_decide_eq_true hw.1
            exact ⟨va, ra, ta, p, en, t, rfl, hva, hra, hta, by rw [et]; rfl, h1, hen, nen, len, by rw [et] at h; exact h⟩
          | _ => exact absurd hw.1 Bool.false_ne_true
def spRingsShow (Ps : List Addr) : Sp := fun vs H Q _ => ∃ (wv : V) (lv gv rv : Addr) (n : Int) (ts : List Tie) (lim given : List Int) (rows : List V) (d : Nat), vs = [wv, .ref lv, .ref gv, .ref rv] ∧ KnotAt H wv lv gv n ts lim given ∧ H rv = some (.tup rows) ∧ (∀ r ∈ rows, PapV d H r) ∧ rows.length ≤ 2500 ∧ Tabs Ps H ∧ ∀ H', Kt Ps H H' → Q (optV (ringsS H n ts lim given rows)) H'
section
variable {P : Program} {w : World} {K : PySem.W.Frag} {mg : Str → Option Value} {base : Heap}
set_option maxHeartbeats 4000000 in
theorem ok_rings_show {f c Pt : Addr} {fd : FuncData} {Ps : List Addr} (F : FunC K "rings_show" "rings_show" s_rings_show f fd c) (TB : GxR.TabB base mg c Pt) (hPt : Pt ∈ Ps) (M : Free mg) (m_any : mg "any" = none) (D_is_ring_row : Df P w K mg base 9 "is_ring_row" ["web", "limits", "given", "thing"] (spRingRow Ps)) : FnOk P w K mg base CX0 11 f fd ["web", "limits", "given", "rows"] (spRingsShow Ps) := by
  obtain ⟨f_is_ring_row, fd_is_ring_row, G_is_ring_row, g_is_ring_row, k_is_ring_row, b_is_ring_row⟩ := D_is_ring_row
  refine F.ok sc_rings_show (fun vs H Q E h => ?_) (fun A outer s H vs Q E hr h => ?_)
  · obtain ⟨wv, lv, gv, rv, n, ts, lim, given, rows, d, rfl, _⟩ := h
    rfl
  · obtain ⟨wv, lv, gv, rv, n, ts, lim, given, rows, d, rfl, hK, hrv, hP, lr, hT, q⟩ := h
    have hu := room1 hr
    refine ⟨_, (pss_cons (ps_set (i := 4) sc_rings_show.nd rfl (.inl rfl) pe_int)
      (pss_cons (ps_set (i := 5) sc_rings_show.nd rfl (.inr rfl) pe_dnewK)
      (pss_cons (ps_for PassesOwn.never rfl (pi_tup (pv 3)) (pg_name (i := 6) sc_rings_show.nd rfl (.inl rfl))
        (pss_cons (ps_if (pt_not (pt_val (pe_call G_is_ring_row (hr.mono (by decide)) (by rfl) g_is_ring_row k_is_ring_row b_is_ring_row .nil pass0 (pa_cons (pv 0) (pa_cons (pv 1) (pa_cons (pv 2) (pa_cons (pv 6) pa_nil)))))))
          (pss_one (ps_ret pe_non))
          pss_nil)
        (pss_cons (ps_asg (pv 6) (pg_tup rfl (pgs_cons (pg_name (i := 7) sc_rings_show.nd rfl (.inl rfl)) (pgs_cons (pg_name (i := 8) sc_rings_show.nd rfl (.inl rfl)) pgs_nil))))
        (pss_cons (ps_aug (i := 4) sc_rings_show.nd rfl (.inl rfl) (pv 8) ip_add)
        (pss_one (ps_for PassesOwn.never rfl (pi_tup (pe_ix ix_tup (pv 7) pe_int (fun _ _ => rfl))) (pg_name (i := 9) sc_rings_show.nd rfl (.inl rfl))
          (pss_one (ps_dput hu (pv 5) (pv 9) (pe_op op_add (pe_dget2 hu (pv 5) (pv 9) pe_int ⟨rfl, rfl, rfl, rfl⟩) (pv 8)) rfl))))))))
      (pss_cons (ps_if (pt_val (pe_lock (pe_any (k := 9) (own := [("tie", 9)]) (g := gName 9) hr TB rfl rfl sc_rings_show.nd (by rfl) m_any (pi_keys (pv 5)) (blkOk_by (N := N_rings_show) (sc := defScope s_rings_show) (own := [("tie", 9)]) (by decide +kernel)) ⟨rfl, by decide +kernel, by decide +kernel⟩ (show (".0" : Str) ∉ N_rings_show by decide +kernel) (fun _ _ _ _ _ _ _ => (pg_name (i := 9) sc_rings_show.nd rfl (.inl rfl))) (fun _ _ _ _ _ _ _ hr' => (pe_and (pe_cmpR op_lt (pv 9) (pe_callB (r := rLen49 K) call_len_seq (by rfl) M.len PySem.boot_len (pa_cons (pv 1) pa_nil)) (nomark _)) (pe_one (pe_cmpR op_gt (pe_dget (room1 hr') (pv 5) (pv 9) (fun _ _ => rfl)) (pe_ix (r := rIxL K) ix_list (pv 1) (pv 9) (fun _ _ => rfl)) (nomark _))))))))
        (pss_one (ps_ret pe_non))
        pss_nil)
      (pss_one (ps_ret (pe_op op_fdiv (pe_op op_add (pv 4) pe_int) pe_int))))))), ?_⟩
    have fts := hK.ok.few
    refine fun D nD => ?_
    have sD := same_new (o := .dK []) nD
    have kD := Kt.same hT sD
    have hD1 : (upd H D (.dK [])) D = some (.dK (kvI [] (loadR []))) := upd_same
    generalize upd H D (.dK []) = H1 at sD kD hD1
    have hrv1 := kD.tup hT hrv
    refine ⟨.ref rv, rfl, rv, rfl, ⟨_, SqT.of hrv1⟩, ?_⟩
    refine for_tup (xs := rows) (fun i σ' H' => ∃ (y6 y7 y8 y9 : Option V) (xs : List (List Int × Int)) (ks : List Int), σ' = [some wv, some (.ref lv), some (.ref gv), some (.ref rv), some (.int (totR xs)), some (.ref D), y6, y7, y8, y9] ∧ ToldR H n ts lim given rows i xs ∧ H' D = some (.dK (kvI ks (loadR xs))) ∧ ks.Nodup ∧ (∀ e, e ∈ ks ↔ e ∈ tiesR xs) ∧ Kt Ps H H') ⟨none, none, none, none, [], [], rfl, ⟨rfl, rfl, fun e he => (by cases he)⟩, hD1, List.nodup_nil, fun e => Iff.rfl, kD⟩ (fun i σ' H' _ h => by
      obtain ⟨_, _, _, _, _, _, _, _, _, _, _, k⟩ := h
      exact SqT.of (k.tup hT hrv)) ?_ ?_
    · clear hD1 kD sD hrv1
      rintro i r σ' H2 er ⟨y6, y7, y8, y9, xs, ks, rfl, T, hD, nk, mk, k2⟩
      have T2 : Tabs Ps H2 := k2.tab
      have pr := hP r (List.mem_of_getElem? er)
      refine ⟨wv, rfl, .ref lv, rfl, .ref gv, rfl, r, rfl, wv, lv, gv, r, n, ts, lim, given, d, rfl, hK.kt k2 hT, pr.stay (.kt k2 hT), T2, fun H3 k3 => ⟨_, rfl, ?_⟩⟩
      have eo : rowOk H2 n ts lim.length given r = rowOk H n ts lim.length given r := by
        unfold rowOk
        rw [rowR_stay pr (.kt k2 hT)]
      rw [eo]
      have k03 := k2.trans k3
      have hD3 := k3.dct T2 hD
      cases ho : rowOk H n ts lim.length given r with
      | false =>
        have := q _ k03
        rw [ringsS_off T er ho] at this
        exact this
      | true =>
      obtain ⟨va, ra, ta, p, en, t, rfl, hva, hra, hta, eR, t1, hen, nen, len, hg⟩ := rowOk_is ho
      have hva3 := k03.tup hT hva
      have hra3 := k03.tup hT hra
      have hta3 := k03.tup hT hta
      refine ⟨.ref va, rfl, va, _, rfl, SqT.of hva3, rfl, _, _, rfl, _, _, rfl, rfl, ?_⟩
      refine ⟨.int (totR xs), rfl, .int t, rfl, totR xs, t, rfl, rfl, ?_⟩
      refine ⟨.ref ra, rfl, ra, _, 1, .ref ta, rfl, rfl, SqT.of hra3, rfl, ta, rfl, ⟨_, SqT.of hta3⟩, ?_⟩
      have T' : ToldR H n ts lim given rows (i + 1) (xs ++ [(en, t)]) := by
        refine ⟨?_, by rw [givR_snoc, T.giv]; exact hg, fun e he => ?_⟩
        · rw [fold_at er, T.fold]
          show (match rowR H n ts (.ref va) with | none => none | some x => some (xs ++ [x])) = _
          rw [eR]
        · rw [tiesR_snoc] at he
          rcases List.mem_append.mp he with z | z
          · exact T.ties e z
          · exact hen e z
      refine for_tup (xs := en.map V.int) (fun j σ' H' => ∃ (y9 : Option V) (ks : List Int), σ' = [some wv, some (.ref lv), some (.ref gv), some (.ref rv), some (.int (totR xs + t)), some (.ref D), some (.ref va), some (.ref ra), some (.int t), y9] ∧ H' D = some (.dK (kvI ks (loadR (xs ++ [(en.take j, t)])))) ∧ ks.Nodup ∧ (∀ e, e ∈ ks ↔ e ∈ tiesR xs ∨ e ∈ en.take j) ∧ Kt Ps H H') ⟨_, ks, rfl, ?_, nk, fun e => by rw [mk e]; simp, k03⟩ (fun j σ' H' _ h => by
        obtain ⟨_, _, _, _, _, _, k⟩ := h
        exact SqT.of (k.tup hT hta)) ?_ ?_
      · have : (loadR (xs ++ [(en.take 0, t)])) = loadR xs := by
          funext e
          rw [loadR_snoc]
          simp
        rw [this]
        exact hD3
      · clear hD3 hva3 hra3 hta3 hD
        rintro j x σ' H4 ex ⟨y9, ks', rfl, hD, nk', mk', k4⟩
        rw [List.getElem?_map] at ex
        obtain ⟨e, ee, rfl⟩ := Option.map_eq_some_iff.mp ex
        have jl := (List.getElem?_eq_some_iff.mp ee).1
        have hemem := List.mem_of_getElem? ee
        have lk : ks'.length ≤ ts.length := pigeon49 ks' nk' fun z hz => by
          rcases (mk' z).mp hz with h | h
          · exact T.ties z h
          · exact hen z (List.mem_of_mem_take h)
        have enj : e ∉ en.take j := fun z => by
          obtain ⟨i', hi'⟩ := List.getElem?_of_mem z
          have il := (List.getElem?_eq_some_iff.mp hi').1
          rw [List.length_take] at il
          rw [List.getElem?_take_of_lt (by omega)] at hi'
          have h1 := (List.getElem?_eq_some_iff.mp hi')
          have h2 := (List.getElem?_eq_some_iff.mp ee)
          exact List.pairwise_iff_getElem.mp nen i' j h1.1 jl (by omega) (h1.2.trans h2.2.symm)
        have g1 : DGet H4 D (.int e) (valV (kvI ks' (loadR (xs ++ [(en.take j, t)]))) (Sum.inl e)) := DGet.k (k := Sum.inl e) hD
        refine ⟨.ref D, rfl, D, rfl, .inl ⟨_, .inl hD⟩, .int e, rfl, _, g1, ?_⟩
        rw [kvI_get fun z => by
          rw [loadR_snoc, loadR_out fun y => z ((mk' e).mpr (.inl y)), if_neg fun y => z ((mk' e).mpr (.inr y))]
          rfl]
        refine ⟨.int t, rfl, _, _, rfl, rfl, .ref D, rfl, .int e, rfl, D, _, rfl, DPut.k (k := Sum.inl e) hD (by unfold kvI; rw [List.length_map]; exact small2500 (by omega)), ?_⟩
        have et : en.take (j + 1) = en.take j ++ [e] := by rw [List.take_add_one, ee]; rfl
        have hg' : ∀ k, loadR (xs ++ [(en.take (j + 1), t)]) k = if k = e then loadR (xs ++ [(en.take (j + 1), t)]) e else loadR (xs ++ [(en.take j, t)]) k := fun k => by
          by_cases hk : k = e
          · rw [if_pos hk, hk]
          · rw [if_neg hk, loadR_snoc, loadR_snoc, et]
            simp [hk]
        have ev : loadR (xs ++ [(en.take j, t)]) e + t = loadR (xs ++ [(en.take (j + 1), t)]) e := by
          rw [loadR_snoc, loadR_snoc, et, if_neg enj, if_pos (by simp)]
          omega
        refine ⟨_, addI ks' e, rfl, ?_, addI_nd nk', fun z => ?_, k4.mutN hT nD⟩
        · rw [upd_same]
          show some (HO.dK (putK (kvI ks' (loadR (xs ++ [(en.take j, t)]))) (Sum.inl e) (.int (loadR (xs ++ [(en.take j, t)]) e + t)))) = _
          rw [ev, kvI_put hg']
        · rw [addI_mem, mk', et, List.mem_append, List.mem_singleton, or_assoc]
      · rintro σ' H4 ⟨y9, ks', rfl, hD, nk', mk', k4⟩
        rw [List.length_map, List.take_length] at hD
        refine ⟨_, _, _, _, xs ++ [(en, t)], ks', by rw [totR_snoc], T', hD, nk', fun e => ?_, k4⟩
        rw [mk', List.length_map, List.take_length, tiesR_snoc, List.mem_append]
    · rintro σ' H2 ⟨y6, y7, y8, y9, xs, ks, rfl, T, hD, nk, mk, k2⟩
      have T2 : Tabs Ps H2 := k2.tab
      have ef := T.fold
      rw [List.take_length] at ef
      have eS : ringsS H n ts lim given rows = if fitR lim xs then some ((totR xs + 1) / 2) else none := by
        unfold ringsS
        rw [ef]
        show (if givR lim.length given xs && fitR lim xs then _ else _) = _
        rw [T.giv]
        rfl
      rw [eS, fitR_iff] at q
      have hlim2 := k2.lst hT hK.lm
      have DP : ∀ P ∈ Ps, P ≠ D := fun P hP z => by
        obtain ⟨ps, e, _⟩ := T2 P hP
        rw [z, hD] at e
        cases e
      have lD : lv ≠ D := fun z => by rw [z, hD] at hlim2; cases hlim2
      refine ⟨D, _, hD, trivial, fun od => ?_⟩
      refine ⟨.ref D, rfl, D, od, rfl, .inl ⟨_, upd_same, ?_⟩⟩
      have hDf : (upd H2 D (.frz od (.dK (kvI ks (loadR xs))))) D = some (.frz od (.dK (kvI ks (loadR xs)))) := upd_same
      have hlimf : (upd H2 D (.frz od (.dK (kvI ks (loadR xs))))) lv = some (.lst (lim.map V.int)) := by rw [upd_ne lD]; exact hlim2
      have Tf : Tabs Ps (upd H2 D (.frz od (.dK (kvI ks (loadR xs))))) := fun P hP => by
        obtain ⟨ps, e, t⟩ := T2 P hP
        exact ⟨ps, by rw [upd_ne (DP P hP)]; exact e, t⟩
      have fin : ∀ H', Kt Ps (upd H2 D (.frz od (.dK (kvI ks (loadR xs))))) H' → Kt Ps H (upd H' D (.dK (kvI ks (loadR xs)))) := fun H' k => by
        refine ⟨fun P hP => ?_, fun b o hb e => ?_⟩
        · obtain ⟨ps, e, t⟩ := k.tab P hP
          exact ⟨ps, by rw [upd_ne (DP P hP)]; exact e, t⟩
        · have bD : b ≠ D := ne_of_none e nD
          rw [upd_ne bD]
          exact k.keep b o hb (by rw [upd_ne bD]; exact k2.keep b o hb e)
      have nDP : D ∉ Ps := fun z => DP D z rfl
      generalize upd H2 D (.frz od (.dK (kvI ks (loadR xs)))) = Hf at hDf hlimf Tf fin
      have lk : (kvI ks (loadR xs)).length = ks.length := by unfold kvI; rw [List.length_map]
      have okE : ∀ e ∈ ks, 0 ≤ e ∧ e < (ts.length : Int) := fun e he => T.ties e ((mk e).mp he)
      refine ⟨Tf Pt hPt, fun i m H' => i + m = ks.length ∧ Kt Ps Hf H' ∧ (ks.take i).all (fun e => decide ((lim.length : Int) ≤ e) || decide (loadR xs e ≤ lim.getD e.toNat 0)) = true, fun H3 hH3 => ⟨ks.length, by omega, Kt.tabbed Tf hPt hH3, rfl⟩, fun i m H' hw => ?_⟩
      obtain ⟨em, kt, hal⟩ := hw
      have hD' := kt.keep D _ nDP hDf
      have hlim' := kt.lst Tf hlimf
      by_cases hi : i < ks.length
      · refine .inr ⟨⟨hD', by rw [lk]; exact hi⟩, fun H3 => Kt Ps Hf H3 ∧ (ks.take (i + 1)).all (fun e => decide ((lim.length : Int) ≤ e) || decide (loadR xs e ≤ lim.getD e.toNat 0)) = true, fun H3 n3 => ⟨m - 1, by omega, by omega, n3.1, n3.2⟩, fun x H3 hy => ?_⟩
        obtain ⟨rfl, k, v, ek, rfl⟩ := hy
        obtain ⟨e, ee, ev⟩ : ∃ e, ks[i]? = some e ∧ ((Sum.inl e : Key), V.int (loadR xs e)) = (k, v) := by
          unfold kvI at ek
          rw [List.getElem?_map] at ek
          exact Option.map_eq_some_iff.mp ek
        cases ev
        have hmem := List.mem_of_getElem? ee
        have b0 := okE e hmem
        refine ⟨rfl, .int e, rfl, .ref lv, rfl, lv, _, rfl, .inl (SqL.of hlim'), _, _, rfl, rfl, _, rfl, ?_⟩
        rw [List.length_map]
        cases hc : decide (e < (lim.length : Int)) with
        | false =>
          have hc := of_decide_eq_false hc
          exact ⟨_, rfl, kt, (take_all ee hal).trans (by rw [decide_eq_true (show (lim.length : Int) ≤ e by omega)]; rfl)⟩
        | true =>
          have hc := of_decide_eq_true hc
          obtain ⟨w, ew⟩ : ∃ w, lim[e.toNat]? = some w := ⟨_, List.getElem?_eq_getElem (by omega)⟩
          have gw : lim.getD e.toNat 0 = w := by rw [List.getD_eq_getElem?_getD, ew]; rfl
          refine ⟨.ref D, rfl, .int e, rfl, D, .int (loadR xs e), rfl, .inl ⟨_, Sum.inl e, .inr ⟨od, hD'⟩, rfl, (by rw [kvI_val, if_pos hmem])⟩, .ref lv, rfl, .int e, rfl, lv, _, e, .int w, rfl, rfl, SqL.of hlim', atI_of b0.1 (by rw [List.getElem?_map, ew]; rfl), _, _, rfl, rfl, _, rfl, ?_⟩
          cases hl : decide (loadR xs e > w) with
          | false =>
            have hl := of_decide_eq_false hl
            exact ⟨kt, (take_all ee hal).trans (by rw [gw, decide_eq_true (show loadR xs e ≤ w by omega), Bool.or_true])⟩
          | true =>
            have hl := of_decide_eq_true hl
            have ef : ((tiesR xs).all fun e => decide ((lim.length : Int) ≤ e) || decide (loadR xs e ≤ lim.getD e.toNat 0)) = false := all_false_of ((mk e).mp hmem) (by rw [gw, decide_eq_false (show ¬ (lim.length : Int) ≤ e by omega), decide_eq_false (show ¬ loadR xs e ≤ w by omega)]; rfl)
            rw [ef] at q
            exact ⟨hD', _, rfl, q _ (fin _ kt)⟩
      · refine .inl ⟨⟨hD', by rw [lk]; omega⟩, hD', _, rfl, ?_⟩
        rw [List.take_of_length_le (by omega)] at hal
        have ef : ((tiesR xs).all fun e => decide ((lim.length : Int) ≤ e) || decide (loadR xs e ≤ lim.getD e.toNat 0)) = true := by
          rw [List.all_eq_true] at hal ⊢
          exact fun e he => hal e ((mk e).mpr he)
        rw [ef] at q
        exact ⟨.int (totR xs), rfl, _, 1, rfl, rfl, _, 2, rfl, rfl, ⟨by decide, by decide⟩, q _ (fin _ kt)⟩
end
/-! ### d.update(e) -/
def rUpdate : V → List V → Hp → VK → Prop := fun x vs H Q => ∃ (a b : Addr) (kvs more : List (Key × V)), x = .ref a ∧ vs = [.ref b] ∧ H a = some (.dK kvs) ∧ H b = some (.dK more) ∧ a ≠ b ∧ kvs.length + more.length ≤ sizeLine ∧ Q .non (upd H a (.dK (mergeK kvs more)))
theorem mt_update {X : Cx} : MtR X "dict.update" rUpdate := by
  intro pins s σ H x vs v us Q I rx rv h
  obtain ⟨a, b, kvs, more, ex, ev, e1, e2, ne, hl, q⟩ := h
  subst ex
  subst ev
  obtain rfl : v = Value.ref a := rx
  obtain ⟨u, eu, r1⟩ := vals1 rv
  subst eu
  obtain rfl : u = Value.ref b := r1
  obtain ⟨z1, hd1, vs1, rel1, dd1⟩ := dk_of I.hok e1
  obtain ⟨z2, hd2, vs2, rel2, dd2⟩ := dk_of I.hok e2
  refine call_meetsIn PySem.F.slot_dict_update dd1.typeIs PySem.F.entry_dict_update (PySem.F.args_dict_update_2 _ _) (meets_dict_update (mixKind X.prog X.w) a b ne hd2) ⟨vs1, vs2, dd1, dd2, by rw [← rel1.length, ← rel2.length]; exact hl, fun h' dd' _ hs => ⟨.non, _, ?_, rfl, q⟩⟩
  have he : ∃ q, h'.get? a = some q := let ⟨q, _, _, hq, _⟩ := dd'; ⟨q, hq⟩
  exact d_write (t' := s.toks) I (by rw [e1]; exact True.intro) hs he (dk_new (Nat.le_trans (length_mergeK more kvs) hl) hd1 (rel2.merge rel1) dd')
/-! ### a dict made by a comprehension, put into a name -/
section
variable {X : Cx}
theorem ps_setDc {i : Nat} {y : Str} {py : Pos} {kx vx tg iter : Expr} {ifs : List Expr} {scope : Scope} {own : List (Str × Nat)} {pos spos : Pos} {wi : TI} {g : TG} {tt : TT} {tk tv : TE} (hc : X.calm = true) (hN : X.N.Nodup) (hy : X.N[i]? = some y) (hyl : X.env.scope.names.lookup y = some .local)
    (hsw : swapsWith (.DictComp kx vx [⟨tg, iter, ifs, 0⟩] scope pos) (some (.Name y py)) spos.line X.env = pure true) (hi : PI X tg iter wi) (ok : BlkOk X.N X.env.scope scope own)
    (hg : ∀ (s : Shared) (H : Hp) (C : Addr) (cl : List (Str × Addr)) (fp : List Addr), PG (X.blk s H scope (compEnvC scope cl C X.env) fp) tg g) (ht : ∀ (s : Shared) (H : Hp) (C : Addr) (cl : List (Str × Addr)) (fp : List Addr), PTs (X.blk s H scope (compEnvC scope cl C X.env) fp) ifs tt)
    (hk : ∀ (s : Shared) (H : Hp) (C : Addr) (cl : List (Str × Addr)) (fp : List Addr), PE (X.blk s H scope (compEnvC scope cl C X.env) fp) kx tk)
    (he : ∀ (s : Shared) (H : Hp) (C : Addr) (cl : List (Str × Addr)) (fp : List Addr), PE (X.blk s H scope (compEnvC scope cl C X.env) fp) vx tv) (hs : ∀ x, foldedSetIterable iter X.env x = pure x := by intro _; rfl) :
    PS X (.Assign [.Name y py] (.DictComp kx vx [⟨tg, iter, ifs, 0⟩] scope pos) spos) (tAsg (tDc wi g tt tk tv (own.map (·.2))) (gName i)) := by
  refine ⟨fun pins s σ H D I h => ?_⟩
  rw [exec_Assign_Name_used _ _ _ _ hsw]
  refine wpAny_bind (wpAny_standAt (wpAny_bind ?_))
  show wpAny _ X.A (do let _ ← comprehension (.DictComp kx vx [⟨tg, iter, ifs, 0⟩] scope pos) scope X.env (firstIterPos [⟨tg, iter, ifs, 0⟩] pos) newDict false (eval iter X.env) (some (assign (.Name y py) X.env))) _ _ s
  have h : tDc wi g tt tk tv (own.map (·.2)) σ H (fun x H1 => gName i x σ H1 D.nx) := h
  refine wpAny_bind (thn (dc_core (Qf := fun _ s' => SP X pins D .next s') hc hN I hi ok hg ht hk he hs h fun L C s' m H' I' q hn f => ?_) fun _ s' hq => wpAny_pure (wpAny_pure hq))
  show wpAny _ _ (assign (.Name y py) X.env (.ref L)) _ _ _
  refine wpAny_assign_Name (store_ok2 (v := V.ref L) I' hN hy (.inl hyl) rfl (fun s2 I2 ⟨a, sb, ha⟩ => ?_) (.inr hyl))
  obtain ⟨f0, f1, f2, f3, f4, f5⟩ := f
  have haC : C ≠ a := by
    rcases ha with z | z
    · rw [z]; exact f1
    · exact fun e => f4 y a z e.symm
  refine ⟨m, hn.sameBut sb haC, fun h3 sb3 => ?_⟩
  exact ⟨_, H', I2.turned (t' := s2.toks) (fun b o hb e => (sb3.2 b hb).trans e) f0 f1 f3 f4 f5, q⟩
theorem sw_trueD {kx vx : Expr} {gs : List Comprehension} {scope : Scope} {pos py : Pos} {y : Str} {l : Nat} {env : Env} (hk : env.scope.kind = .function) (hy : env.scope.names.lookup y = some .local) (hl : (py.line == pos.line) = true)
    (ha : (scope.names.any fun (n, k) => n == y && (k == .local || k == .cell)) = false) : swapsWith (.DictComp kx vx gs scope pos) (some (.Name y py)) l env = pure true := by
  have ky : env.kindOf y = some .local := hy
  have hb : env.blockKind = .function := by unfold Env.blockKind; rw [hk]; rfl
  unfold swapsWith
  simp only [hb, ky, ha, Expr.pos, hl]
  rfl
end
/-! ### papers: splits, cases, knots -/
theorem chain_ints49 : ∀ {ns : List Int}, chainB (ns.map V.int) = true → ns.Pairwise (· < ·)
  | [], _ => .nil
  | [_], _ => List.pairwise_singleton ..
  | a :: b :: ns, h => by
    have h : (decide (a < b) && chainB ((b :: ns).map V.int)) = true := h
    rw [Bool.and_eq_true, decide_eq_true_iff] at h
    have t := chain_ints49 h.2
    refine .cons (fun x hx => ?_) t
    rcases List.mem_cons.mp hx with z | z
    · rw [z]
      exact h.1
    · have := (List.pairwise_cons.mp t).1 x z
      have := h.1
      omega
theorem rise_is {H : Hp} {m : Nat} {t : V} (h : riseB H m t = true) : ∃ (ta : Addr) (es : List Int), t = .ref ta ∧ H ta = some (.tup (es.map V.int)) ∧ (∀ e ∈ es, 0 ≤ e ∧ e < (m : Int)) ∧ es.Pairwise (· < ·) ∧ ((parts H t).getD []).map toI = es := by
  unfold riseB at h
  cases e : parts H t with
  | none => rw [e] at h; cases h
  | some xs =>
    rw [e] at h
    have h : (xs.all (wbelow m) && chainB xs) = true := h
    rw [Bool.and_eq_true] at h
    obtain ⟨ta, rfl, hta⟩ := parts_at e
    obtain ⟨es, rfl, hes⟩ := ints_of h.1
    exact ⟨ta, es, rfl, hta, hes, chain_ints49 h.2, toI_map es⟩
def splitOk (H : Hp) (m : Nat) (given taken : List Int) (r : V) : Bool := match rowT H m r with
  | some x => x.1.all fun e => decide (e ∈ given) && !decide (e ∈ taken)
  | none => false
theorem rowT_not {H : Hp} {m : Nat} {v : V} (h : lenIs H v 2 = false) : rowT H m v = none := by
  unfold rowT
  cases e : parts H v with
  | none => rfl
  | some xs =>
    have := two_not h e
    match xs, this with
    | [], _ => rfl
    | [_], _ => rfl
    | [a, b], t => exact (t a b rfl).elim
    | _ :: _ :: _ :: _, _ => rfl
theorem rowT_two {H : Hp} {m : Nat} {v a b : V} (h : parts H v = some [a, b]) : rowT H m v = if riseB H m a = true then some (((parts H a).getD []).map toI, b) else none := by
  unfold rowT
  rw [h]
theorem rowT_pap1 {d : Nat} {H : Hp} {m : Nat} {r : V} {es : List Int} {p : V} (h : PapV (d + 1) H r) (e : rowT H m r = some (es, p)) : PapV d H p := by
  obtain ⟨t, h1, _, _⟩ := rowT_is e
  exact (h.2 _ h1).1 p (by simp)
theorem kvG_put {ks : List Int} {x : Int} (h : x ∉ ks) : putK (kvG ks) (Sum.inl x) (.bl true) = kvG (ks ++ [x]) := by
  unfold putK
  rw [valV_any, kvG_val, if_neg h, if_neg (by simp)]
  unfold kvG
  rw [List.map_append]
  rfl
theorem kvG_merge : ∀ {es ks : List Int}, es.Nodup → (∀ e ∈ es, e ∉ ks) → mergeK (kvG ks) (kvG es) = kvG (ks ++ es)
  | [], ks, _, _ => by rw [List.append_nil]; rfl
  | e :: es, ks, nd, no => by
    have nd' := List.nodup_cons.mp nd
    show mergeK (putK (kvG ks) (Sum.inl e) (.bl true)) (kvG es) = _
    rw [kvG_put (no e List.mem_cons_self), kvG_merge nd'.2 fun x hx z => ?_, List.append_assoc]
    · rfl
    · rcases List.mem_append.mp z with z | z
      · exact no x (List.mem_cons_of_mem _ hx) z
      · rw [List.mem_singleton.mp z] at hx
        exact nd'.1 hx
def spSplitRow (Ps : List Addr) : Sp := fun vs H Q _ => ∃ (lv gv tv : Addr) (v : V) (lim given taken : List Int) (d : Nat), vs = [.ref lv, .ref gv, .ref tv, v] ∧ H lv = some (.lst (lim.map V.int)) ∧ H gv = some (.dK (kvG given)) ∧ H tv = some (.dK (kvG taken)) ∧ PapV d H v ∧ Tabs Ps H ∧ ∀ H', Kt Ps H H' → Q (.bl (splitOk H lim.length given taken v)) H'
section
variable {P : Program} {w : World} {K : PySem.W.Frag} {mg : Str → Option Value} {base : Heap}
set_option maxHeartbeats 2000000 in
theorem ok_is_split_row {f c Pt : Addr} {fd : FuncData} {Ps : List Addr} (F : FunC K "is_split_row" "is_split_row" s_is_split_row f fd c) (TB : GxR.TabB base mg c Pt) (hPt : Pt ∈ Ps) (M : Free mg) (m_all : mg "all" = none) (D_are_rising_below : Df P w K mg base 4 "are_rising_below" ["limit", "thing"] (spRising Ps)) (D_is_tuple_of : Df P w K mg base 1 "is_tuple_of" ["length", "thing"] spTupleOf) : FnOk P w K mg base CX0 6 f fd ["limits", "given", "taken", "thing"] (spSplitRow Ps) := by
  obtain ⟨f_are_rising_below, fd_are_rising_below, G_are_rising_below, g_are_rising_below, k_are_rising_below, b_are_rising_below⟩ := D_are_rising_below
  obtain ⟨f_is_tuple_of, fd_is_tuple_of, G_is_tuple_of, g_is_tuple_of, k_is_tuple_of, b_is_tuple_of⟩ := D_is_tuple_of
  refine F.ok sc_is_split_row (fun vs H Q E h => ?_) (fun A outer s H vs Q E hr h => ?_)
  · obtain ⟨lv, gv, tv, v, lim, given, taken, d, rfl, _⟩ := h
    rfl
  · obtain ⟨lv, gv, tv, v, lim, given, taken, d, rfl, hlim, hgiv, htk, hP, hT, q⟩ := h
    have hu := room1 hr
    refine ⟨_, (pss_cons (ps_if (PW.pt (pw_or (pt_not (pt_val (pe_call G_is_tuple_of (hr.mono (by decide)) (by rfl) g_is_tuple_of k_is_tuple_of b_is_tuple_of .nil pass0 (pa_cons pe_int (pa_cons (pv 3) pa_nil))))) (pw_or1 (pt_not (pt_val (pe_call G_are_rising_below (hr.mono (by decide)) (by rfl) g_are_rising_below k_are_rising_below b_are_rising_below .nil pass0 (pa_cons (pe_callB call_len_seq (by rfl) M.len PySem.boot_len (pa_cons (pv 0) pa_nil)) (pa_cons (pe_ix ix_tup (pv 3) pe_int (fun _ _ => rfl)) pa_nil))))))))
        (pss_one (ps_ret pe_bl))
        pss_nil)
      (pss_one (ps_ret (pe_all (k := 4) (own := [("tie", 4)]) (g := gName 4) hr TB rfl rfl sc_is_split_row.nd (by rfl) m_all (pi_tup (pe_ix ix_tup (pv 3) pe_int (fun _ _ => rfl))) (blkOk_by (N := N_is_split_row) (sc := defScope s_is_split_row) (own := [("tie", 4)]) (by decide +kernel)) ⟨rfl, by decide +kernel, by decide +kernel⟩ (show (".0" : Str) ∉ N_is_split_row by decide +kernel) (fun _ _ _ _ _ _ _ => (pg_name (i := 4) sc_is_split_row.nd rfl (.inl rfl))) (fun _ _ _ _ _ _ _ hr' => (pe_and (pe_cmp (pc_din (room1 hr') (pv 4) (pv 1))) (pe_one (pe_cmp (pc_dnotin (room1 hr') (pv 4) (pv 2)))))))))), ?_⟩
    have kv := hP.kn
    refine ⟨v, rfl, 2, v, rfl, kv, _, rfl, ?_⟩
    cases h2 : lenIs H v 2 with
    | false =>
      have e : splitOk H lim.length given taken v = false := by
        unfold splitOk
        rw [rowT_not h2]
      rw [e] at q
      exact q _ (Kt.refl hT)
    | true =>
    obtain ⟨xs, hx, lx⟩ := len_is h2
    obtain ⟨a, b, rfl⟩ := two_of lx
    obtain ⟨va, rfl, hva⟩ := parts_at hx
    have pa := (hP.up.2 _ hx).1 a (by simp)
    have er := rowT_two (m := lim.length) hx
    refine ⟨.ref lv, rfl, lv, _, rfl, .inl (SqL.of hlim), .ref va, rfl, va, _, 0, a, rfl, rfl, SqT.of hva, rfl, lim.length, a, ?_, pa.row, hT, fun H1 k1 => ⟨_, rfl, ?_⟩⟩
    · rw [List.length_map]
      rfl
    cases ho : riseB H lim.length a with
    | false =>
      have e : splitOk H lim.length given taken (.ref va) = false := by
        unfold splitOk
        rw [er, if_neg (by rw [ho]; exact Bool.false_ne_true)]
      rw [e] at q
      exact q _ k1
    | true =>
    obtain ⟨ta, es, rfl, hta, hes, hpw, et⟩ := rise_is ho
    have T1 : Tabs Ps H1 := k1.tab
    have eR : splitOk H lim.length given taken (.ref va) = es.all fun e => decide (e ∈ given) && !decide (e ∈ taken) := by
      unfold splitOk
      rw [er, if_pos ho, et]
    rw [eR] at q
    refine ⟨.ref va, rfl, va, _, 0, .ref ta, rfl, rfl, SqT.of (k1.tup hT hva), rfl, ta, rfl, ⟨_, SqT.of (k1.tup hT hta)⟩, ?_⟩
    refine ⟨T1 Pt hPt, fun j m H' => j + m = es.length ∧ Kt Ps H H' ∧ (es.take j).all (fun e => decide (e ∈ given) && !decide (e ∈ taken)) = true, fun H2 hH2 => ⟨es.length, by omega, k1.trans (Kt.tabbed T1 hPt hH2), rfl⟩, fun j m H' hw => ?_⟩
    obtain ⟨em, kt, hal⟩ := hw
    have hta' := kt.tup hT hta
    by_cases hj : j < es.length
    · refine .inr ⟨⟨_, _, SqT.of hta', List.getElem?_eq_getElem (by rw [List.length_map]; exact hj)⟩, fun H3 => Kt Ps H H3 ∧ (es.take (j + 1)).all (fun e => decide (e ∈ given) && !decide (e ∈ taken)) = true, fun H3 n3 => ⟨m - 1, by omega, by omega, n3.1, n3.2⟩, fun x H3 hy => ?_⟩
      obtain ⟨rfl, fy⟩ := hy
      have ex := fy _ (SqT.of hta')
      rw [List.getElem?_map, List.getElem?_eq_getElem hj] at ex
      cases ex
      have ee := List.getElem?_eq_getElem hj
      refine ⟨rfl, .int es[j], rfl, .ref gv, rfl, gv, _, rfl, DGet.k (k := Sum.inl es[j]) (kt.dct hT hgiv), ?_⟩
      rw [kvG_some]
      cases hb : decide (es[j] ∈ given) with
      | false =>
        have no : (es.all fun e => decide (e ∈ given) && !decide (e ∈ taken)) = false := all_not ee (by rw [hb]; rfl)
        rw [no] at q
        exact ⟨_, rfl, _, rfl, q _ kt⟩
      | true =>
        refine ⟨_, rfl, .int es[j], rfl, .ref tv, rfl, tv, _, rfl, DGet.k (k := Sum.inl es[j]) (kt.dct hT htk), _, rfl, ?_⟩
        rw [kvG_some]
        cases hc : decide (es[j] ∈ taken) with
        | false => exact ⟨kt, (take_all ee hal).trans (by rw [hb, hc]; rfl)⟩
        | true =>
          have no : (es.all fun e => decide (e ∈ given) && !decide (e ∈ taken)) = false := all_not ee (by rw [hc, Bool.not_true, Bool.and_false])
          rw [no] at q
          exact q _ kt
    · refine .inl ⟨⟨_, SqT.of hta', by rw [List.length_map]; omega⟩, ?_⟩
      rw [List.take_of_length_le (by omega)] at hal
      rw [hal] at q
      exact q _ kt
end
def spKnot (Ps : List Addr) : Nat → Sp
  | 0 => fun _ _ _ _ => False
  | d + 1 => fun vs H Q _ => ∃ (wv : V) (lv gv : Addr) (v : V) (n : Int) (ts : List Tie) (lim given : List Int), vs = [wv, .ref lv, .ref gv, v] ∧ KnotAt H wv lv gv n ts lim given ∧ ts.length + d ≤ 200 ∧ PapV d H v ∧ Tabs Ps H ∧ ∀ H', Kt Ps H H' → Q (optV (shownS (d + 1) H n ts lim given v)) H'
def spSplitShows (Ps : List Addr) (d : Nat) : Sp := fun vs H Q _ => ∃ (wv : V) (lv gv rv : Addr) (n : Int) (ts : List Tie) (lim given : List Int) (rows : List V), vs = [wv, .ref lv, .ref gv, .ref rv] ∧ KnotAt H wv lv gv n ts lim given ∧ ts.length + d ≤ 200 ∧ H rv = some (.tup rows) ∧ (∀ r ∈ rows, PapV d H r) ∧ Tabs Ps H ∧ ∀ H', Kt Ps H H' → Q (optV (splitS H lim.length given (fun es p => shownS d H n ts lim es p) rows)) H'
theorem stepT_some {H : Hp} {m : Nat} {given : List Int} {S : List Int → V → Option Int} {tk : List Int} {tot : Int} {r : V} : stepT H m given S (some (tk, tot)) r = match rowT H m r with | none => none | some (es, p) => if es.all (fun e => decide (e ∈ given) && !decide (e ∈ tk)) then (match S es p with | none => none | some k => some (tk ++ es, tot + k)) else none := rfl
theorem splitS_off {H : Hp} {m : Nat} {given : List Int} {S : List Int → V → Option Int} {rows : List V} {i : Nat} {x : Option (List Int × Int)} {r : V} (hf : (rows.take i).foldl (stepT H m given S) (some ([], 0)) = x) (e : rows[i]? = some r) (h : stepT H m given S x r = none) : splitS H m given S rows = none := by
  unfold splitS
  have ef := fold_at (f := stepT H m given S) (b := some ([], 0)) e
  rw [hf, h] at ef
  rw [fold_off (stepT_none H m given S) ef]
  rfl
theorem splitOk_is {H : Hp} {m : Nat} {given taken : List Int} {r : V} (h : splitOk H m given taken r = true) : ∃ (va ta : Addr) (p : V) (es : List Int), r = .ref va ∧ H va = some (.tup [.ref ta, p]) ∧ H ta = some (.tup (es.map V.int)) ∧ rowT H m r = some (es, p) ∧ (∀ e ∈ es, 0 ≤ e ∧ e < (m : Int)) ∧ es.Nodup ∧ (es.all fun e => decide (e ∈ given) && !decide (e ∈ taken)) = true := by
  unfold splitOk at h
  cases e : rowT H m r with
  | none => rw [e] at h; cases h
  | some x =>
    obtain ⟨es, p⟩ := x
    rw [e] at h
    obtain ⟨t, h1, h2, h3⟩ := rowT_is e
    obtain ⟨va, rfl, hva⟩ := parts_at h1
    obtain ⟨ta, es', rfl, hta, hes, hpw, et⟩ := rise_is h2
    rw [et] at h3
    subst h3
    exact ⟨va, ta, p, es, rfl, hva, hta, rfl, hes, hpw.imp fun {a b} z => by omega, h⟩
section
variable {P : Program} {w : World} {K : PySem.W.Frag} {mg : Str → Option Value} {base : Heap}
set_option maxHeartbeats 4000000 in
theorem ok_split_shows {f : Addr} {fd : FuncData} {Ps : List Addr} (d : Nat) (F : Fun K "split_shows" "split_shows" s_split_shows f fd) (D_is_split_row : Df P w K mg base 6 "is_split_row" ["limits", "given", "taken", "thing"] (spSplitRow Ps)) (D_knot_shows : Df P w K mg base (20 + 2 * d) "knot_shows" ["web", "limits", "given", "thing"] (spKnot Ps d)) : FnOk P w K mg base CX0 (20 + 2 * d + 1) f fd ["web", "limits", "given", "rows"] (spSplitShows Ps d) := by
  obtain ⟨f_is_split_row, fd_is_split_row, G_is_split_row, g_is_split_row, k_is_split_row, b_is_split_row⟩ := D_is_split_row
  obtain ⟨f_knot_shows, fd_knot_shows, G_knot_shows, g_knot_shows, k_knot_shows, b_knot_shows⟩ := D_knot_shows
  refine F.ok sc_split_shows (fun vs H Q E h => ?_) (fun cdv A outer s H vs Q E hr h => ?_)
  · obtain ⟨wv, lv, gv, rv, n, ts, lim, given, rows, rfl, _⟩ := h
    rfl
  · obtain ⟨wv, lv, gv, rv, n, ts, lim, given, rows, rfl, hK, l120, hrv, hP, hT, q⟩ := h
    refine ⟨_, (pss_cons (ps_set (i := 4) sc_split_shows.nd rfl (.inl rfl) pe_int)
      (pss_cons (ps_set (i := 5) sc_split_shows.nd rfl (.inl rfl) pe_dnewK)
      (pss_cons (ps_for PassesOwn.never rfl (pi_tup (pv 3)) (pg_name (i := 6) sc_split_shows.nd rfl (.inl rfl))
        (pss_cons (ps_if (pt_not (pt_val (pe_call G_is_split_row (hr.mono (by omega)) (by rfl) g_is_split_row k_is_split_row b_is_split_row .nil pass0 (pa_cons (pv 1) (pa_cons (pv 2) (pa_cons (pv 5) (pa_cons (pv 6) pa_nil)))))))
          (pss_one (ps_ret pe_non))
          pss_nil)
        (pss_cons (ps_setDc (i := 7) (own := [("tie", 8)]) (g := gName 8) (tt := tYes) rfl sc_split_shows.nd rfl rfl (sw_trueD rfl rfl rfl (by decide +kernel)) (pi_tup (pe_ix ix_tup (pv 6) pe_int (fun _ _ => rfl))) (blkOk_by (N := N_split_shows) (sc := defScope s_split_shows) (own := [("tie", 8)]) (by decide +kernel)) (fun _ _ _ _ _ => (pg_name (i := 8) sc_split_shows.nd rfl (.inl rfl))) (fun _ _ _ _ _ => pts_nil) (fun _ _ _ _ _ => (pv 8)) (fun _ _ _ _ _ => pe_bl))
        (pss_cons (ps_expr (pe_bm PySem.F.plainAttrs_dict PySem.F.slot_dict_update PySem.F.type_dict_update mt_update (pv 5) (pa_cons (pv 7) pa_nil)))
        (pss_cons (ps_set (i := 9) sc_split_shows.nd rfl (.inl rfl) (pe_call G_knot_shows (hr.mono (by omega)) (by rfl) g_knot_shows k_knot_shows b_knot_shows .nil pass0 (pa_cons (pv 0) (pa_cons (pv 1) (pa_cons (pv 7) (pa_cons (pe_ix ix_tup (pv 6) pe_int (fun _ _ => rfl)) pa_nil))))))
        (pss_cons (ps_if (pt_cmpR op_isN (pv 9) pe_non (nomark _))
          (pss_one (ps_ret pe_non))
          pss_nil)
        (pss_one (ps_aug (i := 4) sc_split_shows.nd rfl (.inl rfl) (pv 9) ip_add))))))))
      (pss_one (ps_ret (pv 4)))))), ?_⟩
    have fts := hK.ok.few
    refine fun D nD => ?_
    have sD := same_new (o := .dK []) nD
    have kD := Kt.same hT sD
    have hD1 : (upd H D (.dK [])) D = some (.dK (kvG [])) := upd_same
    generalize upd H D (.dK []) = H1 at sD kD hD1
    have hrv1 := kD.tup hT hrv
    refine ⟨.ref rv, rfl, rv, rfl, ⟨_, SqT.of hrv1⟩, ?_⟩
    refine for_tup (xs := rows) (fun i σ' H' => ∃ (y6 y7 y8 y9 : Option V) (tk : List Int) (tot : Int), σ' = [some wv, some (.ref lv), some (.ref gv), some (.ref rv), some (.int tot), some (.ref D), y6, y7, y8, y9] ∧ (rows.take i).foldl (stepT H lim.length given fun es p => shownS d H n ts lim es p) (some ([], 0)) = some (tk, tot) ∧ H' D = some (.dK (kvG tk)) ∧ tk.Nodup ∧ (∀ e ∈ tk, e ∈ given) ∧ Kt Ps H H') ⟨none, none, none, none, [], 0, rfl, rfl, hD1, List.nodup_nil, fun e he => (by cases he), kD⟩ (fun i σ' H' _ h => by
      obtain ⟨_, _, _, _, _, _, _, _, _, _, _, k⟩ := h
      exact SqT.of (k.tup hT hrv)) ?_ ?_
    · clear hD1 kD sD hrv1
      rintro i r σ' H2 er ⟨y6, y7, y8, y9, tk, tot, rfl, ef, hD, nk, mk, k2⟩
      have T2 : Tabs Ps H2 := k2.tab
      have pr := hP r (List.mem_of_getElem? er)
      refine ⟨.ref lv, rfl, .ref gv, rfl, .ref D, rfl, r, rfl, lv, gv, D, r, lim, given, tk, d, rfl, k2.lst hT hK.lm, k2.dct hT hK.giv, hD, pr.stay (.kt k2 hT), T2, fun H3 k3 => ⟨_, rfl, ?_⟩⟩
      have eo : splitOk H2 lim.length given tk r = splitOk H lim.length given tk r := by
        unfold splitOk
        rw [rowT_stay pr (.kt k2 hT)]
      rw [eo]
      have k03 := k2.trans k3
      have hD3 := k3.dct T2 hD
      cases ho : splitOk H lim.length given tk r with
      | false =>
        have := q _ k03
        rw [splitS_off ef er (by
          rw [stepT_some]
          unfold splitOk at ho
          cases e : rowT H lim.length r with
          | none => rfl
          | some x =>
            rw [e] at ho
            show (if x.1.all (fun e => decide (e ∈ given) && !decide (e ∈ tk)) then _ else none) = none
            rw [show (x.1.all fun e => decide (e ∈ given) && !decide (e ∈ tk)) = false from ho]
            rfl)] at this
        exact this
      | true =>
      obtain ⟨va, ta, p, es, rfl, hva, hta, eT, hes, nes, hg⟩ := splitOk_is ho
      have hva3 := k03.tup hT hva
      have hta3 := k03.tup hT hta
      have les : es.length ≤ lim.length := pigeon49 es nes hes
      have few := hK.few
      -- the row's own ties
      refine ⟨.ref va, rfl, va, _, 0, .ref ta, rfl, rfl, SqT.of hva3, rfl, ta, rfl, ⟨_, SqT.of hta3⟩, fun O nO => ?_⟩
      have ndisj : ∀ e ∈ es, e ∈ given ∧ e ∉ tk := fun e he => by
        have := List.all_eq_true.mp hg e he
        rw [Bool.and_eq_true, decide_eq_true_iff, Bool.not_eq_true', decide_eq_false_iff_not] at this
        exact this
      have OD : D ≠ O := ne_of_none hD3 nO
      have T3 : Tabs Ps H3 := k3.tab
      refine dc_tup (K := K) (xs := es.map V.int) (fun j H' => H' O = some (.dK (kvG (es.take j))) ∧ Same H3 H') ⟨upd_same, same_new nO⟩ (fun j H' _ h => SqT.of (h.2 _ _ hta3)) ?_ ?_
      · rintro j x H4 ex ⟨hO, s4⟩
        rw [List.getElem?_map] at ex
        obtain ⟨e, ee, rfl⟩ := Option.map_eq_some_iff.mp ex
        have jl := (List.getElem?_eq_some_iff.mp ee).1
        have enj : e ∉ es.take j := fun z => by
          obtain ⟨i', hi'⟩ := List.getElem?_of_mem z
          have il := (List.getElem?_eq_some_iff.mp hi').1
          rw [List.length_take] at il
          rw [List.getElem?_take_of_lt (by omega)] at hi'
          have h1 := (List.getElem?_eq_some_iff.mp hi')
          have h2 := (List.getElem?_eq_some_iff.mp ee)
          exact List.pairwise_iff_getElem.mp nes i' j h1.1 jl (by omega) (h1.2.trans h2.2.symm)
        refine ⟨rfl, .int e, rfl, kvG (es.take j), Sum.inl e, rfl, hO, ?_, ?_, Same.mut s4 nO⟩
        · unfold kvG
          rw [List.length_map, List.length_take]
          exact small2500 (by omega)
        · rw [upd_same, kvG_put enj, List.take_add_one, ee]
          rfl
      rintro H4 ⟨hO, s4⟩
      rw [List.length_map, List.take_length] at hO
      have k04 := k03.trans (Kt.same T3 s4)
      have hD4 := s4 _ _ hD3
      have ltk : tk.length ≤ lim.length := pigeon49 tk nk fun e he => hK.inn e (mk e he)
      refine ⟨.ref D, rfl, .inr (.inr (.inl ⟨rfl, .inl ⟨_, hD4⟩⟩)), .ref O, rfl, D, O, kvG tk, kvG es, rfl, rfl, hD4, hO, OD, ?_, ?_⟩
      · unfold kvG
        rw [List.length_map, List.length_map]
        exact Nat.le_of_lt (small2500 (by omega))
      rw [kvG_merge nes fun e he => (ndisj e he).2]
      have hD5 : (upd H4 D (.dK (kvG (tk ++ es)))) D = some (.dK (kvG (tk ++ es))) := upd_same
      have hO5 : (upd H4 D (.dK (kvG (tk ++ es)))) O = some (.dK (kvG es)) := by rw [upd_ne OD.symm]; exact hO
      have k05 : Kt Ps H (upd H4 D (.dK (kvG (tk ++ es)))) := k04.mutN hT nD
      generalize upd H4 D (.dK (kvG (tk ++ es))) = H5 at hD5 hO5 k05
      have T5 : Tabs Ps H5 := k05.tab
      clear hD4 hO k04 s4 hD3 k3 k03 hD k2 hva3 hta3 nO eo
      cases d with
      | zero =>
        have e0 : parts H (.ref va) = none := (show Kn H (.ref va) ∧ parts H (.ref va) = none from pr).2
        rw [parts_of' hva] at e0
        cases e0
      | succ d =>
      have pp : PapV d H p := rowT_pap1 pr eT
      refine ⟨wv, rfl, .ref lv, rfl, .ref O, rfl, .ref va, rfl, va, _, 1, p, rfl, rfl, SqT.of (k05.tup hT hva), rfl, wv, lv, O, p, n, ts, lim, es, rfl, ⟨hK.web.tk (k05.tk hT), hK.ok, k05.lst hT hK.lm, few, hO5, hes, nes⟩, by omega, pp.stay (.kt k05 hT), T5, fun H6 k6 => ?_⟩
      have k06 := k05.trans k6
      have e6 : shownS (d + 1) H5 n ts lim es p = shownS (d + 1) H n ts lim es p := shown_stay pp (.kt k05 hT) ..
      rw [e6]
      have es0 : stepT H lim.length given (fun es p => shownS (d + 1) H n ts lim es p) (some (tk, tot)) (.ref va) = match shownS (d + 1) H n ts lim es p with | none => none | some k => some (tk ++ es, tot + k) := by
        rw [stepT_some, eT]
        show (if es.all (fun e => decide (e ∈ given) && !decide (e ∈ tk)) then _ else none) = _
        rw [hg]
        rfl
      cases eS : shownS (d + 1) H n ts lim es p with
      | none =>
        have := q _ k06
        rw [splitS_off ef er (by rw [es0, eS])] at this
        refine ⟨.non, rfl, rfl, _, rfl, ?_⟩
        exact this
      | some k =>
        refine ⟨.int k, rfl, rfl, _, rfl, ?_⟩
        refine ⟨.int tot, rfl, .int k, rfl, tot, k, rfl, rfl, ?_⟩
        exact ⟨_, _, _, _, tk ++ es, tot + k, rfl, by rw [fold_at er, ef, es0, eS], k6.dct T5 hD5, List.nodup_append.mpr ⟨nk, nes, fun a ha b hb e => (ndisj b hb).2 (e ▸ ha)⟩, fun e he => (List.mem_append.mp he).elim (mk e) fun z => (ndisj e z).1, k06⟩
    · rintro σ' H2 ⟨y6, y7, y8, y9, tk, tot, rfl, ef, hD, nk, mk, k2⟩
      rw [List.take_length] at ef
      have eS : splitS H lim.length given (fun es p => shownS d H n ts lim es p) rows = some tot := by
        unfold splitS
        rw [ef]
        rfl
      rw [eS] at q
      exact ⟨.int tot, rfl, q _ k2⟩
end
/-! ### papers: cases, knots, what a paper shows -/
def unlB (n : Int) (x y : V) : Bool := wbelow n x && (wbelow n y && !decide (x = y))
def spUnlikePl : Sp := fun vs H Q _ => ∃ (n : Int) (x y : V), vs = [.int n, x, y] ∧ Kn H x ∧ Kn H y ∧ Q (.bl (unlB n x y)) H
theorem wbelow_is {n : Int} {x : V} (h : wbelow n x = true) : ∃ i, x = .int i ∧ 0 ≤ i ∧ i < n := by
  cases x with
  | int i =>
    have h : (decide (0 ≤ i) && decide (i < n)) = true := h
    rw [Bool.and_eq_true, decide_eq_true_iff, decide_eq_true_iff] at h
    exact ⟨i, rfl, h⟩
  | _ => exact absurd (show false = true from h) Bool.false_ne_true
theorem decV (a b : Int) : decide (V.int a = V.int b) = decide (a = b) := by
  rw [decide_eq_decide]
  exact ⟨fun h => V.int.inj h, fun h => by rw [h]⟩
theorem caseS_eq {n : Int} {S : Tie → V → Option Int} {p q a b : V} : caseS n S p q a b = match p, q with
  | .int x, .int y => if unlB n (.int x) (.int y) then minO (S ⟨x, y, false⟩ a) (S ⟨x, y, true⟩ b) else none
  | _, _ => none := by
  unfold caseS unlB
  cases p <;> cases q <;> try rfl
  simp only [decV]
theorem caseS_off {n : Int} {S : Tie → V → Option Int} {p q a b : V} (h : unlB n p q = false) : caseS n S p q a b = none := by
  rw [caseS_eq]
  cases p <;> cases q <;> try rfl
  show (if unlB n _ _ = true then _ else none) = none
  rw [h]
  rfl
theorem caseS_on {n : Int} {S : Tie → V → Option Int} {x y : Int} {a b : V} (h : unlB n (.int x) (.int y) = true) : caseS n S (.int x) (.int y) a b = minO (S ⟨x, y, false⟩ a) (S ⟨x, y, true⟩ b) := by
  rw [caseS_eq]
  show (if unlB n _ _ = true then _ else none) = _
  rw [h]
  rfl
def spCaseShows (Ps : List Addr) (d : Nat) : Sp := fun vs H Q _ => ∃ (wv : V) (lv gv cv : Addr) (n : Int) (ts : List Tie) (lim given : List Int) (w p q a b : V) (d' : Nat), d = d' + 1 ∧ vs = [wv, .ref lv, .ref gv, .ref cv] ∧ KnotAt H wv lv gv n ts lim given ∧ ts.length + d ≤ 200 ∧ H cv = some (.tup [w, p, q, a, b]) ∧ Kn H p ∧ Kn H q ∧ PapV d' H a ∧ PapV d' H b ∧ Tabs Ps H ∧ ∀ H', Kt Ps H H' → Q (optV (caseS n (fun t x => shownS d H n (ts ++ [t]) lim given x) p q a b)) H'
section
variable {P : Program} {w : World} {K : PySem.W.Frag} {mg : Str → Option Value} {base : Heap}
set_option maxHeartbeats 2000000 in
theorem ok_are_unlike_places {f : Addr} {fd : FuncData} (F : Fun K "are_unlike_places" "are_unlike_places" s_are_unlike_places f fd) (D_is_whole_below : Df P w K mg base 2 "is_whole_below" ["limit", "thing"] spBelow) : FnOk P w K mg base CX0 3 f fd ["many", "one", "other"] spUnlikePl := by
  obtain ⟨f_is_whole_below, fd_is_whole_below, G_is_whole_below, g_is_whole_below, k_is_whole_below, b_is_whole_below⟩ := D_is_whole_below
  refine F.ok sc_are_unlike_places (fun vs H Q E h => ?_) (fun cdv A outer s H vs Q E hr h => ?_)
  · obtain ⟨n, x, y, rfl, _⟩ := h
    rfl
  · obtain ⟨n, x, y, rfl, kx, ky, q⟩ := h
    refine ⟨_, (pss_one (ps_ret (pe_and (pe_call G_is_whole_below (hr.mono (by decide)) (by rfl) g_is_whole_below k_is_whole_below b_is_whole_below .nil pass0 (pa_cons (pv 0) (pa_cons (pv 1) pa_nil))) (pe_and (pe_call G_is_whole_below (hr.mono (by decide)) (by rfl) g_is_whole_below k_is_whole_below b_is_whole_below .nil pass0 (pa_cons (pv 0) (pa_cons (pv 2) pa_nil))) (pe_one (pe_cmpR op_ne (pv 1) (pv 2) (nomark _))))))), ?_⟩
    refine ⟨.int n, rfl, x, rfl, n, x, rfl, kx, _, rfl, ?_⟩
    unfold unlB at q
    cases h1 : wbelow n x with
    | false => rw [h1] at q; exact q
    | true =>
    rw [h1, Bool.true_and] at q
    refine ⟨.int n, rfl, y, rfl, n, y, rfl, ky, _, rfl, ?_⟩
    cases h2 : wbelow n y with
    | false => rw [h2] at q; exact q
    | true =>
    rw [h2, Bool.true_and] at q
    obtain ⟨i, rfl, _⟩ := wbelow_is h1
    obtain ⟨j, rfl, _⟩ := wbelow_is h2
    exact ⟨.int i, rfl, .int j, rfl, rfl, q⟩
set_option maxHeartbeats 4000000 in
theorem ok_case_shows {f : Addr} {fd : FuncData} {Ps : List Addr} (d : Nat) (F : Fun K "case_shows" "case_shows" s_case_shows f fd) (m_min : mg "min" = none) (D_are_unlike_places : Df P w K mg base 3 "are_unlike_places" ["many", "one", "other"] spUnlikePl) (D_knot_shows : Df P w K mg base (20 + 2 * d) "knot_shows" ["web", "limits", "given", "thing"] (spKnot Ps d)) : FnOk P w K mg base CX0 (20 + 2 * d + 1) f fd ["web", "limits", "given", "thing"] (spCaseShows Ps d) := by
  obtain ⟨f_are_unlike_places, fd_are_unlike_places, G_are_unlike_places, g_are_unlike_places, k_are_unlike_places, b_are_unlike_places⟩ := D_are_unlike_places
  obtain ⟨f_knot_shows, fd_knot_shows, G_knot_shows, g_knot_shows, k_knot_shows, b_knot_shows⟩ := D_knot_shows
  refine F.ok sc_case_shows (fun vs H Q E h => ?_) (fun cdv A outer s H vs Q E hr h => ?_)
  · obtain ⟨wv, lv, gv, cv, n, ts, lim, given, w0, p, q0, a, b, d1, ed, rfl, _⟩ := h
    rfl
  · obtain ⟨wv, lv, gv, cv, n, ts, lim, given, w0, p, q0, a, b, d1, ed, rfl, hK, l120, hcv, kp, kq, pa, pb, hT, q⟩ := h
    refine ⟨_, (pss_cons (ps_asg (pv 3) (pg_tup rfl (pgs_cons (pg_name (i := 4) sc_case_shows.nd rfl (.inl rfl)) (pgs_cons (pg_name (i := 5) sc_case_shows.nd rfl (.inl rfl)) (pgs_cons (pg_name (i := 6) sc_case_shows.nd rfl (.inl rfl)) (pgs_cons (pg_name (i := 7) sc_case_shows.nd rfl (.inl rfl)) (pgs_cons (pg_name (i := 8) sc_case_shows.nd rfl (.inl rfl)) pgs_nil)))))))
      (pss_cons (ps_if (pt_not (pt_val (pe_call G_are_unlike_places (hr.mono (by omega)) (by rfl) g_are_unlike_places k_are_unlike_places b_are_unlike_places .nil pass0 (pa_cons (pe_ix ix_tup (pv 0) pe_int (fun _ _ => rfl)) (pa_cons (pv 5) (pa_cons (pv 6) pa_nil))))))
        (pss_one (ps_ret pe_non))
        pss_nil)
      (pss_cons (ps_set (i := 9) sc_case_shows.nd rfl (.inl rfl) (pe_lst pa_nil))
      (pss_cons (ps_for PassesOwn.never rfl (pi_tup (pe_tup (pa_cons (pe_tup (pa_cons pe_str (pa_cons (pv 7) pa_nil))) (pa_cons (pe_tup (pa_cons pe_str (pa_cons (pv 8) pa_nil))) pa_nil)))) (pg_tup rfl (pgs_cons (pg_name (i := 10) sc_case_shows.nd rfl (.inl rfl)) (pgs_cons (pg_name (i := 11) sc_case_shows.nd rfl (.inl rfl)) pgs_nil)))
        (pss_cons (ps_set (i := 12) sc_case_shows.nd rfl (.inl rfl) (pe_tup (pa_cons (pe_ix ix_tup (pv 0) pe_int (fun _ _ => rfl)) (pa_cons (pe_op op_catU (pe_ix ix_tup (pv 0) pe_int (fun _ _ => rfl)) (pe_tup (pa_cons (pe_tup (pa_cons (pv 5) (pa_cons (pv 6) (pa_cons (pv 10) pa_nil)))) pa_nil))) pa_nil))))
        (pss_one (ps_expr (pe_bm PySem.F.plainAttrs_list PySem.F.slot_list_append PySem.F.type_list_append mt_append (pv 9) (pa_cons (pe_call G_knot_shows (hr.mono (by omega)) (by rfl) g_knot_shows k_knot_shows b_knot_shows .nil pass0 (pa_cons (pv 12) (pa_cons (pv 1) (pa_cons (pv 2) (pa_cons (pv 11) pa_nil))))) pa_nil))))))
      (pss_one (ps_ret (pe_ifExp (pt_cmpR op_in_seq pe_non (pv 9) rfl) pe_non (pe_callB (cr_min rfl) (by rfl) m_min (by decide +kernel) (pa_cons (pv 9) pa_nil))))))))), ?_⟩
    subst ed
    obtain ⟨wa, wb, us, rfl, hwa, hwb, hpw⟩ := id hK.web
    have fts := hK.ok.few
    refine ⟨.ref cv, rfl, cv, _, rfl, SqT.of hcv, rfl, _, _, rfl, _, _, rfl, _, _, rfl, _, _, rfl, _, _, rfl, rfl, ?_⟩
    refine ⟨.ref wa, rfl, wa, _, 0, .int n, rfl, rfl, SqT.of hwa, rfl, p, rfl, q0, rfl, n, p, q0, rfl, kp, kq, _, rfl, ?_⟩
    cases hu : unlB n p q0 with
    | false =>
      have := q _ (Kt.refl hT)
      rw [caseS_off hu] at this
      exact this
    | true =>
    have hu' := hu
    unfold unlB at hu'
    rw [Bool.and_eq_true, Bool.and_eq_true] at hu'
    obtain ⟨x, rfl, x0, x1⟩ := wbelow_is hu'.1
    obtain ⟨y, rfl, y0, y1⟩ := wbelow_is hu'.2.1
    have xy : x ≠ y := fun z => by
      have := hu'.2.2
      rw [z, decide_eq_true rfl] at this
      cases this
    rw [caseS_on hu] at q
    refine ⟨Nat.zero_le _, fun L nL => ?_⟩
    have sL := same_new (o := .lst []) nL
    have hL1 : (upd H L (.lst [])) L = some (.lst []) := upd_same
    have kL := Kt.same hT sL
    generalize upd H L (.lst []) = H1 at sL hL1 kL
    refine ⟨a, rfl, by show 2 ≤ sizeLine; decide, fun t1 n1 => ?_⟩
    have s1 := same_new (o := .tup [.str "friend", a]) n1
    have h1 := upd_same (H := H1) (a := t1) (o := .tup [.str "friend", a])
    generalize upd H1 t1 (.tup [.str "friend", a]) = H2 at s1 h1
    refine ⟨b, rfl, by show 2 ≤ sizeLine; decide, fun t2 n2 => ?_⟩
    have s2 := same_new (o := .tup [.str "foe", b]) n2
    have h2 := upd_same (H := H2) (a := t2) (o := .tup [.str "foe", b])
    have h12 := s2 _ _ h1
    generalize upd H2 t2 (.tup [.str "foe", b]) = H3 at s2 h2 h12
    refine ⟨by show 2 ≤ sizeLine; decide, fun t3 n3 => ?_⟩
    have s3 := same_new (o := .tup [.ref t1, .ref t2]) n3
    have h3 := upd_same (H := H3) (a := t3) (o := .tup [.ref t1, .ref t2])
    have h13 := s3 _ _ h12
    have h23 := s3 _ _ h2
    generalize upd H3 t3 (.tup [.ref t1, .ref t2]) = H4 at s3 h3 h13 h23
    have s14 := (s1.trans s2).trans s3
    have T1 : Tabs Ps H1 := kL.tab
    have k4 := kL.trans (Kt.same T1 s14)
    have hL4 := s14 _ _ hL1
    have T4 : Tabs Ps H4 := k4.tab
    clear n1 n2 n3 s1 s2 s3 h1 h2 h12 s14
    have each : ∀ (i : Nat) (v : V), [V.ref t1, V.ref t2][i]? = some v → ∃ (t : Addr) (kd : Bool) (u : V), v = .ref t ∧ H4 t = some (.tup [.str (kindS kd), u]) ∧ PapV d1 H u ∧ [optV (shownS (d1 + 1) H n (ts ++ [⟨x, y, false⟩]) lim given a), optV (shownS (d1 + 1) H n (ts ++ [⟨x, y, true⟩]) lim given b)][i]? = some (optV (shownS (d1 + 1) H n (ts ++ [⟨x, y, kd⟩]) lim given u)) := fun i v e => by
      match i, e with
      | 0, e => cases e; exact ⟨t1, false, a, rfl, h13, pa, rfl⟩
      | 1, e => cases e; exact ⟨t2, true, b, rfl, h23, pb, rfl⟩
      | i + 2, e => simp at e
    generalize eR : [optV (shownS (d1 + 1) H n (ts ++ [⟨x, y, false⟩]) lim given a), optV (shownS (d1 + 1) H n (ts ++ [⟨x, y, true⟩]) lim given b)] = R at each
    have lR : R.length = 2 := by rw [← eR]; rfl
    refine ⟨t3, rfl, ⟨_, SqT.of h3⟩, ?_⟩
    refine for_tup (xs := [V.ref t1, V.ref t2]) (fun i σ' H' => ∃ y10 y11 y12 : Option V, σ' = [some (.ref wa), some (.ref lv), some (.ref gv), some (.ref cv), some w0, some (.int x), some (.int y), some a, some b, some (.ref L), y10, y11, y12] ∧ H' L = some (.lst (R.take i)) ∧ Kt Ps H H' ∧ Tk H4 H') ⟨none, none, none, rfl, hL4, k4, fun _ _ e => e⟩ (fun i σ' H' _ h => by
      obtain ⟨_, _, _, _, _, _, tk⟩ := h
      exact SqT.of (tk _ _ h3)) ?_ ?_
    · rintro i v σ' H5 ev ⟨y10, y11, y12, rfl, hL5, k5, tk5⟩
      obtain ⟨t, kd, u, rfl, ht, pu, eu⟩ := each i v ev
      have il : i < 2 := (List.getElem?_eq_some_iff.mp ev).1
      have T5 : Tabs Ps H5 := k5.tab
      refine ⟨t, _, rfl, SqT.of (tk5 _ _ ht), rfl, _, _, rfl, _, _, rfl, rfl, ?_⟩
      refine ⟨.ref wa, rfl, wa, _, 0, .int n, rfl, rfl, SqT.of (k5.tup hT hwa), rfl, .ref wa, rfl, wa, _, 1, .ref wb, rfl, rfl, SqT.of (k5.tup hT hwa), rfl, .int x, rfl, .int y, rfl, .str (kindS kd), rfl, by show 3 ≤ sizeLine; decide, fun c1 nc1 => ⟨by show 1 ≤ sizeLine; decide, fun c2 nc2 => ?_⟩⟩
      have s6 := same_new (o := .tup [.int x, .int y, .str (kindS kd)]) nc1
      have hc1 := upd_same (H := H5) (a := c1) (o := .tup [.int x, .int y, .str (kindS kd)])
      generalize upd H5 c1 (.tup [.int x, .int y, .str (kindS kd)]) = H6 at s6 hc1 nc2
      have s7 := same_new (o := .tup [.ref c1]) nc2
      have hc2 := upd_same (H := H6) (a := c2) (o := .tup [.ref c1])
      have hc17 := s7 _ _ hc1
      generalize upd H6 c2 (.tup [.ref c1]) = H7 at s7 hc2 hc17
      have s57 := s6.trans s7
      have hwb7 := s57 _ _ (k5.tup hT hwb)
      have lus : us.length = ts.length := Paired.length hpw
      refine ⟨wb, c2, us, [.ref c1], rfl, rfl, hwb7, hc2, by rw [List.length_singleton]; omega, fun r H8 s8 hr8 => ⟨by show 2 ≤ sizeLine; decide, fun w2 nw2 => ?_⟩⟩
      have s9 := same_new (o := .tup [.int n, .ref r]) nw2
      have hw2 := upd_same (H := H8) (a := w2) (o := .tup [.int n, .ref r])
      have hr9 := s9 _ _ hr8
      generalize upd H8 w2 (.tup [.int n, .ref r]) = H9 at s9 hw2 hr9
      have s79 := s8.trans s9
      have s59 := s57.trans s79
      have k9 := k5.trans (Kt.same T5 s59)
      have T9 : Tabs Ps H9 := k9.tab
      have hL9 := s59 _ _ hL5
      have hc19 := s79 _ _ hc17
      have tk9 : Tk H4 H9 := tk5.trans (Same.tk s59)
      have ok' : WebOk n (ts ++ [⟨x, y, kd⟩]) := ⟨hK.ok.lo, hK.ok.hi, by rw [List.length_append]; show ts.length + 1 ≤ 200; omega, fun t ht => by
        rcases List.mem_append.mp ht with z | z
        · exact hK.ok.ok t z
        · rw [List.mem_singleton.mp z]
          exact ⟨x0, x1, y0, y1, xy⟩⟩
      refine ⟨.ref L, rfl, .inl ⟨rfl, _, SqL.of hL9⟩, .ref w2, rfl, .ref lv, rfl, .ref gv, rfl, u, rfl, .ref w2, lv, gv, u, n, ts ++ [⟨x, y, kd⟩], lim, given, rfl, ⟨⟨w2, r, _, rfl, hw2, hr9, Paired.snoc (ties_tk (k9.tk hT) hpw) ⟨c1, rfl, hc19⟩⟩, ok', k9.lst hT hK.lm, by have := hK.few; rw [List.length_append]; omega, k9.dct hT hK.giv, hK.inn, hK.nd⟩, by rw [List.length_append]; show ts.length + 1 + d1 ≤ 200; omega, pu.stay (.kt k9 hT), T9, fun H10 k10 => ?_⟩
      have e10 : shownS (d1 + 1) H9 n (ts ++ [⟨x, y, kd⟩]) lim given u = shownS (d1 + 1) H n (ts ++ [⟨x, y, kd⟩]) lim given u := shown_stay pu (.kt k9 hT) ..
      rw [e10]
      have hL10 := k10.lst T9 hL9
      have k010 := k9.trans k10
      refine ⟨L, R.take i, _, rfl, rfl, hL10, by rw [List.length_take]; exact small2500 (by omega), ?_⟩
      have tkL := tk_lst (ys := R.take i ++ [optV (shownS (d1 + 1) H n (ts ++ [⟨x, y, kd⟩]) lim given u)]) hL10
      refine ⟨_, _, _, rfl, ?_, k010.mutN hT nL, (tk9.trans (k10.tk T9)).trans tkL⟩
      rw [upd_same, List.take_add_one, eu]
      rfl
    · rintro σ' H5 ⟨y10, y11, y12, rfl, hL5, k5, tk5⟩
      have hL5 : H5 L = some (.lst R) := by rw [hL5]; congr 2; exact List.take_of_length_le (by rw [lR]; exact Nat.le_refl _)
      generalize shownS (d1 + 1) H n (ts ++ [⟨x, y, false⟩]) lim given a = r1 at eR q
      generalize shownS (d1 + 1) H n (ts ++ [⟨x, y, true⟩]) lim given b = r2 at eR q
      subst eR
      refine ⟨.ref L, rfl, L, _, rfl, .inl (SqL.of hL5), rfl, by cases r1 <;> cases r2 <;> rfl, _, rfl, ?_⟩
      cases r1 with
      | none => exact q _ k5
      | some m1 =>
        cases r2 with
        | none => exact q _ k5
        | some m2 =>
          refine ⟨.ref L, rfl, L, [m1, m2], rfl, SqL.of hL5, Nat.zero_lt_succ _, fun m hm hle => ?_⟩
          have e : m = min m1 m2 := by
            have a1 := hle m1 (by simp)
            have a2 := hle m2 (by simp)
            rcases List.mem_cons.mp hm with z | z
            · omega
            · have := List.mem_singleton.mp z
              omega
          rw [e]
          exact q _ k5
end
/-! ### papers: knots -/
theorem five_of {α : Type} : ∀ {xs : List α}, (xs.length : Int) = 5 → ∃ a b c d e, xs = [a, b, c, d, e]
  | [a, b, c, d, e], _ => ⟨a, b, c, d, e, rfl⟩
  | [], h => by cases h
  | [_], h => by cases h
  | [_, _], h => by cases h
  | [_, _, _], h => by cases h
  | [_, _, _, _], h => by cases h
  | _ :: _ :: _ :: _ :: _ :: _ :: xs, h => by
    simp only [List.length_cons] at h
    omega
theorem shown_not {d : Nat} {H : Hp} {n : Int} {ts : List Tie} {lim given : List Int} {v : V} (h2 : lenIs H v 2 = false) (h5 : lenIs H v 5 = false) : shownS d H n ts lim given v = none := by
  cases d with
  | zero => rfl
  | succ d =>
    unfold shownS
    unfold lenIs at h2 h5
    cases e : parts H v with
    | none => rfl
    | some xs =>
      rw [e] at h2 h5
      have h2 : (xs.length : Int) ≠ 2 := of_decide_eq_false h2
      have h5 : (xs.length : Int) ≠ 5 := of_decide_eq_false h5
      match xs, h2, h5 with
      | [], _, _ => rfl
      | [_], _, _ => rfl
      | [_, _], h2, _ => exact (h2 rfl).elim
      | [_, _, _], _, _ => rfl
      | [_, _, _, _], _, _ => rfl
      | [_, _, _, _, _], _, h5 => exact (h5 rfl).elim
      | _ :: _ :: _ :: _ :: _ :: _ :: _, _, _ => rfl
theorem shown_two {d : Nat} {H : Hp} {n : Int} {ts : List Tie} {lim given : List Int} {v w r : V} (h : parts H v = some [w, r]) : shownS (d + 1) H n ts lim given v = match parts H r with
  | none => none
  | some rows => if w = .str "rings" then ringsS H n ts lim given rows else if w = .str "split" then splitS H lim.length given (fun es p => shownS d H n ts lim es p) rows else none := by
  rw [shownS.eq_2, h] <;> rfl
theorem shown_five {d : Nat} {H : Hp} {n : Int} {ts : List Tie} {lim given : List Int} {v w p q a b : V} (h : parts H v = some [w, p, q, a, b]) : shownS (d + 1) H n ts lim given v = if w = .str "case" then caseS n (fun t x => shownS d H n (ts ++ [t]) lim given x) p q a b else none := by
  rw [shownS.eq_2, h]
section
variable {P : Program} {w : World} {K : PySem.W.Frag} {mg : Str → Option Value} {base : Heap}
set_option maxHeartbeats 4000000 in
theorem ok_knot_step {f : Addr} {fd : FuncData} {Ps : List Addr} (d : Nat) (F : Fun K "knot_shows" "knot_shows" s_knot_shows f fd) (M : Free mg) (D_is_tuple_of : Df P w K mg base 1 "is_tuple_of" ["length", "thing"] spTupleOf) (D_case_shows : Df P w K mg base (20 + 2 * d + 1) "case_shows" ["web", "limits", "given", "thing"] (spCaseShows Ps d)) (D_rings_show : Df P w K mg base 11 "rings_show" ["web", "limits", "given", "rows"] (spRingsShow Ps)) (D_split_shows : Df P w K mg base (20 + 2 * d + 1) "split_shows" ["web", "limits", "given", "rows"] (spSplitShows Ps d)) : FnOk P w K mg base CX0 (20 + 2 * d + 1 + 1) f fd ["web", "limits", "given", "thing"] (spKnot Ps (d + 1)) := by
  obtain ⟨f_is_tuple_of, fd_is_tuple_of, G_is_tuple_of, g_is_tuple_of, k_is_tuple_of, b_is_tuple_of⟩ := D_is_tuple_of
  obtain ⟨f_case_shows, fd_case_shows, G_case_shows, g_case_shows, k_case_shows, b_case_shows⟩ := D_case_shows
  obtain ⟨f_rings_show, fd_rings_show, G_rings_show, g_rings_show, k_rings_show, b_rings_show⟩ := D_rings_show
  obtain ⟨f_split_shows, fd_split_shows, G_split_shows, g_split_shows, k_split_shows, b_split_shows⟩ := D_split_shows
  refine F.ok sc_knot_shows (fun vs H Q E h => ?_) (fun cdv A outer s H vs Q E hr h => ?_)
  · obtain ⟨wv, lv, gv, v, n, ts, lim, given, rfl, _⟩ := h
    rfl
  · obtain ⟨wv, lv, gv, v, n, ts, lim, given, rfl, hK, l120, hP, hT, q⟩ := h
    refine ⟨_, (pss_cons (ps_if (PW.pt (pw_and (pt_val (pe_call G_is_tuple_of (hr.mono (by omega)) (by rfl) g_is_tuple_of k_is_tuple_of b_is_tuple_of .nil pass0 (pa_cons pe_int (pa_cons (pv 3) pa_nil)))) (pw_and1 (pt_cmpR (op_eqAS hr.units0) (pe_ix ix_tup (pv 3) pe_int (fun _ _ => rfl)) pe_str (nomark _)))))
        (pss_one (ps_ret (pe_call G_case_shows (hr.mono (by omega)) (by rfl) g_case_shows k_case_shows b_case_shows .nil pass0 (pa_cons (pv 0) (pa_cons (pv 1) (pa_cons (pv 2) (pa_cons (pv 3) pa_nil)))))))
        pss_nil)
      (pss_cons (ps_if (PW.pt (pw_or (pt_not (pt_val (pe_call G_is_tuple_of (hr.mono (by omega)) (by rfl) g_is_tuple_of k_is_tuple_of b_is_tuple_of .nil pass0 (pa_cons pe_int (pa_cons (pv 3) pa_nil))))) (pw_or1 (pt_not (pt_val (pe_callB call_isi (by rfl) M.isinstance (by decide +kernel) (pa_cons (pe_ix ix_tup (pv 3) pe_int (fun _ _ => rfl)) (pa_cons (pe_bltn (v := .ty "tuple") (by rfl) M.tuple (by decide +kernel) rfl) pa_nil))))))))
        (pss_one (ps_ret pe_non))
        pss_nil)
      (pss_cons (ps_asg (pv 3) (pg_tup rfl (pgs_cons (pg_name (i := 4) sc_knot_shows.nd rfl (.inl rfl)) (pgs_cons (pg_name (i := 5) sc_knot_shows.nd rfl (.inl rfl)) pgs_nil))))
      (pss_cons (ps_if (pt_cmpR (op_eqAS hr.units0) (pv 4) pe_str (nomark _))
        (pss_one (ps_ret (pe_call G_rings_show (hr.mono (by omega)) (by rfl) g_rings_show k_rings_show b_rings_show .nil pass0 (pa_cons (pv 0) (pa_cons (pv 1) (pa_cons (pv 2) (pa_cons (pv 5) pa_nil)))))))
        pss_nil)
      (pss_one (ps_ret (pe_ifExp (pt_cmpR (op_eqAS hr.units0) (pv 4) pe_str (nomark _)) (pe_call G_split_shows (hr.mono (by omega)) (by rfl) g_split_shows k_split_shows b_split_shows .nil pass0 (pa_cons (pv 0) (pa_cons (pv 1) (pa_cons (pv 2) (pa_cons (pv 5) pa_nil))))) pe_non))))))), ?_⟩
    have kv := hP.kn
    have hPu := hP.up
    refine ⟨v, rfl, 5, v, rfl, kv, _, rfl, ?_⟩
    cases h5 : lenIs H v 5 with
    | true =>
      obtain ⟨xs, hx, lx⟩ := len_is h5
      obtain ⟨w0, p, q0, a, b, rfl⟩ := five_of lx
      obtain ⟨va, rfl, hva⟩ := parts_at hx
      have h2 : lenIs H (.ref va) 2 = false := by
        unfold lenIs
        rw [hx]
        rfl
      have kw := ((hPu.2 _ hx).1 w0 (by simp)).kn
      rw [shown_five hx] at q
      refine ⟨.ref va, rfl, va, _, 0, w0, rfl, rfl, SqT.of hva, rfl, _, rfl, kw, _, rfl, ?_⟩
      cases hw : decide (w0 = V.str "case") with
      | true =>
        rw [if_pos (of_decide_eq_true hw)] at q
        cases d with
        | zero =>
          have e0 : parts H (.ref va) = none := (show Kn H (.ref va) ∧ parts H (.ref va) = none from hP).2
          rw [hx] at e0
          cases e0
        | succ d1 =>
          have hx1 := (hP.2 _ hx).1
          exact ⟨wv, rfl, .ref lv, rfl, .ref gv, rfl, .ref va, rfl, wv, lv, gv, va, n, ts, lim, given, w0, p, q0, a, b, d1, rfl, rfl, hK, l120, hva, (hx1 p (by simp)).kn, (hx1 q0 (by simp)).kn, hx1 a (by simp), hx1 b (by simp), hT, q⟩
      | false =>
        rw [if_neg (of_decide_eq_false hw)] at q
        refine ⟨.ref va, rfl, 2, .ref va, rfl, kv, _, rfl, ?_⟩
        rw [h2]
        exact q _ (Kt.refl hT)
    | false =>
    refine ⟨v, rfl, 2, v, rfl, kv, _, rfl, ?_⟩
    cases h2 : lenIs H v 2 with
    | false =>
      rw [shown_not h2 h5] at q
      exact q _ (Kt.refl hT)
    | true =>
    obtain ⟨xs, hx, lx⟩ := len_is h2
    obtain ⟨w0, r, rfl⟩ := two_of lx
    obtain ⟨va, rfl, hva⟩ := parts_at hx
    have kw := ((hPu.2 _ hx).1 w0 (by simp)).kn
    have kr := ((hPu.2 _ hx).1 r (by simp)).kn
    rw [shown_two hx] at q
    obtain ⟨t1, i1, j1⟩ := kn_tup (K := K) kr
    refine ⟨.ref va, rfl, va, _, 1, r, rfl, rfl, SqT.of hva, rfl, r, _, t1, _, _, rfl, .ty "tuple", i1, j1, _, rfl, ?_⟩
    cases hi : isT H r with
    | false =>
      rw [parts_none hi] at q
      exact q _ (Kt.refl hT)
    | true =>
    obtain ⟨rv, rows, rfl, hrv⟩ := isT_at hi
    rw [parts_of' hrv] at q
    have q : ∀ H', Kt Ps H H' → Q (optV (if w0 = .str "rings" then ringsS H n ts lim given rows else if w0 = .str "split" then splitS H lim.length given (fun es p => shownS d H n ts lim es p) rows else none)) H' := q
    refine ⟨.ref va, rfl, va, _, rfl, SqT.of hva, rfl, _, _, rfl, _, _, rfl, rfl, ?_⟩
    cases d with
    | zero =>
      have e0 : parts H (.ref va) = none := (show Kn H (.ref va) ∧ parts H (.ref va) = none from hP).2
      rw [hx] at e0
      cases e0
    | succ d1 =>
    have pr := (hP.2 _ hx).1 (.ref rv) (by simp)
    have prows := pr.up.2 _ (parts_of' hrv)
    refine ⟨w0, rfl, _, rfl, kw, _, rfl, ?_⟩
    cases hw : decide (w0 = V.str "rings") with
    | true =>
      rw [if_pos (of_decide_eq_true hw)] at q
      exact ⟨wv, rfl, .ref lv, rfl, .ref gv, rfl, .ref rv, rfl, wv, lv, gv, rv, n, ts, lim, given, rows, d1, rfl, hK, hrv, prows.1, prows.2, hT, q⟩
    | false =>
    rw [if_neg (of_decide_eq_false hw)] at q
    refine ⟨w0, rfl, _, rfl, kw, _, rfl, ?_⟩
    cases hs : decide (w0 = V.str "split") with
    | true =>
      rw [if_pos (of_decide_eq_true hs)] at q
      exact ⟨wv, rfl, .ref lv, rfl, .ref gv, rfl, .ref rv, rfl, wv, lv, gv, rv, n, ts, lim, given, rows, rfl, hK, l120, hrv, fun x hx => (prows.1 x hx).up, hT, q⟩
    | false =>
      rw [if_neg (of_decide_eq_false hs)] at q
      exact q _ (Kt.refl hT)
/-- the three defs that call one another, by depth -/
theorem ok_knots {fk fs fc : Addr} {dk ds dc : FuncData} {Ps : List Addr} (Fk : Fun K "knot_shows" "knot_shows" s_knot_shows fk dk) (Fs : Fun K "split_shows" "split_shows" s_split_shows fs ds) (Fc : Fun K "case_shows" "case_shows" s_case_shows fc dc) (M : Free mg) (m_min : mg "min" = none) (gk : mg "knot_shows" = some (.ref fk)) (gs : mg "split_shows" = some (.ref fs)) (gc : mg "case_shows" = some (.ref fc))
    (bk : Binds K dk ["web", "limits", "given", "thing"] []) (bs : Binds K ds ["web", "limits", "given", "rows"] []) (bc : Binds K dc ["web", "limits", "given", "thing"] []) (D_is_tuple_of : Df P w K mg base 1 "is_tuple_of" ["length", "thing"] spTupleOf) (D_rings_show : Df P w K mg base 11 "rings_show" ["web", "limits", "given", "rows"] (spRingsShow Ps)) (D_is_split_row : Df P w K mg base 6 "is_split_row" ["limits", "given", "taken", "thing"] (spSplitRow Ps)) (D_are_unlike_places : Df P w K mg base 3 "are_unlike_places" ["many", "one", "other"] spUnlikePl) :
    ∀ d : Nat, FnOk P w K mg base CX0 (20 + 2 * d) fk dk ["web", "limits", "given", "thing"] (spKnot Ps d)
  | 0 => ⟨fun vs H Q E h => h.elim, fun B out z H ar us vs Q E _ _ _ _ h => h.elim⟩
  | d + 1 => by
    have Dk : Df P w K mg base (20 + 2 * d) "knot_shows" ["web", "limits", "given", "thing"] (spKnot Ps d) := ⟨fk, dk, ok_knots Fk Fs Fc M m_min gk gs gc bk bs bc D_is_tuple_of D_rings_show D_is_split_row D_are_unlike_places d, gk, Fk.kp, bk⟩
    have Ds : Df P w K mg base (20 + 2 * d + 1) "split_shows" ["web", "limits", "given", "rows"] (spSplitShows Ps d) := ⟨fs, ds, ok_split_shows d Fs D_is_split_row Dk, gs, Fs.kp, bs⟩
    have Dc : Df P w K mg base (20 + 2 * d + 1) "case_shows" ["web", "limits", "given", "thing"] (spCaseShows Ps d) := ⟨fc, dc, ok_case_shows d Fc m_min D_are_unlike_places Dk, gc, Fc.kp, bc⟩
    have e : 20 + 2 * (d + 1) = 20 + 2 * d + 1 + 1 := by omega
    rw [e]
    exact ok_knot_step d Fk M D_is_tuple_of Dc D_rings_show Ds
end
/-! ### weights of ties -/
def gW (ws : List Int) (x : Int) : Int := ws.getD x.toNat 0
def spWeightOf : Sp := fun vs H Q _ => (∃ i, vs = [.non, .int i] ∧ Q (.int 1) H) ∨ ∃ a xs i v, vs = [.ref a, .int i] ∧ H a = some (.tup xs) ∧ atI xs i = some v ∧ Q v H
/-- whose weights: of None each 1 -/
def Wts (H : Hp) (v : V) (ns : List Int) (g : Int → Int) : Prop := (v = .non ∧ ∀ x ∈ ns, g x = 1) ∨ ∃ a ws, v = .ref a ∧ H a = some (.tup (ws.map V.int)) ∧ ∀ x ∈ ns, (0 ≤ x ∧ x < (ws.length : Int)) ∧ g x = gW ws x
theorem Wts.tk {H H' : Hp} (k : Tk H H') {v : V} {ns : List Int} {g : Int → Int} (h : Wts H v ns g) : Wts H' v ns g := by
  rcases h with h | ⟨a, ws, e, h1, h2⟩
  · exact .inl h
  · exact .inr ⟨a, ws, e, k _ _ h1, h2⟩
def sumW (g : Int → Int) (ns : List Int) : Int := (ns.map g).sum
theorem sumW_snoc (g : Int → Int) (ns : List Int) (x : Int) : sumW g (ns ++ [x]) = sumW g ns + g x := by
  unfold sumW
  rw [List.map_append, List.sum_append]
  simp
theorem sumW_one {g : Int → Int} : ∀ {ns : List Int}, (∀ x ∈ ns, g x = 1) → sumW g ns = ns.length
  | [], _ => rfl
  | n :: ns, h => by
    have ih := sumW_one (ns := ns) fun x hx => h x (List.mem_cons_of_mem _ hx)
    unfold sumW at ih ⊢
    rw [List.map_cons, List.sum_cons, ih, h n (by simp), List.length_cons]
    omega
theorem gW_at {ws : List Int} {x : Int} (h0 : 0 ≤ x) (h1 : x < (ws.length : Int)) : atI (ws.map V.int) x = some (.int (gW ws x)) := by
  have h : x.toNat < ws.length := by omega
  refine atI_of h0 ?_
  unfold gW
  rw [List.getElem?_map, List.getD_eq_getElem?_getD, List.getElem?_eq_getElem h]
  rfl
section
variable {P : Program} {w : World} {K : PySem.W.Frag} {mg : Str → Option Value} {base : Heap}
theorem ok_weight_of {f : Addr} {fd : FuncData} (F : Fun K "weight_of" "weight_of" s_weight_of f fd) : FnOk P w K mg base CX0 1 f fd ["weights", "tie"] spWeightOf := by
  refine F.ok sc_weight_of (fun vs H Q E h => ?_) (fun cdv A outer s H vs Q E hr h => ?_)
  · rcases h with ⟨i, rfl, _⟩ | ⟨a, xs, i, v, rfl, _⟩ <;> rfl
  · refine ⟨_, (pss_cons (ps_if (pt_cmpR op_isN (pv 0) pe_non (nomark _))
        (pss_one (ps_ret pe_int))
        pss_nil)
      (pss_one (ps_ret (pe_ix ix_tup (pv 0) (pv 1) (fun _ _ => rfl))))), ?_⟩
    rcases h with ⟨i, rfl, q⟩ | ⟨a, xs, i, v, rfl, h1, h2, q⟩
    · exact ⟨.non, rfl, rfl, _, rfl, q⟩
    · exact ⟨.ref a, rfl, rfl, _, rfl, .ref a, rfl, .int i, rfl, a, xs, i, v, rfl, rfl, SqT.of h1, h2, q⟩
end
/-! ### papers: shown_by -/
def limW (g : Int → Int) (m : Nat) : List Int := (rng m).map fun x => 2 * g x
theorem limW_len (g : Int → Int) (m : Nat) : (limW g m).length = m := by
  unfold limW
  rw [List.length_map, rng_length]
theorem limW_succ (g : Int → Int) (m : Nat) : limW g (m + 1) = limW g m ++ [2 * g (m : Int)] := by
  unfold limW
  rw [rng_succ, List.map_append]
  rfl
theorem rng_nd49 (m : Nat) : (rng m).Nodup := (rng_rising m).imp fun {a b} h => by omega
/-- a dict over a range -/
theorem dc_range49 {n : Nat} {g : TG} {tt : TT} {tk tv : TE} {vs : List Nat} {σ : L2.St} {H1 : Hp} {D : Addr} {Qd : Hp → Prop} (Pv : Nat → Hp → Prop) (h0 : Pv 0 (upd H1 D (.dK [])))
    (hs : ∀ (j : Nat) H, j < n → Pv j H → g (.int (0 + (j : Nat))) (wipe σ vs) H fun σ2 H2 => wipe σ2 vs = wipe σ vs ∧ tt σ2 H2 fun b H3 =>
      if b = true then tk σ2 H3 fun y H4 => tv σ2 H4 fun z H5 => ∃ kvs k, y = kV k ∧ H5 D = some (.dK kvs) ∧ kvs.length < sizeLine ∧ Pv (j + 1) (upd H5 D (.dK (putK kvs k z))) else Pv (j + 1) H3) (hd : ∀ H, Pv n H → Qd H) :
    ∃ W : Nat → Nat → Hp → Prop, (∃ m, W 0 m (upd H1 D (.dK []))) ∧ ∀ i m H, W i m H →
      ((Itr 0 n).stop i H ∧ Qd H) ∨ ((Itr 0 n).go i H ∧ ∃ Nx : Hp → Prop, (∀ H', Nx H' → ∃ m', m' < m ∧ W (i + 1) m' H') ∧ ∀ x H', (Itr 0 n).yld i H x H' → g x (wipe σ vs) H' fun σ2 H2 => wipe σ2 vs = wipe σ vs ∧ tt σ2 H2 fun b H3 =>
        if b = true then tk σ2 H3 fun y H4 => tv σ2 H4 fun z H5 => ∃ kvs k, y = kV k ∧ H5 D = some (.dK kvs) ∧ kvs.length < sizeLine ∧ Nx (upd H5 D (.dK (putK kvs k z))) else Nx H3) := by
  refine ⟨fun i m H => m = n - i ∧ i ≤ n ∧ Pv i H, ⟨n, by simp, Nat.zero_le _, h0⟩, ?_⟩
  rintro i m H ⟨rfl, hi, p⟩
  by_cases hlt : i < n
  · refine .inr ⟨hlt, Pv (i + 1), fun H' p' => ⟨n - (i + 1), by omega, rfl, hlt, p'⟩, fun x H' y => ?_⟩
    obtain ⟨e, y⟩ := y
    subst e
    subst y
    exact hs i _ hlt p
  · have e : i = n := by omega
    subst e
    exact .inl ⟨Nat.le_refl _, hd H p⟩
def spShownBy (Ps : List Addr) (d : Nat) : Sp := fun vs H Q _ => ∃ (wv wt v : V) (n : Int) (ts : List Tie) (g : Int → Int), vs = [wv, wt, v] ∧ WebAt H wv n ts ∧ WebOk n ts ∧ ts.length + d ≤ 200 ∧ Wts H wt (rng ts.length) g ∧ PapV d H v ∧ Tabs Ps H ∧ ∀ H', Kt Ps H H' → Q (optV (shownS (d + 1) H n ts (limW g ts.length) (rng ts.length) v)) H'
section
variable {P : Program} {w : World} {K : PySem.W.Frag} {mg : Str → Option Value} {base : Heap}
set_option maxHeartbeats 4000000 in
theorem ok_shown_by {f : Addr} {fd : FuncData} {Ps : List Addr} (d : Nat) (F : Fun K "shown_by" "shown_by" s_shown_by f fd) (M : Free mg) (D_weight_of : Df P w K mg base 1 "weight_of" ["weights", "tie"] spWeightOf) (D_knot_shows : Df P w K mg base (20 + 2 * (d + 1)) "knot_shows" ["web", "limits", "given", "thing"] (spKnot Ps (d + 1))) : FnOk P w K mg base CX0 (23 + 2 * d) f fd ["web", "weights", "thing"] (spShownBy Ps d) := by
  obtain ⟨f_weight_of, fd_weight_of, G_weight_of, g_weight_of, k_weight_of, b_weight_of⟩ := D_weight_of
  obtain ⟨f_knot_shows, fd_knot_shows, G_knot_shows, g_knot_shows, k_knot_shows, b_knot_shows⟩ := D_knot_shows
  rw [show 23 + 2 * d = 22 + 2 * d + 1 by omega]
  refine F.ok sc_shown_by (fun vs H Q E h => ?_) (fun cdv A outer s H vs Q E hr h => ?_)
  · obtain ⟨wv, wt, v, n, ts, g, rfl, _⟩ := h
    rfl
  · obtain ⟨wv, wt, v, n, ts, g, rfl, hW, ok, l120, hwt, hP, hT, q⟩ := h
    refine ⟨_, (pss_cons (ps_setLc (i := 3) (own := [("tie", 4)]) (g := (gName 4)) (tt := tYes) rfl sc_shown_by.nd rfl rfl (sw_true rfl rfl rfl (by decide +kernel)) (pi_range1 (by rfl) M.range (pa_cons (pe_callB call_len_seq (by rfl) M.len PySem.boot_len (pa_cons (pe_ix ix_tup (pv 0) pe_int (fun _ _ => rfl)) pa_nil)) pa_nil)) (blkOk_by (N := N_shown_by) (sc := defScope s_shown_by) (own := [("tie", 4)]) (by decide +kernel)) (fun _ _ _ _ _ => (pg_name (i := 4) sc_shown_by.nd rfl (.inl rfl))) (fun _ _ _ _ _ => pts_nil) (fun _ _ _ _ _ => (pe_op op_mul pe_int (pe_call G_weight_of (hr.mono (by omega)) (by rfl) g_weight_of k_weight_of b_weight_of .nil pass0 (pa_cons (pv 1) (pa_cons (pv 4) pa_nil))))))
      (pss_cons (ps_setDc (i := 5) (own := [("tie", 4)]) (g := gName 4) (tt := tYes) rfl sc_shown_by.nd rfl rfl (sw_trueD rfl rfl rfl (by decide +kernel)) (pi_range1 (by rfl) M.range (pa_cons (pe_callB call_len_seq (by rfl) M.len PySem.boot_len (pa_cons (pe_ix ix_tup (pv 0) pe_int (fun _ _ => rfl)) pa_nil)) pa_nil)) (blkOk_by (N := N_shown_by) (sc := defScope s_shown_by) (own := [("tie", 4)]) (by decide +kernel)) (fun _ _ _ _ _ => (pg_name (i := 4) sc_shown_by.nd rfl (.inl rfl))) (fun _ _ _ _ _ => pts_nil) (fun _ _ _ _ _ => (pv 4)) (fun _ _ _ _ _ => pe_bl))
      (pss_one (ps_ret (pe_call G_knot_shows (hr.mono (by omega)) (by rfl) g_knot_shows k_knot_shows b_knot_shows .nil pass0 (pa_cons (pv 0) (pa_cons (pv 3) (pa_cons (pv 5) (pa_cons (pv 2) pa_nil))))))))), ?_⟩
    obtain ⟨wa, wb, us, rfl, hwa, hwb, hpw⟩ := id hW
    have fts := ok.few
    have lus : us.length = ts.length := Paired.length hpw
    refine ⟨.ref wa, rfl, wa, _, 1, .ref wb, rfl, rfl, SqT.of hwa, rfl, wb, us, rfl, .inr (SqT.of hwb), us.length, rfl, by omega, by omega, fun Z nZ => ?_⟩
    rw [Int.toNat_natCast, lus]
    refine lc_range (lo := 0) (n := ts.length) (fun j H' => H' Z = some (.lst ((limW g j).map V.int)) ∧ Same H H') ⟨upd_same, same_new nZ⟩ ?_ ?_
    · rintro j H1 hj ⟨hZ, s1⟩
      have fin : ∀ w : Int, w = g (j : Int) → (upd H1 Z (.lst ((limW g j).map V.int ++ [.int (2 * w)]))) Z = some (.lst ((limW g (j + 1)).map V.int)) := fun w hw => by
        rw [upd_same, limW_succ, List.map_append, hw]
        rfl
      have hm : ((j : Nat) : Int) ∈ rng ts.length := mem_rng.mpr ⟨by omega, by omega⟩
      have lz : ((limW g j).map V.int).length < sizeLine := by rw [List.length_map, limW_len]; exact small2500 (by omega)
      rcases hwt.tk (Same.tk s1) with ⟨rfl, h1⟩ | ⟨a, ws, rfl, h1, h2⟩
      · refine ⟨rfl, .non, rfl, .int (0 + (j : Nat)), rfl, .inl ⟨_, rfl, ?_⟩⟩
        exact ⟨_, _, rfl, rfl, .inl ⟨by decide, by decide⟩, _, hZ, lz, fin 1 (h1 _ hm).symm, Same.mut s1 nZ⟩
      · obtain ⟨⟨b0, b1⟩, e⟩ := h2 _ hm
        refine ⟨rfl, .ref a, rfl, .int (0 + (j : Nat)), rfl, .inr ⟨a, _, _, _, rfl, h1, by rw [Int.zero_add]; exact gW_at b0 b1, ?_⟩⟩
        exact ⟨_, _, rfl, rfl, .inl ⟨by decide, by decide⟩, _, hZ, lz, fin _ e.symm, Same.mut s1 nZ⟩
    · rintro H1 ⟨hZ, s1⟩
      have k1 := Kt.same hT s1
      have T1 : Tabs Ps H1 := k1.tab
      refine ⟨.ref wa, rfl, wa, _, 1, .ref wb, rfl, rfl, SqT.of (s1 _ _ hwa), rfl, wb, us, rfl, .inr (SqT.of (s1 _ _ hwb)), us.length, rfl, by omega, by omega, fun D nD => ?_⟩
      rw [Int.toNat_natCast, lus]
      refine dc_range49 (n := ts.length) (fun j H' => H' D = some (.dK (kvG (rng j))) ∧ Same H1 H') ⟨upd_same, same_new nD⟩ ?_ ?_
      · rintro j H2 hj ⟨hD, s2⟩
        refine ⟨rfl, .int (0 + (j : Nat)), rfl, kvG (rng j), Sum.inl (0 + (j : Nat)), rfl, hD, ?_, ?_, Same.mut s2 nD⟩
        · unfold kvG
          rw [List.length_map, rng_length]
          exact small2500 (by omega)
        · rw [upd_same, Int.zero_add, kvG_put (fun z => by have := (mem_rng.mp z).2; omega), rng_succ]
      · rintro H2 ⟨hD, s2⟩
        have s02 := s1.trans s2
        have k2 := Kt.same hT s02
        have T2 : Tabs Ps H2 := k2.tab
        refine ⟨.ref wa, rfl, .ref Z, rfl, .ref D, rfl, v, rfl, .ref wa, Z, D, v, n, ts, limW g ts.length, rng ts.length, rfl, ⟨hW.tk (Same.tk s02), ok, s2 _ _ hZ, by rw [limW_len]; exact Nat.le_refl _, hD, fun e he => by rw [limW_len]; exact mem_rng.mp he, rng_nd49 _⟩, l120, hP.stay (.same s02), T2, fun H3 k3 => ?_⟩
        have e3 : shownS (d + 1) H2 n ts (limW g ts.length) (rng ts.length) v = shownS (d + 1) H n ts (limW g ts.length) (rng ts.length) v := shown_stay hP (.same s02) ..
        rw [e3]
        exact q H3 (k2.trans k3)
end
/-! ### sorted(t), a tuple of fewer than 64 ints -/
def rSortT (K : PySem.W.Frag) : List V → Hp → VK → Prop := fun vs H Q => ∃ (a : Addr) (ns : List Int), vs = [V.ref a] ∧ SqT K H a (ns.map V.int) ∧ ns.length < 64 ∧
  ∀ (ys : List Int) (p : Addr), ys.Perm ns → ys.Pairwise (· ≤ ·) → H p = none → Q (.ref p) (upd H p (.lst (ys.map V.int)))
theorem cr_sortT {X : Cx} (hc : X.calm = true) : CallR X (.builtin "sorted") (rSortT X.K) := by
  intro pins s σ H vs us Q I rel want
  obtain ⟨a, ns, ex, hq, few, q⟩ := want
  subst ex
  obtain ⟨u, eu, rx⟩ := vals1 rel
  subst eu
  obtain rfl : u = Value.ref a := rx
  obtain ⟨its, rv, tup, small⟩ := I.tuple hq
  have len : its.length = ns.length := by rw [← rv.length, List.length_map]
  refine Calls.call_function_entry PyProof.Rows.kind_sorted PyProof.Rows.plain_sorted PyProof.Rows.entry_sorted (PyProof.Rows.args_sorted1 _) ?_
  unfold Builtin.«sorted»
  refine wpAny_bind (m := checkCount "sorted" 1 1 _) (wpAny_pure ?_)
  obtain ⟨o, ho, hcls, m, hd⟩ := tup
  refine wpAny_bind (wpAny_collect_seq a (.inr rfl) ho hcls hd (fun h' kp => ?_) (by rw [List.size_toArray, len, sizeLine_eq]; omega))
  have hS : IntsAre its.toArray.toList ns := by simpa using rv.ints
  have J : Inv X pins σ H { s with heap := h' } := I.kept (t' := s.toks) kp
  have hal : its.toArray.toList.length = ns.length := by simpa using len
  refine wpAny_bind (wpAny_newList ?_ (by rw [hal, sizeLine_eq]; omega))
  have new : (h'.push (seqObj "list" its.toArray.toList.toArray 0)).get? h'.objs.size = some (seqObj "list" its.toArray.toList.toArray 0) := Heap.get?_push_size _ rfl
  show wpAny _ _ _ _ _ { s with heap := h'.push (seqObj "list" its.toArray.toList.toArray 0) }
  refine wpAny_bind (wpAny_holding (wpAny_call_entry PyProof.Rows.slot_list_sort ⟨_, new, rfl⟩ PyProof.Rows.entry_list_sort
    (PyProof.Rows.list_sort_tree (s := { s with heap := h'.push (seqObj "list" its.toArray.toList.toArray 0) }) new hS (by rw [hal]; exact few) fun out ys o1 o2 o3 => ⟨_, rfl, ?_⟩) (PyProof.Rows.args_list_sort _)))
  obtain ⟨e', he'⟩ := PyProof.Rows.sortedHeap_at (vs := its.toArray.toList) (out := out) new
  have fits : (ys.map V.int).length ≤ sizeLine := by
    rw [List.length_map, o2.length_eq, sizeLine_eq]
    omega
  refine wpAny_pure ⟨_, rfl, .ref h'.objs.size, upd H h'.objs.size (.lst (ys.map V.int)), J.laid (t' := s.toks) (fun b u e => ?_) (Nat.le_refl _)
    (show ObjOk X.prog X.w _ _ _ (.lst (ys.map V.int)) from ⟨fits, out.toList, e', vals_of_ints o1, by rw [Array.toArray_toList]; exact he'⟩), rfl, q ys _ o2 o3 (J.hok.fresh (Nat.le_refl _))⟩
  have lb : b < h'.objs.size := Heap.lt_size e
  rw [PyProof.Rows.sortedHeap_old (Nat.ne_of_lt lb) (by rw [size_push']; exact Nat.lt_succ_of_lt lb)]
  exact Heap.get?_push_of_some _ e
/-! ### the law's own look at rings -/
theorem pair_sort {ys : List Int} {x y : Int} (h : ys.Perm [x, y]) (s : ys.Pairwise (· ≤ ·)) : ys = [min x y, max x y] := by
  have l := h.length_eq
  match ys, l, h, s with
  | [p, q], _, h, s =>
    have h1 : p = x ∨ p = y := by simpa using h.mem_iff.mp (show p ∈ [p, q] by simp)
    have h2 : q = x ∨ q = y := by simpa using h.mem_iff.mp (show q ∈ [p, q] by simp)
    have h3 : x = p ∨ x = q := by simpa using h.mem_iff.mpr (show x ∈ [x, y] by simp)
    have h4 : y = p ∨ y = q := by simpa using h.mem_iff.mpr (show y ∈ [x, y] by simp)
    have h5 : p ≤ q := by simpa using s
    have e1 : p = min x y := by omega
    have e2 : q = max x y := by omega
    rw [← e1, ← e2]
def listD (xs : List Int) : PyData := .list (xs.map PyData.int)
theorem shaped_listD (xs : List Int) : SeqAt.shaped (listD xs) = true := by
  unfold SeqAt.shaped listD
  rw [PyData.canLay0, lay_ints, PyData.depth, deep_ints]
  rfl
theorem eqv_pairs (x y u v : Int) : PyData.eqv (listD [x, y]) (listD [u, v]) = (decide (x = u) && decide (y = v)) := by
  show PyData.eqv (.list [.int x, .int y]) (.list [.int u, .int v]) = _
  rw [PyData.eqv, PyData.eqvAll, PyData.eqv, PyData.eqvAll, PyData.eqv, PyData.eqvAll, Bool.and_true]
  rw [Bool.eq_iff_iff, Bool.and_eq_true, Bool.and_eq_true, beq_iff_eq, beq_iff_eq, decide_eq_true_iff, decide_eq_true_iff]
theorem join_sort (t : Tie) (a b : Int) : (decide (min t.one t.other = min a b) && decide (max t.one t.other = max a b)) = joinB t a b := by
  unfold joinB
  rw [Bool.eq_iff_iff]
  simp only [Bool.and_eq_true, Bool.or_eq_true, decide_eq_true_iff]
  omega
theorem parts_same {H H' : Hp} (s : Same H H') {v : V} (h : Kn H v) : parts H' v = parts H v := by
  cases v with
  | ref a =>
    unfold parts
    rcases h with ⟨xs, h⟩ | ⟨xs, h⟩ | ⟨xs, h⟩
    · simp only [h, s _ _ h]
    · simp only [h, s _ _ h]
    · simp only [h, s _ _ h]
  | _ => rfl
theorem Kn.same {H H' : Hp} (s : Same H H') {v : V} (h : Kn H v) : Kn H' v := by
  cases v with
  | ref a =>
    rcases h with ⟨xs, h⟩ | ⟨xs, h⟩ | ⟨xs, h⟩
    · exact .inl ⟨xs, s _ _ h⟩
    · exact .inr (.inl ⟨xs, s _ _ h⟩)
    · exact .inr (.inr ⟨xs, s _ _ h⟩)
  | _ => exact h
theorem Part2.same {H H' : Hp} (s : Same H H') {v : V} (h : Part2 H v) : Part2 H' v :=
  ⟨Kn.same s h.1, fun ys e => by
    rw [parts_same s h.1] at e
    obtain ⟨h1, h2⟩ := h.2 ys e
    exact ⟨fun y hy => Kn.same s (h1 y hy), h2⟩⟩
theorem in_ints (z : Int) (ns : List Int) : inV (.int z) (ns.map V.int) = decide (z ∈ ns) := by
  rw [Bool.eq_iff_iff, decide_eq_true_iff]
  unfold inV
  rw [List.any_map, List.any_eq_true]
  constructor
  · rintro ⟨x, hx, e⟩
    have e' : (x == z) = true := e
    rw [beq_iff_eq] at e'
    rw [← e']
    exact hx
  · intro h
    exact ⟨z, h, by show (z == z) = true; simp⟩
theorem flat_ints (xs : List Int) : (xs.map V.int).all flatV = true := by
  rw [List.all_map, List.all_eq_true]
  intro x _
  rfl
theorem cut_take {xs : List V} {k : Nat} (h : k ≤ xs.length) : cutV xs none (some (k : Int)) = xs.take k := by
  unfold cutV
  rw [HT.sIx_none, HT.sIx_nat, Nat.min_eq_left h, List.drop_zero]
  rfl
/-! ### papers: the law's own look at a ring -/
def spLIsRing : Sp := fun vs H Q _ => ∃ (n : Int) (tb : Addr) (us : List V) (ts : List Tie) (v : V), vs = [.int n, .ref tb, v] ∧ H tb = some (.tup us) ∧ Paired (TieV H) us ts ∧ WebOk n ts ∧ Thing2 H v ∧ ∀ H', Same H H' → Q (.bl (oddB H n ts v)) H'
theorem odd_no {H : Hp} {n : Int} {ts : List Tie} {v : V} (h : ringB H n ts v = false) : oddB H n ts v = false := by
  unfold oddB
  rw [h]
  rfl
theorem ringB_two {H : Hp} {n : Int} {ts : List Tie} {a : Addr} {pa ta : Addr} {ps es : List V} (ha : H a = some (.tup [.ref pa, .ref ta])) (hp : H pa = some (.tup ps)) (ht : H ta = some (.tup es)) : ringB H n ts (.ref a) = ringP n ts (some ps) (some es) := by
  unfold ringB
  rw [parts_of' ha]
  show ringP n ts (parts H (.ref pa)) (parts H (.ref ta)) = _
  rw [parts_of' hp, parts_of' ht]
theorem ringB_other {H : Hp} {n : Int} {ts : List Tie} {a : Addr} {xs : List V} (ha : H a = some (.tup xs)) (h : ∀ p t, xs ≠ [p, t]) : ringB H n ts (.ref a) = false := by
  unfold ringB
  rw [parts_of' ha]
  match xs, h with
  | [], _ => rfl
  | [_], _ => rfl
  | [p, t], h => exact (h p t rfl).elim
  | _ :: _ :: _ :: _, _ => rfl
theorem ringB_first {H : Hp} {n : Int} {ts : List Tie} {a : Addr} {p t : V} (ha : H a = some (.tup [p, t])) (h : parts H p = none ∨ parts H t = none) : ringB H n ts (.ref a) = false := by
  unfold ringB
  rw [parts_of' ha]
  show ringP n ts (parts H p) (parts H t) = false
  rcases h with h | h <;> rw [h]
  · rfl
  · cases parts H p <;> rfl
theorem unl_ints {lim : Int} {xs : List V} (h : unl lim (some xs) = true) : ∃ ns : List Int, xs = ns.map V.int ∧ (∀ x ∈ ns, 0 ≤ x ∧ x < lim) ∧ ns.Nodup := by
  have h : (xs.all (wbelow lim) && decide xs.Nodup) = true := h
  rw [Bool.and_eq_true] at h
  obtain ⟨ns, rfl, b⟩ := ints_of h.1
  exact ⟨ns, rfl, b, nodup_ints.mp (of_decide_eq_true h.2)⟩
theorem wbelow_parts {lim : Int} {x : V} : wbelow lim x = (isW x && match x with | .int i => !decide (i < 0) && !decide (i ≥ lim) | _ => true) := by
  cases x with
  | int i =>
    show (decide (0 ≤ i) && decide (i < lim)) = (true && (!decide (i < 0) && !decide (i ≥ lim)))
    rw [Bool.true_and, Bool.eq_iff_iff]
    simp only [Bool.and_eq_true, decide_eq_true_iff, Bool.not_eq_true', decide_eq_false_iff_not]
    omega
  | _ => rfl
section
variable {P : Program} {w : World} {K : PySem.W.Frag} {mg : Str → Option Value} {base : Heap}
end
/-! ### papers: the law's own walk: rings -/
theorem PapV.thing_stay {d : Nat} {H H' : Hp} {v : V} (h : PapV d H v) (s : StayP H H') : Thing2 H' v := (h.stay s).thing
theorem Paired.app2F {α β : Type} {R : α → β → Prop} : ∀ {xs : List α} {ys : List β} {us : List α} {vs : List β}, Paired R xs ys → Paired R us vs → Paired R (xs ++ us) (ys ++ vs)
  | _, _, _, _, .nil, h => h
  | _, _, _, _, .cons a t, h => .cons a (Paired.app2F t h)
structure WorldAt (H : Hp) (wv : V) (n : Int) (ts : List Tie) (g : Int → Int) : Prop where
  ex : ∃ (a tb : Addr) (wt : V) (us : List V), wv = .ref a ∧ H a = some (.tup [.int n, .ref tb, wt]) ∧ H tb = some (.tup us) ∧ Paired (TieV H) us ts ∧ Wts H wt (rng ts.length) g
theorem WorldAt.tk {H H' : Hp} {wv : V} {n : Int} {ts : List Tie} {g : Int → Int} (k : Tk H H') (h : WorldAt H wv n ts g) : WorldAt H' wv n ts g := by
  obtain ⟨a, tb, wt, us, e, h1, h2, h3, h4⟩ := h.ex
  exact ⟨a, tb, wt, us, e, k _ _ h1, k _ _ h2, ties_tk k h3, h4.tk k⟩
def TiesAt (H : Hp) (sb : Addr) (su : List Tie) : Prop := ∃ us, H sb = some (.tup us) ∧ Paired (TieV H) us su
theorem TiesAt.tk {H H' : Hp} {sb : Addr} {su : List Tie} (k : Tk H H') (h : TiesAt H sb su) : TiesAt H' sb su := by
  obtain ⟨us, h1, h2⟩ := h
  exact ⟨us, k _ _ h1, ties_tk k h2⟩
def spLWeight : Sp := fun vs H Q _ => (∃ i, vs = [.non, .int i] ∧ Q (.int 1) H) ∨ ∃ a xs i v, vs = [.ref a, .int i] ∧ H a = some (.tup xs) ∧ atI xs i = some v ∧ Q v H
def spLRingsShown : Sp := fun vs H Q _ => ∃ (wv : V) (sb gb rv : Addr) (n : Int) (ts su : List Tie) (g : Int → Int) (given : List Int) (rows : List V) (d : Nat), vs = [wv, .ref sb, .ref gb, .ref rv] ∧ WorldAt H wv n ts g ∧ TiesAt H sb su ∧ WebOk n (ts ++ su) ∧ H gb = some (.tup (given.map V.int)) ∧ H rv = some (.tup rows) ∧ (∀ r ∈ rows, PapV d H r) ∧ ∀ H', Same H H' → Q (optV (ringsS H n (ts ++ su) (limW g ts.length) given rows)) H'
theorem limW_at {g : Int → Int} {m : Nat} {e : Int} (h0 : 0 ≤ e) (h1 : e < (m : Int)) : (limW g m).getD e.toNat 0 = 2 * g e := by
  unfold limW rng
  rw [List.getD_eq_getElem?_getD, List.getElem?_map, List.getElem?_map, List.getElem?_range (by omega)]
  show 2 * g (e.toNat : Int) = 2 * g e
  rw [Int.toNat_of_nonneg h0]
theorem rowR_is {H : Hp} {n : Int} {ts : List Tie} {v : V} {en : List Int} {t : Int} (e : rowR H n ts v = some (en, t)) : ∃ (va ra ta : Addr) (p : V), v = .ref va ∧ H va = some (.tup [.ref ra, .int t]) ∧ H ra = some (.tup [p, .ref ta]) ∧ H ta = some (.tup (en.map V.int)) ∧ 1 ≤ t ∧ (∀ e ∈ en, 0 ≤ e ∧ e < (ts.length : Int)) ∧ en.Nodup := by
  have h : rowOk H n ts 0 [] v = (en.all fun e => decide (e ∈ ([] : List Int)) || decide ((0 : Int) ≤ e)) := by
    unfold rowOk
    rw [e]
    rfl
  cases hb : rowOk H n ts 0 [] v with
  | true =>
    obtain ⟨va, ra, ta, p, en', t', rfl, h1, h2, h3, eR, t1, hen, nen, _, _⟩ := rowOk_is hb
    rw [eR] at e
    obtain ⟨rfl, rfl⟩ := Prod.mk.inj (Option.some.inj e)
    exact ⟨va, ra, ta, p, rfl, h1, h2, h3, t1, hen, nen⟩
  | false =>
    exfalso
    rw [hb] at h
    cases ep : parts H v with
    | none => unfold rowR at e; rw [ep] at e; cases e
    | some xs =>
      cases h2 : lenIs H v 2 with
      | false => rw [rowR_not h2] at e; cases e
      | true =>
        obtain ⟨ys, hy, ly⟩ := len_is h2
        obtain ⟨a, b, rfl⟩ := two_of ly
        rw [rowR_two hy] at e
        cases hw : (wfrom 1 b && oddB H n ts a) with
        | false => rw [hw] at e; cases e
        | true =>
          rw [hw, if_pos rfl] at e
          obtain ⟨e1, _⟩ := Prod.mk.inj (Option.some.inj e)
          rw [Bool.and_eq_true] at hw
          obtain ⟨_, _, _, en', _, _, _, et, hen, _, _⟩ := odd_ties hw.2
          rw [et] at e1
          subst e1
          have : (en'.all fun e => decide (e ∈ ([] : List Int)) || decide ((0 : Int) ≤ e)) = true := by
            rw [List.all_eq_true]
            intro z hz
            rw [decide_eq_true (hen z hz).1, Bool.or_true]
          rw [this] at h
          cases h
section
variable {P : Program} {w : World} {K : PySem.W.Frag} {mg : Str → Option Value} {base : Heap}
set_option maxHeartbeats 4000000 in
theorem ok_l_weight {f : Addr} {fd : FuncData} (F : Fun K "_law_weight" "_law_weight" s_l_weight f fd) : FnOk P w K mg base CX0 1 f fd ["_law_weights", "_law_tie"] spLWeight := by
  refine F.ok sc_l_weight (fun vs H Q E h => ?_) (fun cdv A outer s H vs Q E hr h => ?_)
  · rcases h with ⟨i, rfl, _⟩ | ⟨a, xs, i, v, rfl, _⟩ <;> rfl
  · refine ⟨_, (pss_cons (ps_if (pt_cmpR op_isN (pv 0) pe_non (nomark _))
        (pss_one (ps_ret pe_int))
        pss_nil)
      (pss_one (ps_ret (pe_ix ix_tup (pv 0) (pv 1) (fun _ _ => rfl))))), ?_⟩
    rcases h with ⟨i, rfl, q⟩ | ⟨a, xs, i, v, rfl, h1, h2, q⟩
    · exact ⟨.non, rfl, rfl, _, rfl, q⟩
    · exact ⟨.ref a, rfl, rfl, _, rfl, .ref a, rfl, .int i, rfl, a, xs, i, v, rfl, rfl, SqT.of h1, h2, q⟩
end
/-! ### sorted(t) of a tuple of ints -/
section
open PySem PySem.Spec PyProof.Rows SrtO
variable {prog : Program} {w : World} {A : PySem.Around} {E : Value → Shared → Prop} {s : Shared}
theorem collect_tupT {l : Addr} {vs : List Value} {Q : List Value → Shared → Prop} (hl : s.heap.IsTuple l vs.toArray)
    (h : Q vs { s with heap := (s.heap.push (seqObj "list" #[] 0)).update s.heap.objs.size (Obj.mapSeq (· ++ vs.toArray)) }) (hsz : vs.length ≤ sizeLine) :
    wpAny (model prog w) A (collect (.ref l)) Q E s := by
  obtain ⟨o, ho, hc, n, hd⟩ := id hl
  unfold collect
  refine wpAny_bind (wpAny_runValue (codeAny_builtin entry_proto_collect' ?_))
  show wpAny _ _ (do again (.builtin "list.__iadd__" ⟨[← newList [], .ref l], []⟩)) _ _ s
  refine wpAny_bind (wpAny_newList (wpAny_pure ⟨Code.quiet_builtin _ (by decide +kernel), codeAny_builtin entry_list_iadd' ?_⟩))
  show wpAny _ _ (Builtin.List.listExtendWith (.ref s.heap.objs.size) (.ref l) (.ref s.heap.objs.size)) _ _ { s with heap := s.heap.push (seqObj "list" #[] 0) }
  unfold Builtin.List.listExtendWith
  have ho' : (s.heap.push (seqObj "list" #[] 0)).get? l = some o := Heap.get?_push_of_some _ ho
  refine wpAny_bind (wpAny_typeOf (T := "tuple") ⟨o, ho', hc⟩ ?_)
  have ht : (Value.type "tuple" == Value.type "tuple") = true := by rfl
  rw [if_pos (by rw [ht]; simp)]
  refine wpAny_bind (listItems_at ho' hd ?_)
  refine wpAny_bind (listItems_at (xs := #[]) (n := 0) (Heap.get?_push_size _ rfl) rfl ?_)
  rw [if_neg (by simp)]
  refine wpAny_bind (listUpdate_at (xs := #[]) (n := 0) (Heap.get?_push_size _ rfl) rfl ?_ (Nat.zero_le _) (by show (#[] ++ vs.toArray).size ≤ sizeLine + 1; simp only [Array.size_append, List.size_toArray, List.length_nil]; omega))
  refine wpAny_pure ?_
  show wpAny (model prog w) A (do
      let o ← load s.heap.objs.size
      match o.data with
      | .seq xs _ => pure xs.toList
      | _ => unsupported "internal:collect") Q E { s with heap := (s.heap.push (seqObj "list" #[] 0)).update s.heap.objs.size (Obj.mapSeq (· ++ vs.toArray)) }
  refine wpAny_bind (wpAny_load (get?_update_seq (Heap.get?_push_size _ rfl) _) ?_)
  show wpAny _ _ (pure ((#[] : Array Value) ++ vs.toArray).toList) Q E _
  rw [show ((#[] : Array Value) ++ vs.toArray).toList = vs by simp]
  exact wpAny_pure h
theorem sorted_ordT {l : Addr} {vs : List Value} {ltv : Value → Value → Bool} {Q : Value → Shared → Prop} (O : Swo ltv) (hl : s.heap.IsTuple l vs.toArray) (hz : vs.length ≤ sizeLine)
    (hS : 2 ≤ vs.length → ∀ (h₁ : Heap) (a : Addr), h₁.get? a = some (seqObj "list" vs.toArray 0) → (∀ b o, s.heap.get? b = some o → b ≠ a ∧ h₁.get? b = some o) → SortableO prog w A.in1.in1 { s with heap := h₁ } a vs ltv)
    (h : ∀ out : List Value, Srtd ltv out → Stb ltv out vs → Q (.ref (s.heap.objs.size + 1)) { s with heap := sortedAll s.heap vs out.toArray }) :
    wpAny (model prog w) A (call (.builtin "sorted") [.ref l]) Q E s := by
  refine Calls.call_function_entry kind_sorted plain_sorted entry_sorted (args_sorted1 _) ?_
  unfold Builtin.«sorted»
  refine wpAny_bind (m := checkCount "sorted" 1 1 _) (wpAny_pure ?_)
  refine wpAny_bind (collect_tupT hl ?_ hz)
  refine wpAny_bind (wpAny_newList ?_ hz)
  have hsz : ((s.heap.push (seqObj "list" #[] 0)).update s.heap.objs.size (Obj.mapSeq (· ++ vs.toArray))).objs.size = s.heap.objs.size + 1 := by
    rw [Heap.size_update, size_push']
  have hoL : (((s.heap.push (seqObj "list" #[] 0)).update s.heap.objs.size (Obj.mapSeq (· ++ vs.toArray))).push (seqObj "list" vs.toArray 0)).get? (s.heap.objs.size + 1) = some (seqObj "list" vs.toArray 0) := by
    rw [← hsz]; exact Heap.get?_push_size _ rfl
  have keep : ∀ b o, s.heap.get? b = some o → b ≠ s.heap.objs.size + 1 ∧ (((s.heap.push (seqObj "list" #[] 0)).update s.heap.objs.size (Obj.mapSeq (· ++ vs.toArray))).push (seqObj "list" vs.toArray 0)).get? b = some o := fun b o q => by
    have hlt : b < s.heap.objs.size := Heap.lt_size q
    refine ⟨Nat.ne_of_lt (Nat.lt_succ_of_lt hlt), Heap.get?_push_of_some _ ?_⟩
    rw [Heap.get?_update_ne _ _ _ _ (Nat.ne_of_lt hlt)]
    exact Heap.get?_push_of_some _ q
  show wpAny _ _ _ _ _ { s with heap := ((s.heap.push (seqObj "list" #[] 0)).update s.heap.objs.size (Obj.mapSeq (· ++ vs.toArray))).push (seqObj "list" vs.toArray 0) }
  rw [hsz]
  refine wpAny_bind (wpAny_holding (wpAny_call_entry slot_list_sort ⟨_, hoL, rfl⟩ entry_list_sort (list_sort_ord O hoL hz (fun h2 => hS h2 _ _ hoL keep) fun out hs hb => ⟨_, rfl, ?_⟩) (args_list_sort _)))
  exact wpAny_pure ⟨_, rfl, h out hs hb⟩
end
def rSortedTI (K : PySem.W.Frag) : List V → Hp → VK → Prop := fun vs H Q => ∃ (a : Addr) (ns : List Int), vs = [V.ref a] ∧ SqT K H a (ns.map V.int) ∧
  ∀ (ns' : List Int) (p : Addr), ns'.Perm ns → ns'.Pairwise (· ≤ ·) → H p = none → Q (.ref p) (upd H p (.lst (ns'.map V.int)))
theorem cr_sortedTI {X : Cx} : CallR X (.builtin "sorted") (rSortedTI X.K) := by
  intro pins s σ H vs us Q I r h
  obtain ⟨a, ns, rfl, hs, q⟩ := h
  obtain ⟨its, rv, hl, hz⟩ := I.tuple hs
  rw [Vals.ref1 r]
  have hi := rv.ints
  refine sorted_ordT SrtO.swo_int hl (by rw [← rv.length]; exact hz) (fun h2 h₁ a' _ _ => SrtO.ints_sortable hi h2) fun out h1 h2 => ?_
  obtain ⟨k1, k2, k3⟩ := SrtO.ints_out hi h1 h2
  obtain ⟨ep, he'⟩ := PyProof.Rows.sortedAll_at s.heap its out.toArray
  have hlen : ((out.map SrtO.iv).map V.int).length ≤ sizeLine := by
    rw [List.length_map, k2.length_eq]
    rw [List.length_map] at hz
    exact hz
  exact ⟨.ref _, upd H (s.heap.objs.size + 1) (.lst ((out.map SrtO.iv).map V.int)), I.laid (t' := s.toks) (fun _ _ => PyProof.Rows.sortedAll_old) (Nat.le_succ _) ⟨hlen, out, ep, vals_of_ints k1, he'⟩, rfl, q _ _ k2 k3 (I.hok.fresh (Nat.le_succ _))⟩
/-! ### l.remove(k) where k is there -/
theorem takesNever {X : Cx} : Takes X (fun _ _ _ _ => False) := fun u s' x => by
  obtain ⟨a, B, sI, pins, σ, H, cls, d, e, I, nb, up, sky, na, os, ag, w⟩ := x
  exact w.elim
/-! ### papers: the law's own walk: splits -/
def spLShown : Nat → Sp
  | 0 => fun _ _ _ _ => False
  | d + 1 => fun vs H Q _ => ∃ (wv : V) (sb gb : Addr) (v : V) (n : Int) (ts su : List Tie) (g : Int → Int) (given : List Int), vs = [wv, .ref sb, .ref gb, v] ∧ WorldAt H wv n ts g ∧ TiesAt H sb su ∧ WebOk n (ts ++ su) ∧ (ts ++ su).length + d ≤ 120 ∧ H gb = some (.tup (given.map V.int)) ∧ given.Nodup ∧ (∀ e ∈ given, 0 ≤ e ∧ e < (ts.length : Int)) ∧ PapV d H v ∧ ∀ H', Same H H' → Q (optV (shownS (d + 1) H n (ts ++ su) (limW g ts.length) given v)) H'
def spLSplitShown (d : Nat) : Sp := fun vs H Q _ => ∃ (wv : V) (sb gb rv : Addr) (n : Int) (ts su : List Tie) (g : Int → Int) (given : List Int) (rows : List V), vs = [wv, .ref sb, .ref gb, .ref rv] ∧ WorldAt H wv n ts g ∧ TiesAt H sb su ∧ WebOk n (ts ++ su) ∧ (ts ++ su).length + d ≤ 120 ∧ H gb = some (.tup (given.map V.int)) ∧ given.Nodup ∧ (∀ e ∈ given, 0 ≤ e ∧ e < (ts.length : Int)) ∧ H rv = some (.tup rows) ∧ (∀ r ∈ rows, PapV d H r) ∧ ∀ H', Same H H' → Q (optV (splitS H ts.length given (fun es p => shownS d H n (ts ++ su) (limW g ts.length) es p) rows)) H'
theorem eqv_listI : ∀ xs ys : List Int, PyData.eqvAll (xs.map PyData.int) (ys.map PyData.int) = decide (xs = ys)
  | [], [] => by simp [PyData.eqvAll]
  | [], _ :: _ => by simp [PyData.eqvAll]
  | _ :: _, [] => by simp [PyData.eqvAll]
  | x :: xs, y :: ys => by
    rw [List.map_cons, List.map_cons, PyData.eqvAll, PyData.eqv, eqv_listI xs ys, Bool.eq_iff_iff]
    simp
theorem eqv_listD (xs ys : List Int) : PyData.eqv (listD xs) (listD ys) = decide (xs = ys) := by
  unfold listD
  rw [PyData.eqv, eqv_listI]
theorem chain_of : ∀ {ns : List Int}, ns.Pairwise (· < ·) → chainB (ns.map V.int) = true
  | [], _ => rfl
  | [_], _ => rfl
  | a :: b :: ns, h => by
    show (decide (a < b) && chainB ((b :: ns).map V.int)) = true
    have h' := List.pairwise_cons.mp h
    rw [chain_of h'.2, decide_eq_true (h'.1 b (by simp))]
    rfl
theorem rise_of {H : Hp} {m : Nat} {ta : Addr} {ns : List Int} (h : H ta = some (.tup (ns.map V.int))) (b : ∀ e ∈ ns, 0 ≤ e ∧ e < (m : Int)) (pw : ns.Pairwise (· < ·)) : riseB H m (.ref ta) = true := by
  unfold riseB
  rw [parts_of' h]
  show ((ns.map V.int).all (wbelow m) && chainB (ns.map V.int)) = true
  rw [chain_of pw, Bool.and_true, List.all_eq_true]
  intro x hx
  obtain ⟨z, hz, rfl⟩ := List.mem_map.mp hx
  have := b z hz
  show (decide (0 ≤ z) && decide (z < (m : Int))) = true
  rw [decide_eq_true this.1, decide_eq_true this.2]
  rfl
theorem rowT_noT {H : Hp} {m : Nat} {v a b : V} (h : parts H v = some [a, b]) (e : riseB H m a = false) : rowT H m v = none := by
  rw [rowT_two h, if_neg (by rw [e]; exact Bool.false_ne_true)]
theorem stepT_off {H : Hp} {m : Nat} {given tk : List Int} {tot : Int} {S : List Int → V → Option Int} {r : V} (h : rowT H m r = none) : stepT H m given S (some (tk, tot)) r = none := by
  rw [stepT_some, h]
section
variable {P : Program} {w : World} {K : PySem.W.Frag} {mg : Str → Option Value} {base : Heap}
end
/-! ### papers: both walks told -/
def spTold (Ps : List Addr) (d : Nat) : Sp := fun vs H Q _ => ∃ (wv v : V) (n : Int) (ts : List Tie) (g : Int → Int), vs = [wv, v] ∧ WorldAt H wv n ts g ∧ WebOk n ts ∧ ts.length + d ≤ 200 ∧ PapV d H v ∧ Tabs Ps H ∧ ∀ H', Kt Ps H H' → Q (optV (shownS (d + 1) H n ts (limW g ts.length) (rng ts.length) v)) H'
section
variable {P : Program} {w : World} {K : PySem.W.Frag} {mg : Str → Option Value} {base : Heap}
set_option maxHeartbeats 2000000 in
theorem ok_l_told {f : Addr} {fd : FuncData} {Ps : List Addr} (d : Nat) (F : Fun K "_law_told" "_law_told" s_l_told f fd) (M : Free mg) (D_shown_by : Df P w K mg base (23 + 2 * d) "shown_by" ["web", "weights", "thing"] (spShownBy Ps d)) : FnOk P w K mg base CX0 (23 + 2 * d + 1) f fd ["_law_world", "_law_thing"] (spTold Ps d) := by
  obtain ⟨f_shown_by, fd_shown_by, G_shown_by, g_shown_by, k_shown_by, b_shown_by⟩ := D_shown_by
  refine F.ok sc_l_told (fun vs H Q E h => ?_) (fun cdv A outer s H vs Q E hr h => ?_)
  · obtain ⟨wv, v, n, ts, g, rfl, _⟩ := h
    rfl
  · obtain ⟨wv, v, n, ts, g, rfl, hW, ok, l120, hP, hT, q⟩ := h
    refine ⟨_, (pss_cons (ps_set (i := 2) sc_l_told.nd rfl (.inl rfl) (pe_call G_shown_by (hr.mono (by omega)) (by rfl) g_shown_by k_shown_by b_shown_by .nil pass0 (pa_cons (pe_slice sl_tupU (pv 0) po_none (po_some pe_int)) (pa_cons (pe_ix ix_tup (pv 0) pe_int (fun _ _ => rfl)) (pa_cons (pv 1) pa_nil)))))
      (pss_cons (ps_if (PW.pt (pw_or (pt_val (pe_callB call_isi (by rfl) M.isinstance (by decide +kernel) (pa_cons (pv 2) (pa_cons (pe_bltn (v := .ty "bool") (by rfl) M.bool (by decide +kernel) rfl) pa_nil)))) (pw_or1 (PW.pt (pw_and (pt_cmpR op_notN (pv 2) pe_non (nomark _)) (pw_and1 (pt_not (pt_val (pe_callB call_isi (by rfl) M.isinstance (by decide +kernel) (pa_cons (pv 2) (pa_cons (pe_bltn (v := .ty "int") (by rfl) M.int (by decide +kernel) rfl) pa_nil)))))))))))
        (pss_one (ps_ret pe_str))
        pss_nil)
      (pss_one (ps_ret (pv 2))))), ?_⟩
    obtain ⟨wa, tb, wt, us, rfl, hwa, htb, hpw, hwt⟩ := id hW.ex
    refine ⟨.ref wa, rfl, 2, rfl, wa, _, rfl, hwa, fun r H1 s1 hr1 => ?_⟩
    have hr1 : H1 r = some (.tup [.int n, .ref tb]) := hr1
    have hwa1 := s1 _ _ hwa
    have k1 := Kt.same hT s1
    have T1 : Tabs Ps H1 := k1.tab
    refine ⟨.ref wa, rfl, wa, _, 2, wt, rfl, rfl, SqT.of hwa1, rfl, v, rfl, .ref r, wt, v, n, ts, g, rfl, ⟨r, tb, us, rfl, hr1, s1 _ _ htb, ties_tk (Same.tk s1) hpw⟩, ok, l120, hwt.tk (Same.tk s1), hP.stay (.same s1), T1, fun H2 k2 => ?_⟩
    rw [shown_stay hP (.same s1)]
    have k02 := k1.trans k2
    cases eS : shownS (d + 1) H n ts (limW g ts.length) (rng ts.length) v with
    | none =>
      rw [eS] at q
      obtain ⟨t1, i1, j1⟩ := kn_bool (K := K) (H := H2) (v := .non) trivial
      refine ⟨.non, rfl, .non, _, t1, _, _, rfl, .ty "bool", i1, j1, _, rfl, ?_⟩
      refine ⟨.non, rfl, rfl, _, rfl, ?_⟩
      exact ⟨.non, rfl, q _ k02⟩
    | some k =>
      rw [eS] at q
      obtain ⟨t1, i1, j1⟩ := kn_bool (K := K) (H := H2) (v := .int k) trivial
      obtain ⟨t2, i2, j2⟩ := kn_int (K := K) (H := H2) (v := .int k) trivial
      refine ⟨.int k, rfl, .int k, _, t1, _, _, rfl, .ty "bool", i1, j1, _, rfl, ?_⟩
      refine ⟨.int k, rfl, rfl, _, rfl, ?_⟩
      refine ⟨.int k, rfl, .int k, _, t2, _, _, rfl, .ty "int", i2, j2, _, rfl, ?_⟩
      exact ⟨.int k, rfl, q _ k02⟩
end
/-! ### papers: a way between two places -/
structure WayR (ts : List Tie) (nums : List Int) (n b e : Int) (ps es : List Int) : Prop where
  len : ps.length = es.length + 1
  hd : ps[0]? = some b
  last : ps[es.length]? = some e
  nd : ps.Nodup
  few : ps.length ≤ 41
  rng : ∀ p ∈ ps, 0 ≤ p ∧ p < n
  st : ∀ (k : Nat) (t x y : Int), es[k]? = some t → ps[k]? = some x → ps[k + 1]? = some y → t ∈ nums ∧ joinB (tieAt ts t) x y = true
abbrev CmL := List (Int × Option (Int × Int))
structure Cm (ts : List Tie) (nums : List Int) (b n : Int) (cm : CmL) : Prop where
  hd : cm[0]? = some (b, none)
  nd : (cm.map (·.1)).Nodup
  rng : ∀ c ∈ cm, 0 ≤ c.1 ∧ c.1 < n
  st : ∀ (i : Nat) (q : Int) (o : Option (Int × Int)), 0 < i → cm[i]? = some (q, o) → ∃ (p t : Int) (i' : Nat) (o' : Option (Int × Int)), o = some (p, t) ∧ i' < i ∧ cm[i']? = some (p, o') ∧ t ∈ nums ∧ joinB (tieAt ts t) p q = true
theorem Cm.start {ts : List Tie} {nums : List Int} {b n : Int} (h : 0 ≤ b ∧ b < n) : Cm ts nums b n [(b, none)] := ⟨rfl, by simp, fun c hc => by rw [List.mem_singleton.mp hc]; exact h, fun i q o h0 e => by
  have := (List.getElem?_eq_some_iff.mp e).1
  simp only [List.length_singleton] at this
  omega⟩
theorem Cm.snoc {ts : List Tie} {nums : List Int} {b n : Int} {cm : CmL} (h : Cm ts nums b n cm) {q p t : Int} {i : Nat} {o : Option (Int × Int)} (hq : q ∉ cm.map (·.1)) (r : 0 ≤ q ∧ q < n) (ei : cm[i]? = some (p, o)) (ht : t ∈ nums) (j : joinB (tieAt ts t) p q = true) : Cm ts nums b n (cm ++ [(q, some (p, t))]) := by
  have lpos := (List.getElem?_eq_some_iff.mp h.hd).1
  have il := (List.getElem?_eq_some_iff.mp ei).1
  refine ⟨by rw [List.getElem?_append_left lpos]; exact h.hd, ?_, fun c hc => ?_, fun k x o' k0 e => ?_⟩
  · rw [List.map_append]
    exact List.nodup_append.mpr ⟨h.nd, by simp, fun a ha b hb z => hq (by rw [List.map_singleton, List.mem_singleton] at hb; rw [hb] at z; have z : a = q := z; exact z ▸ ha)⟩
  · rcases List.mem_append.mp hc with z | z
    · exact h.rng c z
    · rw [List.mem_singleton.mp z]
      exact r
  · by_cases kl : k < cm.length
    · rw [List.getElem?_append_left kl] at e
      obtain ⟨p', t', i', o'', h1, h2, h3, h4, h5⟩ := h.st k x o' k0 e
      exact ⟨p', t', i', o'', h1, h2, by rw [List.getElem?_append_left (by omega)]; exact h3, h4, h5⟩
    · have := (List.getElem?_eq_some_iff.mp e).1
      rw [List.length_append, List.length_singleton] at this
      rw [List.getElem?_append_right (by omega), show k - cm.length = 0 by omega] at e
      cases e
      exact ⟨p, t, i, o, rfl, by omega, by rw [List.getElem?_append_left il]; exact ei, ht, j⟩
def CmV (H : Hp) (kv : Key × V) (c : Int × Option (Int × Int)) : Prop := kv.1 = Sum.inl c.1 ∧ match c.2 with
  | none => kv.2 = .non
  | some (p, t) => ∃ a, kv.2 = .ref a ∧ H a = some (.tup [.int p, .int t])
theorem CmV.tk {H H' : Hp} (k : Tk H H') {kv : Key × V} {c : Int × Option (Int × Int)} (h : CmV H kv c) : CmV H' kv c := by
  obtain ⟨q, o⟩ := c
  cases o with
  | none => exact h
  | some x =>
    obtain ⟨h1, a, h2, h3⟩ := h
    exact ⟨h1, a, h2, k _ _ h3⟩
theorem cm_tk {H H' : Hp} (k : Tk H H') {kvs : List (Key × V)} {cm : CmL} (h : Paired (CmV H) kvs cm) : Paired (CmV H') kvs cm := Paired.mono (fun _ _ x => x.tk k) h
theorem cm_val {H : Hp} : ∀ {kvs : List (Key × V)} {cm : CmL}, Paired (CmV H) kvs cm → (cm.map (·.1)).Nodup → ∀ (i : Nat) (q : Int) (o : Option (Int × Int)), cm[i]? = some (q, o) → ∃ v, valV kvs (Sum.inl q) = some v ∧ match o with
    | none => v = .non
    | some (p, t) => ∃ a, v = .ref a ∧ H a = some (.tup [.int p, .int t])
  | _, _, .nil, _, i, _, _, e => by simp at e
  | kv :: kvs, c :: cm, .cons h t, nd, i, q, o, e => by
    rw [List.map_cons] at nd
    have nd' := List.nodup_cons.mp nd
    cases i with
    | zero =>
      cases e
      exact ⟨kv.2, valV_pos (p := kv) h.1, h.2⟩
    | succ i =>
      have e : cm[i]? = some (q, o) := by simpa using e
      have ne : c.1 ≠ q := fun z => nd'.1 (by rw [z]; exact List.mem_map.mpr ⟨_, List.mem_of_getElem? e, rfl⟩)
      obtain ⟨v, h1, h2⟩ := cm_val t nd'.2 i q o e
      refine ⟨v, ?_, h2⟩
      rw [valV_neg]
      · exact h1
      · rw [h.1]
        exact fun z => ne (Sum.inl.inj z)
theorem cm_none {H : Hp} {q : Int} : ∀ {kvs : List (Key × V)} {cm : CmL}, Paired (CmV H) kvs cm → q ∉ cm.map (·.1) → valV kvs (Sum.inl q) = none
  | _, _, .nil, _ => rfl
  | kv :: kvs, c :: cm, .cons h t, no => by
    rw [List.map_cons, List.mem_cons, not_or] at no
    rw [valV_neg]
    · exact cm_none t no.2
    · rw [h.1]
      exact fun z => no.1 (Sum.inl.inj z).symm
theorem cm_some {H : Hp} {q : Int} {kvs : List (Key × V)} {cm : CmL} (h : Paired (CmV H) kvs cm) (nd : (cm.map (·.1)).Nodup) : (valV kvs (Sum.inl q)).isSome = decide (q ∈ cm.map (·.1)) := by
  by_cases hq : q ∈ cm.map (·.1)
  · obtain ⟨c, hc, rfl⟩ := List.mem_map.mp hq
    obtain ⟨i, hi⟩ := List.getElem?_of_mem hc
    obtain ⟨v, h1, _⟩ := cm_val h nd i c.1 c.2 hi
    rw [h1, decide_eq_true hq]
    rfl
  · rw [cm_none h hq, decide_eq_false hq]
    rfl
theorem cm_put {H : Hp} {q : Int} {v : V} {kvs : List (Key × V)} {cm : CmL} (h : Paired (CmV H) kvs cm) (hq : q ∉ cm.map (·.1)) : putK kvs (Sum.inl q) v = kvs ++ [(Sum.inl q, v)] := by
  unfold putK
  rw [valV_any, cm_none h hq, if_neg (by simp)]
/-- a web whose ties may join a place with itself -/
structure WebLo (n : Int) (ts : List Tie) : Prop where
  lo : 1 ≤ n
  hi : n ≤ 40
  few : ts.length ≤ 200
  ok : ∀ t ∈ ts, 0 ≤ t.one ∧ t.one < n ∧ 0 ≤ t.other ∧ t.other < n ∧ True
theorem WebOk.low {n : Int} {ts : List Tie} (h : WebOk n ts) : WebLo n ts := ⟨h.lo, h.hi, h.few, fun t ht => by
  have := h.ok t ht
  exact ⟨this.1, this.2.1, this.2.2.1, this.2.2.2.1, trivial⟩⟩
def spPWay : Sp := fun vs H Q _ => ∃ (tb nl : Addr) (us : List V) (ts : List Tie) (nums : List Int) (b e n : Int), vs = [.ref tb, .ref nl, .int b, .int e] ∧ H tb = some (.tup us) ∧ Paired (TieV H) us ts ∧ WebLo n ts ∧ H nl = some (.lst (nums.map V.int)) ∧ (∀ x ∈ nums, 0 ≤ x ∧ x < (ts.length : Int)) ∧ (0 ≤ b ∧ b < n) ∧ (0 ≤ e ∧ e < n) ∧
  (∀ H', Same H H' → Q .non H') ∧ ∀ r pl el ps es H', Same H H' → H' r = some (.tup [.ref pl, .ref el]) → H' pl = some (.lst (ps.map V.int)) → H' el = some (.lst (es.map V.int)) → WayR ts nums n b e ps es → H pl = none → H el = none → Q (.ref r) H'
section
variable {P : Program} {w : World} {K : PySem.W.Frag} {mg : Str → Option Value} {base : Heap}
end
/-! ### papers: rings drawn -/
theorem cut_dropP {xs : List V} {k : Nat} (h : k ≤ xs.length) : cutV xs (some (k : Int)) none = xs.drop k := by
  unfold cutV
  rw [HT.sIx_none, HT.sIx_nat, Nat.min_eq_left h]
  exact List.take_of_length_le (by rw [List.length_drop]; omega)
theorem cut_initP {xs : List V} (h : 1 ≤ xs.length) : cutV xs none (some (-1)) = xs.take (xs.length - 1) := by
  unfold cutV
  have e : HT.sIx xs.length xs.length (some (-1)) = xs.length - 1 := by
    show (if (-1 : Int) < 0 then ((-1 : Int) + (xs.length : Int)).toNat else min (-1 : Int).toNat xs.length) = _
    rw [if_pos (by decide)]
    omega
  rw [HT.sIx_none, e, List.drop_zero]
  rfl
theorem cut_lastP {xs : List V} (h : 1 ≤ xs.length) : cutV xs (some (-1)) none = xs.drop (xs.length - 1) := by
  unfold cutV
  have e : HT.sIx xs.length 0 (some (-1)) = xs.length - 1 := by
    show (if (-1 : Int) < 0 then ((-1 : Int) + (xs.length : Int)).toNat else min (-1 : Int).toNat xs.length) = _
    rw [if_pos (by decide)]
    omega
  rw [HT.sIx_none, e]
  exact List.take_of_length_le (by rw [List.length_drop]; omega)
def rotI (xs : List Int) (k : Nat) : List Int := xs.drop k ++ xs.take k
theorem rotI_len (xs : List Int) (k : Nat) : (rotI xs k).length = xs.length := by
  unfold rotI
  rw [List.length_append, List.length_drop, List.length_take]
  omega
theorem rotI_perm (xs : List Int) (k : Nat) : (rotI xs k).Perm xs := by
  unfold rotI
  refine List.perm_append_comm.trans ?_
  rw [List.take_append_drop]
def turnP (xs : List Int) (k : Nat) (rev : Bool) : List Int := if rev then (rotI xs k).reverse else rotI xs k
def turnE (xs : List Int) (k : Nat) (rev : Bool) : List Int := if rev then ((rotI xs k).take (xs.length - 1)).reverse ++ (rotI xs k).drop (xs.length - 1) else rotI xs k
theorem turnP_perm (xs : List Int) (k : Nat) (rev : Bool) : (turnP xs k rev).Perm xs := by
  unfold turnP
  cases rev
  · exact rotI_perm xs k
  · exact (List.reverse_perm _).trans (rotI_perm xs k)
theorem turnE_perm (xs : List Int) (k : Nat) (rev : Bool) : (turnE xs k rev).Perm xs := by
  unfold turnE
  cases rev
  · exact rotI_perm xs k
  · refine (List.Perm.append_right _ (List.reverse_perm _)).trans ?_
    rw [List.take_append_drop]
    exact rotI_perm xs k
def PairT (H : Hp) (v : V) (x : List Int × List Int) : Prop := ∃ a pa ta, v = .ref a ∧ H a = some (.tup [.ref pa, .ref ta]) ∧ H pa = some (.tup (x.1.map V.int)) ∧ H ta = some (.tup (x.2.map V.int))
theorem PairT.tk {H H' : Hp} (k : Tk H H') {v : V} {x : List Int × List Int} (h : PairT H v x) : PairT H' v x := by
  obtain ⟨a, pa, ta, e, h1, h2, h3⟩ := h
  exact ⟨a, pa, ta, e, k _ _ h1, k _ _ h2, k _ _ h3⟩
theorem pairs_tk {H H' : Hp} (k : Tk H H') {vs : List V} {xs : List (List Int × List Int)} (h : Paired (PairT H) vs xs) : Paired (PairT H') vs xs := Paired.mono (fun _ _ x => x.tk k) h
def spPTurned : Sp := fun vs H Q _ => ∃ (d c pl tl : Addr) (ps es : List Int), vs = [.ref d, .ref pl, .ref tl] ∧ Deck H d c ∧ H pl = some (.lst (ps.map V.int)) ∧ H tl = some (.lst (es.map V.int)) ∧ 1 ≤ ps.length ∧ ps.length ≤ 60 ∧ es.length = ps.length ∧ pl ≠ c ∧ tl ≠ c ∧
  ∀ v k rev H', k < ps.length → PairT H' v (turnP ps k rev, turnE es k rev) → Deck H' d c → Kp d c H H' → Q v H'
/-- a ring as it is drawn: a way between a tie's places, closed by the tie, told from some place on, either way round -/
def RingD (ts : List Tie) (nums : List Int) (n w : Int) (x : List Int × List Int) : Prop := ∃ (ps es : List Int) (tie : Int) (k : Nat) (rev : Bool) (others : List Int), WayR ts others n (tieAt ts tie).one (tieAt ts tie).other ps es ∧ (∀ o ∈ others, o ∈ nums ∧ o ≠ tie) ∧ tie ∈ nums ∧ k < ps.length ∧ x = (turnP ps k rev, turnE (es ++ [tie]) k rev) ∧ (foesI ts (es ++ [tie]) : Int) % 2 = w
def spPRings : Sp := fun vs H Q _ => ∃ (d c tb nl : Addr) (us : List V) (ts : List Tie) (nums : List Int) (w most n : Int), vs = [.ref d, .ref tb, .ref nl, .int w, .int most] ∧ Deck H d c ∧ H tb = some (.tup us) ∧ Paired (TieV H) us ts ∧ WebLo n ts ∧ H nl = some (.lst (nums.map V.int)) ∧ nl ≠ c ∧ (∀ x ∈ nums, 0 ≤ x ∧ x < (ts.length : Int)) ∧ nums.length ≤ 200 ∧ 0 ≤ most ∧ most ≤ 200 ∧
  ∀ r vs xs H', H' r = some (.lst vs) → Paired (PairT H') vs xs → (∀ x ∈ xs, RingD ts nums n w x) → (vs.length : Int) ≤ most → Deck H' d c → Kp d c H H' → H r = none → Q (.ref r) H'
theorem Deck.nel {H : Hp} {d c l : Addr} {xs : List V} (D : Deck H d c) (h : H l = some (.lst xs)) : l ≠ d := by
  obtain ⟨cells, st, n, e1, e2, e3⟩ := D
  exact fun z => by rw [z, e1] at h; cases h
section
variable {P : Program} {w : World} {K : PySem.W.Frag} {mg : Str → Option Value} {base : Heap}
end
/-! ### papers: a ring that was drawn holds -/
def RingL (ts : List Tie) (ps es : List Int) : Prop := es.length = ps.length ∧ ∀ i, i < ps.length → joinB (tieAt ts (es.getD i 0)) (ps.getD i 0) (ps.getD ((i + 1) % ps.length) 0) = true
theorem joinB_comm (t : Tie) (a b : Int) : joinB t a b = joinB t b a := by
  unfold joinB
  rw [Bool.or_comm]
theorem rotI_getD (xs : List Int) {k i : Nat} (hk : k < xs.length) (hi : i < xs.length) : (rotI xs k).getD i 0 = xs.getD ((i + k) % xs.length) 0 := by
  unfold rotI
  rw [List.getD_eq_getElem?_getD, List.getD_eq_getElem?_getD]
  by_cases h : i < xs.length - k
  · rw [List.getElem?_append_left (by rw [List.length_drop]; exact h), List.getElem?_drop, Nat.mod_eq_of_lt (by omega), Nat.add_comm]
  · rw [List.getElem?_append_right (by rw [List.length_drop]; omega), List.length_drop, List.getElem?_take_of_lt (by omega)]
    have e : (i + k) % xs.length = i - (xs.length - k) := by
      rw [Nat.mod_eq_sub_mod (by omega), Nat.mod_eq_of_lt (by omega)]
      omega
    rw [e]
theorem RingL.rot {ts : List Tie} {ps es : List Int} (h : RingL ts ps es) {k : Nat} (hk : k < ps.length) : RingL ts (rotI ps k) (rotI es k) := by
  have le := h.1
  refine ⟨by rw [rotI_len, rotI_len, le], fun i hi => ?_⟩
  rw [rotI_len] at hi ⊢
  have ml : (i + 1) % ps.length < ps.length := Nat.mod_lt _ (by omega)
  rw [rotI_getD ps hk hi, rotI_getD ps hk ml, rotI_getD es (by omega) (by omega), le]
  have e : ((i + 1) % ps.length + k) % ps.length = ((i + k) % ps.length + 1) % ps.length := by
    rw [Nat.mod_add_mod, Nat.mod_add_mod]
    congr 1
    omega
  rw [e]
  exact h.2 _ (Nat.mod_lt _ (by omega))
theorem revI_getD (xs : List Int) {i : Nat} (hi : i < xs.length) : xs.reverse.getD i 0 = xs.getD (xs.length - 1 - i) 0 := by
  rw [List.getD_eq_getElem?_getD, List.getD_eq_getElem?_getD, List.getElem?_reverse hi]
theorem RingL.rev {ts : List Tie} {ps es : List Int} (h : RingL ts ps es) (l : 1 ≤ ps.length) : RingL ts ps.reverse ((es.take (ps.length - 1)).reverse ++ es.drop (ps.length - 1)) := by
  have le := h.1
  have lt : (es.take (ps.length - 1)).length = ps.length - 1 := by rw [List.length_take]; omega
  refine ⟨by rw [List.length_append, List.length_reverse, List.length_reverse, List.length_drop, lt]; omega, fun i hi => ?_⟩
  rw [List.length_reverse] at hi ⊢
  have ml : (i + 1) % ps.length < ps.length := Nat.mod_lt _ (by omega)
  rw [revI_getD ps hi, revI_getD ps ml]
  by_cases hl : i < ps.length - 1
  · have e1 : ((es.take (ps.length - 1)).reverse ++ es.drop (ps.length - 1)).getD i 0 = es.getD (ps.length - 2 - i) 0 := by
      rw [List.getD_eq_getElem?_getD, List.getD_eq_getElem?_getD, List.getElem?_append_left (by rw [List.length_reverse, lt]; exact hl), List.getElem?_reverse (by rw [lt]; exact hl), lt, List.getElem?_take_of_lt (by omega)]
      congr 2
    have := h.2 (ps.length - 2 - i) (by omega)
    rw [Nat.mod_eq_of_lt (show ps.length - 2 - i + 1 < ps.length by omega)] at this
    rw [e1, Nat.mod_eq_of_lt (show i + 1 < ps.length by omega), joinB_comm, show ps.length - 1 - (i + 1) = ps.length - 2 - i by omega, show ps.length - 1 - i = ps.length - 2 - i + 1 by omega]
    exact this
  · have ei : i = ps.length - 1 := by omega
    have e1 : ((es.take (ps.length - 1)).reverse ++ es.drop (ps.length - 1)).getD i 0 = es.getD (ps.length - 1) 0 := by
      rw [List.getD_eq_getElem?_getD, List.getD_eq_getElem?_getD, List.getElem?_append_right (by rw [List.length_reverse, lt]; omega), List.length_reverse, lt, List.getElem?_drop]
      congr 2
      omega
    have := h.2 (ps.length - 1) (by omega)
    have m0 : (ps.length - 1 + 1) % ps.length = 0 := by rw [show ps.length - 1 + 1 = ps.length by omega, Nat.mod_self]
    rw [m0] at this
    rw [e1, ei, m0, joinB_comm, show ps.length - 1 - 0 = ps.length - 1 by omega, show ps.length - 1 - (ps.length - 1) = 0 by omega]
    exact this
theorem WayR.ring {ts : List Tie} {nums : List Int} {n tie : Int} {ps es : List Int} (W : WayR ts nums n (tieAt ts tie).one (tieAt ts tie).other ps es) : RingL ts ps (es ++ [tie]) := by
  have len := W.len
  refine ⟨by rw [List.length_append, List.length_singleton, len], fun i hi => ?_⟩
  by_cases hl : i < es.length
  · rw [Nat.mod_eq_of_lt (show i + 1 < ps.length by omega)]
    have := (W.st i es[i] ps[i] ps[i + 1] (List.getElem?_eq_getElem hl) (List.getElem?_eq_getElem hi) (List.getElem?_eq_getElem (by omega))).2
    rw [List.getD_eq_getElem?_getD, List.getD_eq_getElem?_getD, List.getD_eq_getElem?_getD, List.getElem?_append_left hl, List.getElem?_eq_getElem hl, List.getElem?_eq_getElem hi, List.getElem?_eq_getElem (show i + 1 < ps.length by omega)]
    exact this
  · have ei : i = es.length := by omega
    subst ei
    rw [show es.length + 1 = ps.length by omega, Nat.mod_self, List.getD_eq_getElem?_getD, List.getD_eq_getElem?_getD, List.getD_eq_getElem?_getD, W.last, W.hd, List.getElem?_append_right (Nat.le_refl _), Nat.sub_self]
    show joinB (tieAt ts tie) (tieAt ts tie).other (tieAt ts tie).one = true
    unfold joinB
    simp
theorem RingD.ringL {x : List Int × List Int} {ts : List Tie} {nums : List Int} {n w : Int} (h : RingD ts nums n w x) : RingL ts x.1 x.2 := by
  obtain ⟨ps, es, tie, k, rev, others, W, ho, ht, kl, rfl, _⟩ := h
  have R := W.ring.rot kl
  show RingL ts (turnP ps k rev) (turnE (es ++ [tie]) k rev)
  unfold turnP turnE
  cases rev with
  | false => exact R
  | true =>
    have := R.rev (by rw [rotI_len]; omega)
    rw [rotI_len] at this
    have e : (es ++ [tie]).length = ps.length := W.ring.1
    show RingL ts (rotI ps k).reverse (((rotI (es ++ [tie]) k).take ((es ++ [tie]).length - 1)).reverse ++ (rotI (es ++ [tie]) k).drop ((es ++ [tie]).length - 1))
    rw [e]
    exact this
theorem RingD.places {x : List Int × List Int} {ts : List Tie} {nums : List Int} {n w : Int} (h : RingD ts nums n w x) : x.1.Nodup ∧ (∀ p ∈ x.1, 0 ≤ p ∧ p < n) := by
  obtain ⟨ps, es, tie, k, rev, others, W, _, _, _, rfl, _⟩ := h
  have pm := turnP_perm ps k rev
  exact ⟨pm.nodup_iff.mpr W.nd, fun p hp => W.rng p (pm.mem_iff.mp hp)⟩
theorem foesI_perm (ts : List Tie) {xs ys : List Int} (h : xs.Perm ys) : foesI ts xs = foesI ts ys := by
  unfold foesI
  exact (h.filter _).length_eq
theorem RingD.foes {x : List Int × List Int} {ts : List Tie} {nums : List Int} {n w : Int} (h : RingD ts nums n w x) : (foesI ts x.2 : Int) % 2 = w := by
  obtain ⟨ps, es, tie, k, rev, others, W, _, _, _, rfl, hw⟩ := h
  show (foesI ts (turnE (es ++ [tie]) k rev) : Int) % 2 = w
  rw [foesI_perm ts (turnE_perm (es ++ [tie]) k rev)]
  exact hw
theorem RingD.two {x : List Int × List Int} {ts : List Tie} {nums : List Int} {n w m : Int} (h : RingD ts nums n w x) (ok : ∀ t ∈ ts, TieOk m t) (hn : ∀ e ∈ nums, 0 ≤ e ∧ e < (ts.length : Int)) : 2 ≤ x.1.length := by
  obtain ⟨ps, es, tie, k, rev, others, W, _, ht, _, rfl, _⟩ := h
  show 2 ≤ (turnP ps k rev).length
  rw [(turnP_perm ps k rev).length_eq]
  have tr := hn tie ht
  have ne := (ok _ (List.mem_of_getElem? (tieAt_get tr.1 tr.2))).2.2.2.2
  refine Classical.byContradiction fun z => ?_
  have len := W.len
  have e0 : es.length = 0 := by omega
  have h1 := W.hd
  have h2 := W.last
  rw [e0] at h2
  rw [h1] at h2
  exact ne (Option.some.inj h2)
theorem unl_of {lim : Int} {xs : List Int} (nd : xs.Nodup) (r : ∀ x ∈ xs, 0 ≤ x ∧ x < lim) : unl lim (some (xs.map V.int)) = true := by
  have h1 : (xs.map V.int).all (wbelow lim) = true := by
    rw [List.all_eq_true]
    intro v hv
    obtain ⟨x, hx, rfl⟩ := List.mem_map.mp hv
    have := r x hx
    show (decide (0 ≤ x) && decide (x < lim)) = true
    rw [decide_eq_true this.1, decide_eq_true this.2]
    rfl
  have h2 : (xs.map V.int).Nodup := by
    refine List.pairwise_map.mpr (nd.imp fun {a b} h z => h (V.int.inj z))
  show ((xs.map V.int).all (wbelow lim) && decide (xs.map V.int).Nodup) = true
  rw [h1, decide_eq_true h2]
  rfl
/-! ### papers: what was drawn shows -/
theorem StayP.kp {d c : Addr} {H H' : Hp} (D : Deck H d c) (D' : Deck H' d c) (k : Kp d c H H') : StayP H H' := fun u hu => by
  cases u with
  | ref a =>
    by_cases ad : a = d
    · subst ad
      obtain ⟨cells, st, n, h1, _⟩ := D
      obtain ⟨cells', st', n', h1', _⟩ := D'
      refine ⟨.inr (.inr ⟨_, h1'⟩), ?_⟩
      unfold parts
      simp only [h1, h1']
    · by_cases ac : a = c
      · subst ac
        obtain ⟨cells, st, n, _, h1, _⟩ := D
        obtain ⟨cells', st', n', _, h1', _⟩ := D'
        refine ⟨.inl ⟨_, h1'⟩, ?_⟩
        unfold parts
        simp only [h1, h1']
      · unfold parts
        rcases hu with ⟨xs, h⟩ | ⟨xs, h⟩ | ⟨xs, h⟩
        · exact ⟨.inl ⟨xs, k _ _ ad ac h⟩, by simp only [h, k _ _ ad ac h]⟩
        · exact ⟨.inr (.inl ⟨xs, k _ _ ad ac h⟩), by simp only [h, k _ _ ad ac h]⟩
        · exact ⟨.inr (.inr ⟨xs, k _ _ ad ac h⟩), by simp only [h, k _ _ ad ac h]⟩
  | _ => exact ⟨hu, rfl⟩
theorem StayP.lst {l : Addr} {H : Hp} {xs ys : List V} (h : H l = some (.lst xs)) : StayP H (upd H l (.lst ys)) := fun u hu => by
  cases u with
  | ref a =>
    by_cases al : a = l
    · subst al
      refine ⟨.inl ⟨_, upd_same⟩, ?_⟩
      unfold parts
      simp only [h, upd_same]
    · refine ⟨?_, by unfold parts; simp only [upd_ne al]⟩
      rcases hu with ⟨zs, h⟩ | ⟨zs, h⟩ | ⟨zs, h⟩
      · exact .inl ⟨zs, (upd_ne al).trans h⟩
      · exact .inr (.inl ⟨zs, (upd_ne al).trans h⟩)
      · exact .inr (.inr ⟨zs, (upd_ne al).trans h⟩)
  | _ => exact ⟨hu, rfl⟩
/-- it shows z, looked at to any depth above k -/
def ShowZ (k : Nat) (H : Hp) (n : Int) (ts : List Tie) (lim given : List Int) (v : V) (z : Int) : Prop := ∀ D, k < D → shownS D H n ts lim given v = some z
theorem ShowZ.stay {e k : Nat} {H H' : Hp} {n : Int} {ts : List Tie} {lim given : List Int} {v : V} {z : Int} (h : ShowZ k H n ts lim given v z) (hv : PapV e H v) (s : StayP H H') : ShowZ k H' n ts lim given v z := fun D hD => by
  rw [shown_stay hv s]
  exact h D hD
theorem ShowZ.mono {k l : Nat} (kl : k ≤ l) {H : Hp} {n : Int} {ts : List Tie} {lim given : List Int} {v : V} {z : Int} (h : ShowZ k H n ts lim given v z) : ShowZ l H n ts lim given v z := fun D hD => h D (by omega)
theorem shown_rings {d : Nat} {H : Hp} {n : Int} {ts : List Tie} {lim given : List Int} {t r : Addr} {vs : List V} (ht : H t = some (.tup [.str "rings", .ref r])) (hr : H r = some (.tup vs)) : shownS (d + 1) H n ts lim given (.ref t) = ringsS H n ts lim given vs := by
  rw [shown_two (parts_of' ht), parts_of' hr]
  rfl
theorem shown_split {d : Nat} {H : Hp} {n : Int} {ts : List Tie} {lim given : List Int} {t r : Addr} {vs : List V} (ht : H t = some (.tup [.str "split", .ref r])) (hr : H r = some (.tup vs)) : shownS (d + 1) H n ts lim given (.ref t) = splitS H lim.length given (fun es p => shownS d H n ts lim es p) vs := by
  rw [shown_two (parts_of' ht), parts_of' hr]
  rfl
theorem ShowZ.rings {H : Hp} {n : Int} {ts : List Tie} {lim given : List Int} {t r : Addr} {vs : List V} {z : Int} (ht : H t = some (.tup [.str "rings", .ref r])) (hr : H r = some (.tup vs)) (h : ringsS H n ts lim given vs = some z) : ShowZ 0 H n ts lim given (.ref t) z := fun D hD => by
  obtain ⟨d, rfl⟩ : ∃ d, D = d + 1 := ⟨D - 1, by omega⟩
  rw [shown_rings ht hr, h]
/-- a row of a split as it is drawn -/
def SplP (e k : Nat) (H : Hp) (n : Int) (ts : List Tie) (lim : List Int) (v : V) (x : List Int × Int) : Prop := ∃ (a ta : Addr) (u : V), v = .ref a ∧ H a = some (.tup [.ref ta, u]) ∧ H ta = some (.tup (x.1.map V.int)) ∧ PapV e H u ∧ ShowZ k H n ts lim x.1 u x.2
theorem SplP.stay {e k : Nat} {H H' : Hp} {n : Int} {ts : List Tie} {lim : List Int} {v : V} {x : List Int × Int} (t : Tk H H') (s : StayP H H') (h : SplP e k H n ts lim v x) : SplP e k H' n ts lim v x := by
  obtain ⟨a, ta, u, rfl, h1, h2, h3, h4⟩ := h
  exact ⟨a, ta, u, rfl, t _ _ h1, t _ _ h2, h3.stay s, h4.stay h3 s⟩
theorem splP_stay {e k : Nat} {H H' : Hp} {n : Int} {ts : List Tie} {lim : List Int} {vs : List V} {xs : List (List Int × Int)} (t : Tk H H') (s : StayP H H') (h : Paired (SplP e k H n ts lim) vs xs) : Paired (SplP e k H' n ts lim) vs xs := Paired.mono (fun _ _ x => x.stay t s) h
theorem rowT_on {H : Hp} {m : Nat} {a ta : Addr} {u : V} {es : List Int} (ha : H a = some (.tup [.ref ta, u])) (ht : H ta = some (.tup (es.map V.int))) (b : ∀ e ∈ es, 0 ≤ e ∧ e < (m : Int)) (pw : es.Pairwise (· < ·)) : rowT H m (.ref a) = some (es, u) := by
  rw [rowT_two (parts_of' ha), if_pos (rise_of ht b pw), parts_of' ht]
  show some ((es.map V.int).map toI, u) = _
  rw [toI_map]
theorem split_fold {e k d : Nat} (kd : k < d) {H : Hp} {n : Int} {ts : List Tie} {lim given : List Int} : ∀ {vs : List V} {xs : List (List Int × Int)} (tk : List Int) (tot : Int), Paired (SplP e k H n ts lim) vs xs → (∀ x ∈ xs, x.1.Pairwise (· < ·) ∧ ∀ e ∈ x.1, (0 ≤ e ∧ e < (lim.length : Int)) ∧ e ∈ given ∧ e ∉ tk) → xs.Pairwise (fun x y => ∀ e ∈ y.1, e ∉ x.1) → vs.foldl (stepT H lim.length given (fun es p => shownS d H n ts lim es p)) (some (tk, tot)) = some (tk ++ xs.flatMap (·.1), tot + (xs.map (·.2)).sum)
  | _, _, tk, tot, .nil, _, _ => by simp
  | v :: vs, x :: xs, tk, tot, .cons r t, hx, pw => by
    obtain ⟨a, ta, u, rfl, h1, h2, h3, h4⟩ := r
    have h0 := hx x List.mem_cons_self
    have pw := List.pairwise_cons.mp pw
    have e1 : stepT H lim.length given (fun es p => shownS d H n ts lim es p) (some (tk, tot)) (.ref a) = some (tk ++ x.1, tot + x.2) := by
      rw [stepT_some, rowT_on h1 h2 (fun e he => (h0.2 e he).1) h0.1]
      show (if x.1.all (fun e => decide (e ∈ given) && !decide (e ∈ tk)) then (match shownS d H n ts lim x.1 u with | none => none | some k => some (tk ++ x.1, tot + k)) else none) = _
      rw [if_pos, h4 d kd]
      rw [List.all_eq_true]
      intro e he
      have := (h0.2 e he).2
      rw [decide_eq_true this.1, decide_eq_false this.2]
      rfl
    rw [List.foldl_cons, e1, split_fold kd _ _ t (fun y hy => ⟨(hx y (List.mem_cons_of_mem _ hy)).1, fun e he => ⟨((hx y (List.mem_cons_of_mem _ hy)).2 e he).1, ((hx y (List.mem_cons_of_mem _ hy)).2 e he).2.1, fun z => (List.mem_append.mp z).elim ((hx y (List.mem_cons_of_mem _ hy)).2 e he).2.2 (pw.1 y hy e he)⟩⟩) pw.2]
    simp only [List.flatMap_cons, List.map_cons, List.sum_cons, List.append_assoc, Int.add_assoc]
structure SplD (m : Nat) (given : List Int) (xs : List (List Int × Int)) : Prop where
  pw : ∀ x ∈ xs, x.1.Pairwise (· < ·)
  mem : ∀ x ∈ xs, ∀ e ∈ x.1, (0 ≤ e ∧ e < (m : Int)) ∧ e ∈ given
  dis : xs.Pairwise (fun x y => ∀ e ∈ y.1, e ∉ x.1)
theorem splitS_on {e k d : Nat} (kd : k < d) {H : Hp} {n : Int} {ts : List Tie} {lim given : List Int} {vs : List V} {xs : List (List Int × Int)} (hp : Paired (SplP e k H n ts lim) vs xs) (hd : SplD lim.length given xs) : splitS H lim.length given (fun es p => shownS d H n ts lim es p) vs = some (xs.map (·.2)).sum := by
  unfold splitS
  rw [split_fold kd [] 0 hp (fun x hx => ⟨hd.pw x hx, fun e he => ⟨(hd.mem x hx e he).1, (hd.mem x hx e he).2, fun z => by cases z⟩⟩) hd.dis]
  show some (0 + (xs.map (·.2)).sum) = _
  rw [Int.zero_add]
theorem ShowZ.split {e k : Nat} {H : Hp} {n : Int} {ts : List Tie} {lim given : List Int} {t r : Addr} {vs : List V} {xs : List (List Int × Int)} (ht : H t = some (.tup [.str "split", .ref r])) (hr : H r = some (.tup vs)) (hp : Paired (SplP e k H n ts lim) vs xs) (hd : SplD lim.length given xs) : ShowZ (k + 1) H n ts lim given (.ref t) (xs.map (·.2)).sum := fun D hD => by
  obtain ⟨d, rfl⟩ : ∃ d, D = d + 1 := ⟨D - 1, by omega⟩
  rw [shown_split ht hr, splitS_on (by omega) hp hd]
theorem ShowZ.case {k : Nat} {H : Hp} {n : Int} {ts : List Tie} {lim given : List Int} {t : Addr} {x y : Int} {a b : V} {z1 z2 : Int} (ht : H t = some (.tup [.str "case", .int x, .int y, a, b])) (hx : 0 ≤ x ∧ x < n) (hy : 0 ≤ y ∧ y < n) (xy : x ≠ y) (h1 : ShowZ k H n (ts ++ [⟨x, y, false⟩]) lim given a z1) (h2 : ShowZ k H n (ts ++ [⟨x, y, true⟩]) lim given b z2) : ShowZ (k + 1) H n ts lim given (.ref t) (min z1 z2) := fun D hD => by
  obtain ⟨d, rfl⟩ : ∃ d, D = d + 1 := ⟨D - 1, by omega⟩
  rw [shown_five (parts_of' ht), if_pos rfl, caseS_on]
  · show minO (shownS d H n (ts ++ [⟨x, y, false⟩]) lim given a) (shownS d H n (ts ++ [⟨x, y, true⟩]) lim given b) = _
    rw [h1 d (by omega), h2 d (by omega)]
    rfl
  · unfold unlB
    show ((decide (0 ≤ x) && decide (x < n)) && ((decide (0 ≤ y) && decide (y < n)) && !decide (V.int x = V.int y))) = true
    rw [decV, decide_eq_true hx.1, decide_eq_true hx.2, decide_eq_true hy.1, decide_eq_true hy.2, decide_eq_false xy]
    rfl
theorem WebOk.snoc {n : Int} {ts su : List Tie} {x y : Int} {kd : Bool} (h : WebOk n (ts ++ su)) (l : (ts ++ su).length < 200) (hx : 0 ≤ x ∧ x < n) (hy : 0 ≤ y ∧ y < n) (xy : x ≠ y) : WebOk n (ts ++ (su ++ [⟨x, y, kd⟩])) := by
  rw [← List.append_assoc]
  refine ⟨h.lo, h.hi, by rw [List.length_append, List.length_singleton]; omega, fun t ht => ?_⟩
  rcases List.mem_append.mp ht with z | z
  · exact h.ok t z
  · rw [List.mem_singleton.mp z]
    exact ⟨hx.1, hx.2, hy.1, hy.2, xy⟩
/-! ### k50: great webs, the mathematics -/
theorem row_of {H : Hp} {n : Int} {ts : List Tie} {a rg pa ta : Addr} {ps es : List Int} {t : Int} (ha : H a = some (.tup [.ref rg, .int t])) (hrg : H rg = some (.tup [.ref pa, .ref ta])) (hpa : H pa = some (.tup (ps.map V.int))) (hta : H ta = some (.tup (es.map V.int))) (pnd : ps.Nodup) (prg : ∀ p ∈ ps, 0 ≤ p ∧ p < n)
    (end_ : es.Nodup) (erg : ∀ e ∈ es, 0 ≤ e ∧ e < (ts.length : Int)) (two : 2 ≤ ps.length) (rl : RingL ts ps es) (fo : foesI ts es % 2 = 1) (t1 : 1 ≤ t) : rowR H n ts (.ref a) = some (es, t) := by
  have e1 : tiesOf H (.ref rg) = es := by
    unfold tiesOf
    rw [parts_of' hrg]
    show ((parts H (.ref ta)).getD []).map toI = _
    rw [parts_of' hta]
    exact toI_map _
  have e2 : oddB H n ts (.ref rg) = true := by
    unfold oddB ringB
    rw [parts_of' hrg]
    show (ringP n ts (parts H (.ref pa)) (parts H (.ref ta)) && (match parts H (.ref ta) with | some es => decide (foesI ts (es.map toI) % 2 = 1) | none => false)) = true
    rw [parts_of' hpa, parts_of' hta]
    show (ringP n ts (some (ps.map V.int)) (some (es.map V.int)) && decide (foesI ts ((es.map V.int).map toI) % 2 = 1)) = true
    rw [toI_map, Bool.and_eq_true, decide_eq_true_iff]
    refine ⟨?_, fo⟩
    show (unl n (some (ps.map V.int)) && (unl ts.length (some (es.map V.int)) && (decide (2 ≤ (ps.map V.int).length) && (decide ((ps.map V.int).length = (es.map V.int).length) && ringI ts ((ps.map V.int).map toI) ((es.map V.int).map toI))))) = true
    rw [toI_map, toI_map, List.length_map, List.length_map, Bool.and_eq_true, Bool.and_eq_true, Bool.and_eq_true, Bool.and_eq_true, decide_eq_true_iff, decide_eq_true_iff]
    refine ⟨unl_of pnd prg, unl_of end_ erg, two, rl.1.symm, ?_⟩
    unfold ringI
    rw [List.all_eq_true]
    intro i hi
    have := List.mem_range.mp hi
    rw [rl.1] at this
    exact rl.2 i this
  unfold FF.rowR
  rw [parts_of' ha]
  show (if decide (1 ≤ t) && oddB H n ts (.ref rg) then some (tiesOf H (.ref rg), t) else none) = _
  rw [e2, e1, decide_eq_true t1]
  rfl
/-- an even ring shows nothing -/
theorem row_even {H : Hp} {n : Int} {ts : List Tie} {a rg pa ta : Addr} {ps es : List Int} {t : Int} (ha : H a = some (.tup [.ref rg, .int t])) (hrg : H rg = some (.tup [.ref pa, .ref ta])) (hta : H ta = some (.tup (es.map V.int))) (_hpa : H pa = some (.tup (ps.map V.int))) (fo : foesI ts es % 2 = 0) : rowR H n ts (.ref a) = none := by
  have e2 : oddB H n ts (.ref rg) = false := by
    unfold oddB
    rw [parts_of' hrg]
    show (ringB H n ts (.ref rg) && (match parts H (.ref ta) with | some es => decide (foesI ts (es.map toI) % 2 = 1) | none => false)) = false
    rw [parts_of' hta]
    show (ringB H n ts (.ref rg) && decide (foesI ts ((es.map V.int).map toI) % 2 = 1)) = false
    rw [toI_map, decide_eq_false (by omega), Bool.and_false]
  unfold FF.rowR
  rw [parts_of' ha]
  show (if decide (1 ≤ t) && oddB H n ts (.ref rg) then some (tiesOf H (.ref rg), t) else none) = _
  rw [e2, Bool.and_false]
  rfl
theorem tieAt_app {ts : List Tie} (su : List Tie) {e : Int} (h0 : 0 ≤ e) (h1 : e < (ts.length : Int)) : tieAt (ts ++ su) e = tieAt ts e := by
  unfold tieAt
  rw [List.getD_eq_getElem?_getD, List.getD_eq_getElem?_getD, List.getElem?_append_left (by omega)]
theorem getD_mem {xs : List Int} {i : Nat} (h : i < xs.length) : xs.getD i 0 ∈ xs := by
  rw [List.getD_eq_getElem?_getD, List.getElem?_eq_getElem h]
  exact List.getElem_mem h
theorem RingL.app {ts : List Tie} {ps es : List Int} (h : RingL ts ps es) (b : ∀ e ∈ es, 0 ≤ e ∧ e < (ts.length : Int)) (su : List Tie) : RingL (ts ++ su) ps es := by
  refine ⟨h.1, fun i hi => ?_⟩
  have := b _ (getD_mem (xs := es) (i := i) (by rw [h.1]; exact hi))
  rw [tieAt_app su this.1 this.2]
  exact h.2 i hi
theorem foesI_app {ts : List Tie} {es : List Int} (b : ∀ e ∈ es, 0 ≤ e ∧ e < (ts.length : Int)) (su : List Tie) : foesI (ts ++ su) es = foesI ts es := by
  unfold foesI
  congr 1
  refine List.filter_congr fun e he => ?_
  rw [tieAt_app su (b e he).1 (b e he).2]
/-- a web that was drawn: a ring round all places, and c ties beside the first ones -/
structure W50 (n c : Nat) (ts : List Tie) (g : Int → Int) : Prop where
  n2 : 2 ≤ n
  n40 : n ≤ 40
  cn : c ≤ n
  sm : n + c ≤ 120
  len : ts.length = n + c
  ok : WebOk n ts
  rl : RingL ts (rng n) (rng n)
  odd : foesI ts (rng n) % 2 = 1
  bes : ∀ k : Nat, k < c → (tieAt ts ((n + k : Nat) : Int)).one = (tieAt ts (k : Nat)).other ∧ (tieAt ts ((n + k : Nat) : Int)).other = (tieAt ts (k : Nat)).one ∧ (tieAt ts ((n + k : Nat) : Int)).foe = !(tieAt ts (k : Nat)).foe
  g1 : ∀ e : Int, 0 ≤ e → e < (ts.length : Int) → 1 ≤ g e ∧ g e ≤ 10 ^ 30
theorem ringsS_one {H : Hp} {n : Int} {ts : List Tie} {lim given : List Int} {r : V} {es : List Int} {m : Int} (e : rowR H n ts r = some (es, m)) (gv : ∀ x ∈ es, x ∈ given ∨ (lim.length : Int) ≤ x) (ft : ∀ x ∈ es, (lim.length : Int) ≤ x ∨ m ≤ lim.getD x.toNat 0) : ringsS H n ts lim given [r] = some ((m + 1) / 2) := by
  have e1 : [r].foldl (stepR H n ts) (some []) = some [(es, m)] := by
    show stepR H n ts (some []) r = _
    show (match rowR H n ts r with | none => none | some x => some ([] ++ [x])) = _
    rw [e]
    rfl
  unfold ringsS
  rw [e1]
  have hg : givR lim.length given [(es, m)] = true := by
    unfold givR
    rw [List.all_eq_true]
    intro x hx
    rw [List.mem_singleton.mp hx, List.all_eq_true]
    intro y hy
    rw [Bool.or_eq_true, decide_eq_true_iff, decide_eq_true_iff]
    exact gv y hy
  have hf : fitR lim [(es, m)] = true := by
    unfold fitR
    rw [List.all_eq_true]
    intro x hx
    rw [List.mem_singleton.mp hx, List.all_eq_true]
    intro y hy
    rw [Bool.or_eq_true, decide_eq_true_iff, decide_eq_true_iff]
    refine (ft y hy).imp_right fun h => ?_
    have : loadR [(es, m)] y = m := by
      show ((if y ∈ es then m else 0) + 0) = m
      rw [if_pos hy, Int.add_zero]
    rw [this]
    exact h
  show (if givR lim.length given [(es, m)] && fitR lim [(es, m)] then some ((totR [(es, m)] + 1) / 2) else none) = _
  rw [hg, hf]
  show some ((m + 0 + 1) / 2) = _
  rw [Int.add_zero]
theorem ringsS_over {H : Hp} {n : Int} {ts : List Tie} {lim given : List Int} {r : V} {es : List Int} {m y : Int} (e : rowR H n ts r = some (es, m)) (hy : y ∈ es) (yl : y < (lim.length : Int)) (over : lim.getD y.toNat 0 < m) : ringsS H n ts lim given [r] = none := by
  have e1 : [r].foldl (stepR H n ts) (some []) = some [(es, m)] := by
    show (match rowR H n ts r with | none => none | some x => some ([] ++ [x])) = _
    rw [e]
    rfl
  unfold ringsS
  rw [e1]
  have hf : fitR lim [(es, m)] = false := by
    rw [Bool.eq_false_iff]
    intro z
    unfold fitR at z
    rw [List.all_eq_true] at z
    have z := z _ List.mem_cons_self
    rw [List.all_eq_true] at z
    have z := z y hy
    rw [Bool.or_eq_true, decide_eq_true_iff, decide_eq_true_iff] at z
    have : loadR [(es, m)] y = m := by
      show ((if y ∈ es then m else 0) + 0) = m
      rw [if_pos hy, Int.add_zero]
    rw [this] at z
    omega
  show (if givR lim.length given [(es, m)] && fitR lim [(es, m)] then some ((totR [(es, m)] + 1) / 2) else none) = _
  rw [hf, Bool.and_false]
  rfl
theorem limW_get (g : Int → Int) {m : Nat} {e : Int} (h0 : 0 ≤ e) (h1 : e < (m : Int)) : (limW g m).getD e.toNat 0 = 2 * g e := by
  unfold limW rng
  rw [List.map_map, List.getD_eq_getElem?_getD, List.getElem?_map, List.getElem?_range (by omega)]
  show 2 * g ((e.toNat : Nat) : Int) = _
  rw [Int.toNat_of_nonneg h0]
/-! ### the rows beside -/
def besR (g : Int → Int) (n c : Nat) : List (List Int × Int) := (List.range c).map fun k : Nat => ([(k : Int), ((n + k : Nat) : Int)], 2 * min (g (k : Nat)) (g ((n + k : Nat) : Int)))
def besS (g : Int → Int) (n c : Nat) : Int := ((List.range c).map fun k : Nat => min (g (k : Nat)) (g ((n + k : Nat) : Int))).sum
theorem besR_succ (g : Int → Int) (n c : Nat) : besR g n (c + 1) = besR g n c ++ [([(c : Int), ((n + c : Nat) : Int)], 2 * min (g (c : Nat)) (g ((n + c : Nat) : Int)))] := by
  unfold besR
  rw [List.range_succ, List.map_append]
  rfl
theorem besS_succ (g : Int → Int) (n c : Nat) : besS g n (c + 1) = besS g n c + min (g (c : Nat)) (g ((n + c : Nat) : Int)) := by
  unfold besS
  rw [List.range_succ, List.map_append, List.sum_append]
  show _ + (min (g (c : Nat)) (g ((n + c : Nat) : Int)) + 0) = _
  rw [Int.add_zero]
theorem besR_tot (g : Int → Int) (n : Nat) : ∀ c : Nat, totR (besR g n c) = 2 * besS g n c
  | 0 => rfl
  | c + 1 => by
    rw [besR_succ, totR_snoc, besR_tot g n c, besS_succ]
    show _ + 2 * min _ _ = _
    omega
theorem besR_load (g : Int → Int) (n : Nat) : ∀ c : Nat, c ≤ n → (∀ e : Int, loadR (besR g n c) e = if 0 ≤ e ∧ e < (c : Int) then 2 * min (g e) (g (n + e)) else if (n : Int) ≤ e ∧ e < ((n + c : Nat) : Int) then 2 * min (g (e - n)) (g e) else 0)
  | 0, _, e => by
    rw [if_neg (by omega), if_neg (by omega)]
    rfl
  | c + 1, h, e => by
    rw [besR_succ, loadR_snoc, besR_load g n c (by omega) e]
    show _ + (if e ∈ [(c : Int), ((n + c : Nat) : Int)] then 2 * min (g (c : Nat)) (g ((n + c : Nat) : Int)) else 0) = _
    by_cases h1 : e = (c : Int)
    · rw [if_pos (show e ∈ [(c : Int), ((n + c : Nat) : Int)] by rw [h1]; exact List.mem_cons_self), if_neg (by omega), if_neg (by omega), if_pos (by omega), h1, Int.zero_add, show ((n : Int) + (c : Int)) = ((n + c : Nat) : Int) by omega]
    · by_cases h2 : e = ((n + c : Nat) : Int)
      · rw [if_pos (show e ∈ [(c : Int), ((n + c : Nat) : Int)] by rw [h2]; simp), if_neg (by omega), if_neg (by omega), if_neg (by omega), if_pos (by omega), h2, Int.zero_add, show (((n + c : Nat) : Int) - (n : Int)) = (c : Int) by omega]
      · rw [if_neg (show e ∉ [(c : Int), ((n + c : Nat) : Int)] by simp only [List.mem_cons, List.not_mem_nil, or_false]; omega), Int.add_zero]
        by_cases h3 : 0 ≤ e ∧ e < (c : Int)
        · rw [if_pos h3, if_pos (by omega)]
        · rw [if_neg h3, if_neg (show ¬ (0 ≤ e ∧ e < ((c + 1 : Nat) : Int)) by omega)]
          by_cases h4 : (n : Int) ≤ e ∧ e < ((n + c : Nat) : Int)
          · rw [if_pos h4, if_pos (by omega)]
          · rw [if_neg h4, if_neg (by omega)]
/-- a row beside, as it lies there -/
def BesV (H : Hp) (g : Int → Int) (ts : List Tie) (n : Nat) (v : V) (k : Nat) : Prop := ∃ a rg pa ta, v = .ref a ∧ H a = some (.tup [.ref rg, .int (2 * min (g (k : Nat)) (g ((n + k : Nat) : Int)))]) ∧ H rg = some (.tup [.ref pa, .ref ta]) ∧ H pa = some (.tup ([(tieAt ts (k : Nat)).one, (tieAt ts (k : Nat)).other].map V.int)) ∧ H ta = some (.tup ([(k : Int), ((n + k : Nat) : Int)].map V.int))
theorem BesV.tk {H H' : Hp} {g : Int → Int} {ts : List Tie} {n k : Nat} {v : V} (t : Tk H H') (h : BesV H g ts n v k) : BesV H' g ts n v k := by
  obtain ⟨a, rg, pa, ta, e, h1, h2, h3, h4⟩ := h
  exact ⟨a, rg, pa, ta, e, t _ _ h1, t _ _ h2, t _ _ h3, t _ _ h4⟩
theorem W50.tie {n c : Nat} {ts : List Tie} {g : Int → Int} (w : W50 n c ts g) {e : Int} (h0 : 0 ≤ e) (h1 : e < (ts.length : Int)) : TieOk n (tieAt ts e) := by
  have hm : tieAt ts e ∈ ts := by
    unfold tieAt
    rw [List.getD_eq_getElem?_getD, List.getElem?_eq_getElem (by omega)]
    exact List.getElem_mem (by omega)
  exact w.ok.ok _ hm
theorem BesV.row {H : Hp} {n c k : Nat} {ts : List Tie} {g : Int → Int} {v : V} (w : W50 n c ts g) (h : BesV H g ts n v k) (hk : k < c) (su : List Tie) : rowR H n (ts ++ su) v = some ([(k : Int), ((n + k : Nat) : Int)], 2 * min (g (k : Nat)) (g ((n + k : Nat) : Int))) := by
  obtain ⟨a, rg, pa, ta, rfl, h1, h2, h3, h4⟩ := h
  have cn := w.cn
  have ln := w.len
  have b : ∀ e ∈ [(k : Int), ((n + k : Nat) : Int)], 0 ≤ e ∧ e < (ts.length : Int) := fun e he => by
    simp only [List.mem_cons, List.not_mem_nil, or_false] at he
    omega
  obtain ⟨a0, a1, b0, b1, ne⟩ := w.tie (e := (k : Nat)) (by omega) (by omega)
  obtain ⟨e1, e2, e3⟩ := w.bes k hk
  have g1 := (w.g1 (k : Nat) (by omega) (by omega)).1
  have g2 := (w.g1 ((n + k : Nat) : Int) (by omega) (by omega)).1
  refine row_of h1 h2 h3 h4 ?_ ?_ ?_ (fun e he => ?_) (by show 2 ≤ 2; omega) (RingL.app (ps := [(tieAt ts (k : Nat)).one, (tieAt ts (k : Nat)).other]) (es := [(k : Int), ((n + k : Nat) : Int)]) ⟨rfl, fun i hi => ?_⟩ b su) ?_ (by omega)
  · simp only [List.nodup_cons, List.mem_singleton, List.not_mem_nil, not_false_iff, List.nodup_nil, and_true]
    exact ne
  · intro p hp
    simp only [List.mem_cons, List.not_mem_nil, or_false] at hp
    rcases hp with rfl | rfl
    · exact ⟨a0, a1⟩
    · exact ⟨b0, b1⟩
  · simp only [List.nodup_cons, List.mem_singleton, List.not_mem_nil, not_false_iff, List.nodup_nil, and_true]
    have := w.n2
    omega
  · have := b e he
    rw [List.length_append]
    omega
  · have hi : i < 2 := hi
    have h01 : i = 0 ∨ i = 1 := by omega
    rcases h01 with z | z <;> subst z
    · show joinB (tieAt ts (k : Nat)) (tieAt ts (k : Nat)).one (tieAt ts (k : Nat)).other = true
      unfold joinB
      rw [decide_eq_true rfl, decide_eq_true rfl]
      rfl
    · have e0 : (1 + 1) % [(tieAt ts (k : Nat)).one, (tieAt ts (k : Nat)).other].length = 0 := by simp
      rw [e0]
      show joinB (tieAt ts ((n + k : Nat) : Int)) (tieAt ts (k : Nat)).other (tieAt ts (k : Nat)).one = true
      unfold joinB
      rw [decide_eq_true e1, decide_eq_true e2]
      rfl
  · rw [foesI_app b su]
    unfold foesI
    rw [List.filter_cons, List.filter_cons, List.filter_nil, e3]
    cases (tieAt ts (k : Nat)).foe <;> rfl
theorem bes_fold {H : Hp} {n c : Nat} {ts : List Tie} {g : Int → Int} (w : W50 n c ts g) (su : List Tie) {vs : List V} (hv : Paired (BesV H g ts n) vs (List.range c)) : ∀ j : Nat, j ≤ c → (vs.take j).foldl (stepR H n (ts ++ su)) (some []) = some (besR g n j)
  | 0, _ => rfl
  | j + 1, hj => by
    have lv : vs.length = c := by rw [Paired.length hv, List.length_range]
    have ev : vs[j]? = some (vs[j]'(by omega)) := List.getElem?_eq_getElem _
    obtain ⟨k, ek, hk⟩ := Paired.at hv ev
    rw [List.getElem?_range (by omega)] at ek
    obtain rfl := Option.some.inj ek
    rw [fold_at ev, bes_fold w su hv j (by omega)]
    show (match rowR H n (ts ++ su) (vs[j]'(by omega)) with | none => none | some x => some (besR g n j ++ [x])) = _
    rw [hk.row w (by omega) su, besR_succ]
theorem bes_shows {H : Hp} {n c : Nat} {ts : List Tie} {g : Int → Int} (w : W50 n c ts g) (su : List Tie) {vs : List V} (hv : Paired (BesV H g ts n) vs (List.range c)) : ringsS H n (ts ++ su) (limW g ts.length) (rng ts.length) vs = some (besS g n c) := by
  have lv : vs.length = c := by rw [Paired.length hv, List.length_range]
  have e := bes_fold w su hv c (Nat.le_refl _)
  rw [List.take_of_length_le (by omega)] at e
  have cn := w.cn
  have ln := w.len
  have mem : ∀ x ∈ besR g n c, ∀ e ∈ x.1, 0 ≤ e ∧ e < (ts.length : Int) := fun x hx e he => by
    unfold besR at hx
    obtain ⟨k, hk, rfl⟩ := List.mem_map.mp hx
    have hk := List.mem_range.mp hk
    have he : e ∈ [(k : Int), ((n + k : Nat) : Int)] := he
    simp only [List.mem_cons, List.not_mem_nil, or_false] at he
    omega
  unfold ringsS
  rw [e]
  have hg : givR (limW g ts.length).length (rng ts.length) (besR g n c) = true := by
    unfold givR
    rw [List.all_eq_true]
    intro x hx
    rw [List.all_eq_true]
    intro y hy
    rw [Bool.or_eq_true, decide_eq_true_iff]
    exact .inl (mem_rng.mpr (mem x hx y hy))
  have hf : fitR (limW g ts.length) (besR g n c) = true := by
    unfold fitR
    rw [List.all_eq_true]
    intro x hx
    rw [List.all_eq_true]
    intro y hy
    obtain ⟨y0, y1⟩ := mem x hx y hy
    rw [Bool.or_eq_true, decide_eq_true_iff, decide_eq_true_iff]
    refine .inr ?_
    rw [limW_get g y0 y1, besR_load g n c cn y]
    have gy := (w.g1 y y0 y1).1
    by_cases h1 : 0 ≤ y ∧ y < (c : Int)
    · rw [if_pos h1]
      omega
    · rw [if_neg h1]
      split <;> omega
  show (if givR (limW g ts.length).length (rng ts.length) (besR g n c) && fitR (limW g ts.length) (besR g n c) then some ((totR (besR g n c) + 1) / 2) else none) = _
  rw [hg, hf, besR_tot]
  show some ((2 * besS g n c + 1) / 2) = _
  congr 1
  omega
/-- the ring round all places, from any one on, either way about -/
def About (n : Nat) (ps es : List Int) : Prop := ∃ (k : Nat) (rev : Bool), k < n ∧ ps = turnP (rng n) k rev ∧ es = turnE (rng n) k rev
theorem About.ring {n c : Nat} {ts : List Tie} {g : Int → Int} {ps es : List Int} (h : About n ps es) (w : W50 n c ts g) : RingL ts ps es ∧ ps.Perm (rng n) ∧ es.Perm (rng n) := by
  obtain ⟨k, rev, hk, rfl, rfl⟩ := h
  have r := w.rl.rot (k := k) (by rw [rng_length]; exact hk)
  refine ⟨?_, turnP_perm _ _ _, turnE_perm _ _ _⟩
  unfold turnP turnE
  cases rev with
  | false => exact r
  | true =>
    have := r.rev (by rw [rotI_len, rng_length]; omega)
    rw [rotI_len] at this
    exact this
/-- a row of the whole ring -/
def WholeV (H : Hp) (n : Nat) (v : V) (m : Int) : Prop := ∃ (t r a rg pa ta : Addr) (ps es : List Int), v = .ref t ∧ H t = some (.tup [.str "rings", .ref r]) ∧ H r = some (.tup [.ref a]) ∧ H a = some (.tup [.ref rg, .int m]) ∧ H rg = some (.tup [.ref pa, .ref ta]) ∧ H pa = some (.tup (ps.map V.int)) ∧ H ta = some (.tup (es.map V.int)) ∧ About n ps es
theorem whole_row {H : Hp} {n c : Nat} {ts : List Tie} {g : Int → Int} (w : W50 n c ts g) (su : List Tie) {a rg pa ta : Addr} {ps es : List Int} {m : Int} (ha : H a = some (.tup [.ref rg, .int m])) (hrg : H rg = some (.tup [.ref pa, .ref ta])) (hpa : H pa = some (.tup (ps.map V.int))) (hta : H ta = some (.tup (es.map V.int))) (ab : About n ps es) (m1 : 1 ≤ m) : rowR H n (ts ++ su) (.ref a) = some (es, m) := by
  obtain ⟨rl, pp, pe⟩ := ab.ring w
  have ln := w.len
  have nd : (rng n).Nodup := (rng_rising n).imp fun {a b} h => by omega
  have b : ∀ e ∈ es, 0 ≤ e ∧ e < (ts.length : Int) := fun e he => by
    have := mem_rng.mp (pe.mem_iff.mp he)
    omega
  refine row_of ha hrg hpa hta (pp.nodup_iff.mpr nd) (fun p hp => mem_rng.mp (pp.mem_iff.mp hp)) (pe.nodup_iff.mpr nd) (fun e he => by have := b e he; rw [List.length_append]; omega) (by rw [pp.length_eq, rng_length]; exact w.n2) (rl.app b su) ?_ m1
  rw [foesI_app b su, foesI_perm ts pe]
  exact w.odd
theorem WholeV.shows {H : Hp} {n c : Nat} {ts : List Tie} {g : Int → Int} {v : V} {L : Int} (w : W50 n c ts g) (h : WholeV H n v (2 * L)) (L1 : 1 ≤ L) (hL : ∀ e : Int, 0 ≤ e → e < (n : Int) → L ≤ g e) (su : List Tie) : ShowZ 0 H n (ts ++ su) (limW g ts.length) (rng ts.length) v L := by
  obtain ⟨t, r, a, rg, pa, ta, ps, es, rfl, ht, hr, ha, hrg, hpa, hta, ab⟩ := h
  obtain ⟨rl, pp, pe⟩ := ab.ring w
  have ln := w.len
  have e := ringsS_one (lim := limW g ts.length) (given := rng ts.length) (whole_row w su ha hrg hpa hta ab (by omega)) (fun x hx => .inl (by
    have := mem_rng.mp (pe.mem_iff.mp hx)
    exact mem_rng.mpr (by omega))) (fun x hx => .inr (by
    have hx := mem_rng.mp (pe.mem_iff.mp hx)
    rw [limW_get g hx.1 (by omega)]
    have := hL x hx.1 hx.2
    omega))
  rw [show (2 * L + 1) / 2 = L by omega] at e
  exact ShowZ.rings ht hr e
theorem WholeV.over {H : Hp} {n c : Nat} {ts : List Tie} {g : Int → Int} {v : V} {L : Int} (w : W50 n c ts g) (h : WholeV H n v (2 * L + 1)) (L1 : 1 ≤ L) {x : Int} (x0 : 0 ≤ x) (x1 : x < (n : Int)) (hx : g x = L) (D : Nat) : shownS (D + 1) H n ts (limW g ts.length) (rng ts.length) v = none := by
  obtain ⟨t, r, a, rg, pa, ta, ps, es, rfl, ht, hr, ha, hrg, hpa, hta, ab⟩ := h
  obtain ⟨rl, pp, pe⟩ := ab.ring w
  have ln := w.len
  have e := whole_row w [] ha hrg hpa hta ab (by omega)
  rw [List.append_nil] at e
  rw [shown_rings ht hr]
  refine ringsS_over e (pe.mem_iff.mpr (mem_rng.mpr ⟨x0, x1⟩)) (by rw [limW_len]; omega) ?_
  rw [limW_get g x0 (by omega), hx]
  omega
/-! ### chains, and what is free -/
def ChainV (H : Hp) (inner : V) : Nat → V → Prop
  | 0, v => v = inner
  | j + 1, v => ∃ (a : Addr) (x y : Int) (u : V), v = .ref a ∧ H a = some (.tup [.str "case", .int x, .int y, u, inner]) ∧ ((x = 0 ∧ y = 1) ∨ (x = 1 ∧ y = 0)) ∧ ChainV H inner j u
theorem ChainV.tk {H H' : Hp} {inner : V} (t : Tk H H') : ∀ {j : Nat} {v : V}, ChainV H inner j v → ChainV H' inner j v
  | 0, _, h => h
  | j + 1, _, ⟨a, x, y, u, e, h, xy, c⟩ => ⟨a, x, y, u, e, t _ _ h, xy, c.tk t⟩
theorem ChainV.pap {H : Hp} {inner : V} {e : Nat} (e1 : 1 ≤ e) (hi : PapV e H inner) : ∀ {j : Nat} {v : V}, ChainV H inner j v → PapV (e + j) H v
  | 0, _, h => by
    have h : _ = inner := h
    rw [h]
    exact hi
  | j + 1, _, ⟨a, x, y, u, ev, h, xy, c⟩ => by
    subst ev
    refine ⟨.inr (.inl ⟨_, h⟩), fun xs ex => ?_⟩
    rw [parts_of' h] at ex
    obtain rfl := Option.some.inj ex
    have hu := ChainV.pap e1 hi c
    have p0 : ∀ {v : V}, Kn H v → parts H v = none → PapV (e + j) H v := fun k1 k2 => PapV.mono (d := 0) (Nat.zero_le _) ⟨k1, k2⟩
    refine ⟨fun z hz => ?_, by show 5 ≤ 2500; decide⟩
    simp only [List.mem_cons, List.not_mem_nil, or_false] at hz
    rcases hz with rfl | rfl | rfl | rfl | rfl
    · exact p0 trivial rfl
    · exact p0 trivial rfl
    · exact p0 trivial rfl
    · exact hu
    · exact hi.mono (Nat.le_add_right _ _)
theorem ChainV.shows {H : Hp} {inner : V} {n : Nat} {ts : List Tie} {lim given : List Int} {z : Int} (n2 : 2 ≤ n) (hz : ∀ su, ShowZ 0 H n (ts ++ su) lim given inner z) : ∀ {j : Nat} {v : V}, ChainV H inner j v → ∀ su, ShowZ j H n (ts ++ su) lim given v z
  | 0, _, h, su => by
    have h : _ = inner := h
    rw [h]
    exact hz su
  | j + 1, _, ⟨a, x, y, u, ev, h, xy, c⟩, su => by
    subst ev
    have h1 := ChainV.shows n2 hz c (su ++ [⟨x, y, false⟩])
    have h2 := (hz (su ++ [⟨x, y, true⟩])).mono (Nat.zero_le j)
    rw [← List.append_assoc] at h1 h2
    have := ShowZ.case h (by omega) (by omega) (by omega) h1 h2
    rw [show min z z = z by omega] at this
    exact this
def FreeV (H : Hp) (L : Nat) (v : V) : Prop := ∃ (t r a rg pa ta : Addr), v = .ref t ∧ H t = some (.tup [.str "rings", .ref r]) ∧ H r = some (.tup [.ref a]) ∧ H a = some (.tup [.ref rg, .int (10 ^ 40)]) ∧ H rg = some (.tup [.ref pa, .ref ta]) ∧ H pa = some (.tup ([0, 1].map V.int)) ∧ H ta = some (.tup ([(L : Int), (L : Int) + 1].map V.int))
theorem tieAt_two (ts : List Tie) (s t : Tie) : tieAt (ts ++ [s] ++ [t]) (ts.length : Nat) = s ∧ tieAt (ts ++ [s] ++ [t]) ((ts.length : Int) + 1) = t := by
  constructor
  · unfold tieAt
    rw [Int.toNat_natCast, List.getD_eq_getElem?_getD, List.getElem?_append_left (by simp), List.getElem?_append_right (Nat.le_refl _), Nat.sub_self]
    rfl
  · unfold tieAt
    rw [show ((ts.length : Int) + 1).toNat = ts.length + 1 by omega, List.getD_eq_getElem?_getD, List.getElem?_append_right (by simp)]
    rw [show (ts ++ [s]).length = ts.length + 1 by simp, Nat.sub_self]
    rfl
theorem FreeV.shows {H : Hp} {n : Nat} {ts : List Tie} {lim given : List Int} {v : V} (n2 : 2 ≤ n) (h : FreeV H ts.length v) (hl : lim.length = ts.length) {s t : Tie} (hs : (s.one = 0 ∧ s.other = 1) ∨ (s.one = 1 ∧ s.other = 0)) (ht : (t.one = 0 ∧ t.other = 1) ∨ (t.one = 1 ∧ t.other = 0)) (ne : s.foe ≠ t.foe) : ShowZ 0 H n (ts ++ [s] ++ [t]) lim given v (5 * 10 ^ 39) := by
  obtain ⟨tt, r, a, rg, pa, ta, rfl, htt, hr, ha, hrg, hpa, hta⟩ := h
  obtain ⟨e1, e2⟩ := tieAt_two ts s t
  have e := ringsS_one (H := H) (n := n) (ts := ts ++ [s] ++ [t]) (lim := lim) (given := given) (row_of ha hrg hpa hta (by decide) (fun p hp => by
    simp only [List.mem_cons, List.not_mem_nil, or_false] at hp
    omega) (by
    simp only [List.nodup_cons, List.mem_singleton, List.not_mem_nil, not_false_iff, List.nodup_nil, and_true]
    omega) (fun e he => by
    simp only [List.mem_cons, List.not_mem_nil, or_false] at he
    simp only [List.length_append, List.length_singleton]
    omega) (by decide) ⟨rfl, fun i hi => by
    have hi : i < 2 := hi
    have h01 : i = 0 ∨ i = 1 := by omega
    rcases h01 with z | z <;> subst z
    · show joinB (tieAt (ts ++ [s] ++ [t]) (ts.length : Nat)) 0 1 = true
      rw [e1]
      unfold joinB
      rw [Bool.or_eq_true, Bool.and_eq_true, Bool.and_eq_true, decide_eq_true_iff, decide_eq_true_iff, decide_eq_true_iff, decide_eq_true_iff]
      exact hs
    · show joinB (tieAt (ts ++ [s] ++ [t]) ((ts.length : Int) + 1)) 1 0 = true
      rw [e2]
      unfold joinB
      rw [Bool.or_eq_true, Bool.and_eq_true, Bool.and_eq_true, decide_eq_true_iff, decide_eq_true_iff, decide_eq_true_iff, decide_eq_true_iff]
      exact ht.symm⟩ (by
    unfold foesI
    rw [List.filter_cons, List.filter_cons, List.filter_nil, e1, e2]
    cases h1 : s.foe <;> cases h2 : t.foe
    · exact absurd (h1.trans h2.symm) ne
    · rfl
    · rfl
    · exact absurd (h1.trans h2.symm) ne) (by decide)) (fun x hx => .inr (by
    simp only [List.mem_cons, List.not_mem_nil, or_false] at hx
    omega)) (fun x hx => .inl (by
    simp only [List.mem_cons, List.not_mem_nil, or_false] at hx
    omega))
  exact ShowZ.rings htt hr e
theorem FreeV.none {H : Hp} {n : Nat} {ts : List Tie} {lim given : List Int} {v : V} (h : FreeV H ts.length v) {s t : Tie} (hs : s.foe = false) (ht : t.foe = false) (D : Nat) : shownS D H n (ts ++ [s] ++ [t]) lim given v = none := by
  obtain ⟨tt, r, a, rg, pa, ta, rfl, htt, hr, ha, hrg, hpa, hta⟩ := h
  obtain ⟨e1, e2⟩ := tieAt_two ts s t
  cases D with
  | zero => rfl
  | succ D =>
    rw [shown_rings htt hr]
    have e := row_even (H := H) (n := n) (ts := ts ++ [s] ++ [t]) ha hrg hta hpa (by
      unfold foesI
      rw [List.filter_cons, List.filter_cons, List.filter_nil, e1, e2, hs, ht]
      rfl)
    have e3 : [V.ref a].foldl (stepR H n (ts ++ [s] ++ [t])) (some []) = Option.none := by
      show (match rowR H n (ts ++ [s] ++ [t]) (.ref a) with | Option.none => Option.none | some x => some ([] ++ [x])) = _
      rw [e]
    unfold ringsS
    rw [e3]
theorem case_none {D : Nat} {H : Hp} {n : Nat} {ts : List Tie} {lim given : List Int} {t : Addr} {x y : Int} {a b : V} (ht : H t = some (.tup [.str "case", .int x, .int y, a, b])) (hx : 0 ≤ x ∧ x < (n : Int)) (hy : 0 ≤ y ∧ y < (n : Int)) (xy : x ≠ y) (h1 : shownS D H n (ts ++ [⟨x, y, false⟩]) lim given a = none) : shownS (D + 1) H n ts lim given (.ref t) = none := by
  rw [shown_five (parts_of' ht), if_pos rfl, caseS_on]
  · show minO (shownS D H n (ts ++ [⟨x, y, false⟩]) lim given a) (shownS D H n (ts ++ [⟨x, y, true⟩]) lim given b) = _
    rw [h1]
    rfl
  · unfold unlB
    show ((decide (0 ≤ x) && decide (x < (n : Int))) && ((decide (0 ≤ y) && decide (y < (n : Int))) && !decide (V.int x = V.int y))) = true
    rw [decV, decide_eq_true hx.1, decide_eq_true hx.2, decide_eq_true hy.1, decide_eq_true hy.2, decide_eq_false xy]
    rfl
/-! ### k50: weights, rings about, rows beside, chains -/
def spLW50 : Sp := fun vs H Q _ => ∃ (wt : V) (i : Int) (ns : List Int) (g : Int → Int), vs = [wt, .int i] ∧ Wts H wt ns g ∧ i ∈ ns ∧ Q (.int (g i)) H
def spAbout50 : Sp := fun vs H Q _ => ∃ (d c : Addr) (n : Nat), vs = [.ref d, .int n] ∧ Deck H d c ∧ 1 ≤ n ∧ n ≤ 40 ∧ ∀ a pa ta ps es H', H' a = some (.tup [.ref pa, .ref ta]) → H' pa = some (.tup (ps.map V.int)) → H' ta = some (.tup (es.map V.int)) → About n ps es → Deck H' d c → Kp d c H H' → Q (.ref a) H'
def spBeside : Sp := fun vs H Q _ => ∃ (wv : V) (n c : Nat) (ts : List Tie) (g : Int → Int), vs = [wv] ∧ WorldAt H wv n ts g ∧ W50 n c ts g ∧ ∀ r vs' H', H' r = some (.lst vs') → Paired (BesV H' g ts n) vs' (List.range c) → Same H H' → Q (.ref r) H'
def spChain : Sp := fun vs H Q _ => ∃ (fv inner : V), vs = [fv, inner] ∧ ∀ v H', ChainV H' inner 25 v → Same H H' → Q v H'
theorem nb120 {m : Int} (h0 : 0 < m) (h1 : m < 1000) : m.natAbs < 2 ^ 120 := by
  have : (1000 : Nat) < 2 ^ 120 := by decide
  omega
theorem rot_rng {n k : Nat} (hk : k < n) : ((List.range n).map fun j : Nat => ((k : Int) + (j : Int)) % (n : Int)) = rotI (rng n) k := by
  refine List.ext_getElem? fun i => ?_
  by_cases hi : i < n
  · have l1 : i < (rotI (rng n) k).length := by rw [rotI_len, rng_length]; exact hi
    have e1 := rotI_getD (rng n) (k := k) (i := i) (by rw [rng_length]; exact hk) (by rw [rng_length]; exact hi)
    rw [List.getD_eq_getElem?_getD, List.getElem?_eq_getElem l1, rng_length] at e1
    have e1 : (rotI (rng n) k)[i] = (rng n).getD ((i + k) % n) 0 := e1
    rw [List.getElem?_map, List.getElem?_range hi, List.getElem?_eq_getElem l1, e1]
    unfold rng
    rw [List.getD_eq_getElem?_getD, List.getElem?_map, List.getElem?_range (Nat.mod_lt _ (by omega))]
    show some (((k : Int) + (i : Int)) % (n : Int)) = some (((i + k) % n : Nat) : Int)
    rw [Int.natCast_emod, Nat.add_comm]
    rfl
  · rw [List.getElem?_eq_none (by rw [List.length_map, List.length_range]; omega), List.getElem?_eq_none (by rw [rotI_len, rng_length]; omega)]
section
variable {P : Program} {w : World} {K : PySem.W.Frag} {mg : Str → Option Value} {base : Heap}
theorem ok_l_weight50 {f : Addr} {fd : FuncData} (F : Fun K "_law_weight" "_law_weight" s_l_weight f fd) : FnOk P w K mg base CX0 1 f fd ["_law_weights", "_law_tie"] spLW50 := by
  refine F.ok sc_l_weight (fun vs H Q E h => ?_) (fun cdv A outer s H vs Q E hr h => ?_)
  · obtain ⟨wt, i, ns, g, rfl, _⟩ := h
    rfl
  · obtain ⟨wt, i, ns, g, rfl, hw, hi, q⟩ := h
    refine ⟨_, (pss_cons (ps_if (pt_cmpR op_isN (pv 0) pe_non (nomark _))
        (pss_one (ps_ret pe_int))
        pss_nil)
      (pss_one (ps_ret (pe_ix ix_tup (pv 0) (pv 1) (fun _ _ => rfl))))), ?_⟩
    rcases hw with ⟨rfl, h1⟩ | ⟨a, ws, rfl, ha, h1⟩
    · rw [h1 i hi] at q
      exact ⟨.non, rfl, rfl, _, rfl, q⟩
    · obtain ⟨⟨i0, i1⟩, e⟩ := h1 i hi
      rw [e] at q
      obtain ⟨u, e1, e2⟩ := getI (xs := ws.map V.int) i0 (by rw [List.length_map]; exact i1)
      have e3 : u = .int (gW ws i) := by
        rw [List.getElem?_map, List.getElem?_eq_getElem (by omega)] at e2
        unfold gW
        rw [List.getD_eq_getElem?_getD, List.getElem?_eq_getElem (by omega)]
        exact (Option.some.inj e2).symm
      rw [e3] at e1
      exact ⟨.ref a, rfl, rfl, _, rfl, .ref a, rfl, .int i, rfl, a, _, i, _, rfl, rfl, SqT.of ha, e1, q⟩
set_option maxHeartbeats 4000000 in
theorem ok_l_about {f : Addr} {fd : FuncData} (F : Fun K "_law_about" "_law_about" s_l_about f fd) (M : Free mg) (D_l_draw : Df P w K mg base 1 "_law_draw" ["_law_feed_here", "_law_most"] spDraw) : FnOk P w K mg base CX0 2 f fd ["_law_feed_here", "_law_many"] spAbout50 := by
  obtain ⟨f_l_draw, fd_l_draw, G_l_draw, g_l_draw, k_l_draw, b_l_draw⟩ := D_l_draw
  refine F.ok sc_l_about (fun vs H Q E h => ?_) (fun cdv A outer s H vs Q E hr h => ?_)
  · obtain ⟨d, c, n, rfl, _⟩ := h
    rfl
  · obtain ⟨d, c, n, rfl, D, n1, n40, q⟩ := h
    refine ⟨_, (pss_cons (ps_set (i := 2) sc_l_about.nd rfl (.inr rfl) (pe_call G_l_draw (hr.mono (by decide)) (by rfl) g_l_draw k_l_draw b_l_draw .nil pass0 (pa_cons (pv 0) (pa_cons (pv 1) pa_nil))))
      (pss_cons (ps_setLc (i := 3) (own := [("_law_k", 4)]) (g := (gName 4)) (tt := tYes) rfl sc_l_about.nd rfl rfl (sw_true rfl rfl rfl (by decide +kernel)) (pi_range1 (by rfl) M.range (pa_cons (pv 1) pa_nil)) (blkOk_by (N := N_l_about) (sc := defScope s_l_about) (own := [("_law_k", 4)]) (by decide +kernel)) (fun _ _ _ _ _ => (pg_name (i := 4) sc_l_about.nd rfl (.inl rfl))) (fun _ _ _ _ _ => pts_nil) (fun _ _ _ _ _ => (pe_op op_mod (pe_op op_add (pv 2) (pv 4)) (pv 1))))
      (pss_cons (ps_set (i := 5) sc_l_about.nd rfl (.inl rfl) (pe_callTy call_list_of (by rfl) M.list (by decide +kernel) (pa_cons (pv 3) pa_nil)))
      (Evl.pss_cut (ps_if (pt_cmpR op_eq (pe_call G_l_draw (hr.mono (by decide)) (by rfl) g_l_draw k_l_draw b_l_draw .nil pass0 (pa_cons (pv 0) (pa_cons pe_int pa_nil))) pe_int (nomark _))
        (pss_cons (ps_set (i := 3) sc_l_about.nd rfl (.inl rfl) (pe_revL (pv 3)))
        (pss_one (ps_set (i := 5) sc_l_about.nd rfl (.inl rfl) (pe_op op_cat (pe_revL (pe_slice sl_list (pv 5) po_none (po_some (pe_un un_neg pe_int)))) (pe_slice sl_list (pv 5) (po_some (pe_un un_neg pe_int)) po_none)))))
        pss_nil)
      (pss_one (ps_ret (pe_tup (pa_cons (pe_callTy call_tuple_of (by rfl) M.tuple (by decide +kernel) (pa_cons (pv 3) pa_nil)) (pa_cons (pe_callTy call_tuple_of (by rfl) M.tuple (by decide +kernel) (pa_cons (pv 5) pa_nil)) pa_nil))))))))), ?_⟩
    refine ⟨.ref d, rfl, .int n, rfl, d, c, n, rfl, D, by omega, nb120 (by omega) (by omega), fun v H1 v0 v1 D1 K1 => ?_⟩
    obtain ⟨k, rfl⟩ : ∃ k : Nat, v = (k : Int) := ⟨v.toNat, by omega⟩
    have kn : k < n := by omega
    refine ⟨.int n, rfl, n, rfl, by omega, by omega, fun R nR => ?_⟩
    rw [Int.toNat_natCast]
    refine lc_range (lo := 0) (n := n) (fun i H' => H' R = some (.lst (((List.range i).map fun j : Nat => ((k : Int) + (j : Int)) % (n : Int)).map V.int)) ∧ Same H1 H') ⟨upd_same, same_new nR⟩ ?_ ?_
    · rintro i H2 hi ⟨hR, s2⟩
      rw [Int.zero_add]
      refine ⟨rfl, .int k, rfl, .int (i : Nat), rfl, _, _, rfl, rfl, .int n, rfl, _, _, rfl, rfl, show (0 : Int) < n by omega, _, hR, by rw [List.length_map, List.length_map, List.length_range]; exact small1000 (by omega), ?_, Same.mut s2 nR⟩
      rw [upd_same, List.range_succ, List.map_append, List.map_append]
      rfl
    rintro H2 ⟨hR, s2⟩
    rw [rot_rng kn] at hR
    have D2 := D1.same s2
    have K2 := K1.trans (Same.kp s2)
    obtain ⟨Rd, Rc⟩ : R ≠ d ∧ R ≠ c := D1.ned nR
    clear s2 D1 K1 nR
    refine ⟨.ref R, rfl, R, _, rfl, .inl (SqL.of hR), fun T nT => ?_⟩
    have sT := same_new (o := .lst ((rotI (rng n) k).map V.int)) nT
    have hT := upd_same (H := H2) (a := T) (o := .lst ((rotI (rng n) k).map V.int))
    obtain ⟨Td, Tc⟩ : T ≠ d ∧ T ≠ c := D2.ned nT
    have hR3 := sT _ _ hR
    have D3 := D2.same sT
    have K3 := K2.trans (Same.kp sT)
    generalize upd H2 T (.lst ((rotI (rng n) k).map V.int)) = H3 at hT hR3 D3 K3
    clear hR D2 K2 sT nT
    have lR : (rotI (rng n) k).length = n := by rw [rotI_len, rng_length]
    refine ⟨fun σ' H' => ∃ (a b : Addr) (rev : Bool) (y4 : Option V), σ' = [some (.ref d), some (.int n), some (.int k), some (.ref a), y4, some (.ref b)] ∧ H' a = some (.lst ((turnP (rng n) k rev).map V.int)) ∧ H' b = some (.lst ((turnE (rng n) k rev).map V.int)) ∧ Deck H' d c ∧ Kp d c H H', ?_, ?_⟩
    · refine ⟨.ref d, rfl, d, c, 2, rfl, D3, by decide, by decide, fun r H6 r0 r1 D6 K6 => ⟨rfl, _, rfl, ?_⟩⟩
      have hP6 := K6 _ _ Rd Rc hR3
      have hE6 := K6 _ _ Td Tc hT
      refine ite2 (fun _ => ?_) (fun _ => ⟨R, T, false, _, rfl, hP6, hE6, D6, K3.trans K6⟩)
      refine ⟨.ref R, rfl, R, _, rfl, SqL.of hP6, fun p7 n7 => ?_⟩
      have s7 := same_new (o := .lst ((rotI (rng n) k).map V.int).reverse) n7
      have h7 := upd_same (H := H6) (a := p7) (o := .lst ((rotI (rng n) k).map V.int).reverse)
      have hE7 := s7 _ _ hE6
      generalize upd H6 p7 (.lst ((rotI (rng n) k).map V.int).reverse) = H7 at s7 h7 hE7
      have lE : ((rotI (rng n) k).map V.int).length = n := by rw [List.length_map, lR]
      refine ⟨.ref T, rfl, 1, rfl, -1, rfl, T, _, rfl, SqL.of hE7, fun a1 m1 => ?_⟩
      rw [cut_initP (by omega)]
      have s8 := same_new (o := .lst (((rotI (rng n) k).map V.int).take (((rotI (rng n) k).map V.int).length - 1))) m1
      have h8 := upd_same (H := H7) (a := a1) (o := .lst (((rotI (rng n) k).map V.int).take (((rotI (rng n) k).map V.int).length - 1)))
      have hE8 := s8 _ _ hE7
      generalize upd H7 a1 (.lst (((rotI (rng n) k).map V.int).take (((rotI (rng n) k).map V.int).length - 1))) = H8 at s8 h8 hE8
      refine ⟨a1, _, rfl, SqL.of h8, fun a2 m2 => ?_⟩
      have s9 := same_new (o := .lst (((rotI (rng n) k).map V.int).take (((rotI (rng n) k).map V.int).length - 1)).reverse) m2
      have h9 := upd_same (H := H8) (a := a2) (o := .lst (((rotI (rng n) k).map V.int).take (((rotI (rng n) k).map V.int).length - 1)).reverse)
      have hE9 := s9 _ _ hE8
      generalize upd H8 a2 (.lst (((rotI (rng n) k).map V.int).take (((rotI (rng n) k).map V.int).length - 1)).reverse) = H9 at s9 h9 hE9
      refine ⟨.ref T, rfl, 1, rfl, -1, rfl, T, _, rfl, SqL.of hE9, fun a3 m3 => ?_⟩
      rw [cut_lastP (by omega)]
      have s10 := same_new (o := .lst (((rotI (rng n) k).map V.int).drop (((rotI (rng n) k).map V.int).length - 1))) m3
      have h10 := upd_same (H := H9) (a := a3) (o := .lst (((rotI (rng n) k).map V.int).drop (((rotI (rng n) k).map V.int).length - 1)))
      have h910 := s10 _ _ h9
      generalize upd H9 a3 (.lst (((rotI (rng n) k).map V.int).drop (((rotI (rng n) k).map V.int).length - 1))) = H10 at s10 h10 h910
      refine ⟨a2, a3, _, _, rfl, rfl, h910, h10, ?_, fun a4 m4 => ?_⟩
      · rw [List.length_reverse, List.length_take, List.length_drop, lE]
        exact Nat.le_of_lt (small1000 (by omega))
      have s11 := same_new (o := .lst ((((rotI (rng n) k).map V.int).take (((rotI (rng n) k).map V.int).length - 1)).reverse ++ ((rotI (rng n) k).map V.int).drop (((rotI (rng n) k).map V.int).length - 1))) m4
      have s711 := ((s8.trans s9).trans s10).trans s11
      have s611 := s7.trans s711
      refine ⟨p7, a4, true, _, rfl, ?_, ?_, D6.same s611, (K3.trans K6).trans (Same.kp s611)⟩
      · rw [s711 _ _ h7, ← List.map_reverse]
        rfl
      · rw [upd_same]
        congr 2
        unfold turnE
        rw [if_pos rfl, lE, List.map_append, List.map_reverse, List.map_take, List.map_drop, rng_length]
    rintro σ' H6 ⟨a, b, rev, y4, rfl, ha, hb, D6, K6⟩
    refine ⟨.ref a, rfl, a, _, rfl, .inl ⟨SqL.of ha, fun x1 m1 => ?_⟩⟩
    have s7 := same_new (o := .tup ((turnP (rng n) k rev).map V.int)) m1
    refine ⟨.ref b, rfl, b, _, rfl, .inl ⟨SqL.of (s7 _ _ hb), fun x2 m2 => ⟨by show 2 ≤ sizeLine; decide, fun x3 m3 => ?_⟩⟩⟩
    have s8 := same_new (o := .tup ((turnE (rng n) k rev).map V.int)) m2
    have s9 := same_new (o := .tup [.ref x1, .ref x2]) m3
    have s69 := (s7.trans s8).trans s9
    exact q x3 x1 x2 _ _ _ upd_same (s9 _ _ (s8 _ _ upd_same)) (s9 _ _ upd_same) ⟨k, rev, kn, rfl, rfl⟩ (D6.same s69) (K6.trans (Same.kp s69))
set_option maxHeartbeats 4000000 in
theorem ok_l_beside {f : Addr} {fd : FuncData} (F : Fun K "_law_beside" "_law_beside" s_l_beside f fd) (M : Free mg) (m_min : mg "min" = none) (D_l_weight : Df P w K mg base 1 "_law_weight" ["_law_weights", "_law_tie"] spLW50) : FnOk P w K mg base CX0 2 f fd ["_law_world"] spBeside := by
  obtain ⟨f_l_weight, fd_l_weight, G_l_weight, g_l_weight, k_l_weight, b_l_weight⟩ := D_l_weight
  refine F.ok sc_l_beside (fun vs H Q E h => ?_) (fun cdv A outer s H vs Q E hr h => ?_)
  · obtain ⟨wv, n, c, ts, g, rfl, _⟩ := h
    rfl
  · obtain ⟨wv, n, c, ts, g, rfl, hW, W, q⟩ := h
    refine ⟨_, (pss_cons (ps_asg (pv 0) (pg_tup rfl (pgs_cons (pg_name (i := 1) sc_l_beside.nd rfl (.inl rfl)) (pgs_cons (pg_name (i := 2) sc_l_beside.nd rfl (.inl rfl)) (pgs_cons (pg_name (i := 3) sc_l_beside.nd rfl (.inl rfl)) pgs_nil)))))
      (pss_cons (ps_set (i := 4) sc_l_beside.nd rfl (.inl rfl) (pe_lst pa_nil))
      (pss_cons (ps_for PassesOwn.never rfl (pi_range1 (by rfl) M.range (pa_cons (pe_op op_sub (pe_callB call_len_seq (by rfl) M.len PySem.boot_len (pa_cons (pv 2) pa_nil)) (pv 1)) pa_nil)) (pg_name (i := 5) sc_l_beside.nd rfl (.inl rfl))
        (pss_cons (ps_set (i := 6) sc_l_beside.nd rfl (.inl rfl) (pe_callB (call_min2 rfl) (by rfl) m_min (by decide +kernel) (pa_cons (pe_call G_l_weight (hr.mono (by decide)) (by rfl) g_l_weight k_l_weight b_l_weight .nil pass0 (pa_cons (pv 3) (pa_cons (pv 5) pa_nil))) (pa_cons (pe_call G_l_weight (hr.mono (by decide)) (by rfl) g_l_weight k_l_weight b_l_weight .nil pass0 (pa_cons (pv 3) (pa_cons (pe_op op_add (pv 1) (pv 5)) pa_nil))) pa_nil))))
        (pss_one (ps_expr (pe_bm PySem.F.plainAttrs_list PySem.F.slot_list_append PySem.F.type_list_append mt_append (pv 4) (pa_cons (pe_tup (pa_cons (pe_tup (pa_cons (pe_callTy call_tuple_of (by rfl) M.tuple (by decide +kernel) (pa_cons (pe_slice sl_tupU (pe_ix ix_tup (pv 2) (pv 5) (fun _ _ => rfl)) po_none (po_some pe_int)) pa_nil)) (pa_cons (pe_tup (pa_cons (pv 5) (pa_cons (pe_op op_add (pv 1) (pv 5)) pa_nil))) pa_nil))) (pa_cons (pe_op op_mul pe_int (pv 6)) pa_nil))) pa_nil))))))
      (pss_one (ps_ret (pv 4)))))), ?_⟩
    obtain ⟨wa, tb, wt, us, rfl, hwa, htb, hpw, hwt⟩ := hW.ex
    have lu : us.length = ts.length := Paired.length hpw
    have lt := W.len
    have cn := W.cn
    have n40 := W.n40
    refine ⟨.ref wa, rfl, wa, _, rfl, SqT.of hwa, rfl, _, _, rfl, _, _, rfl, _, _, rfl, rfl, Nat.zero_le _, fun L nL => ?_⟩
    have sL := same_new (o := .lst []) nL
    have hL1 := upd_same (H := H) (a := L) (o := .lst [])
    generalize upd H L (.lst []) = H1 at sL hL1
    have ek : ((us.length : Nat) : Int) - (n : Int) = ((c : Nat) : Int) := by omega
    refine ⟨.ref tb, rfl, tb, us, rfl, .inr (SqT.of (sL _ _ htb)), .int n, rfl, _, _, rfl, rfl, c, congrArg (fun z => [V.int z]) ek, by omega, by omega, ?_⟩
    rw [Int.toNat_natCast]
    refine for_range (lo := 0) (n := c) (fun i σ' H' => ∃ (y5 y6 : Option V) (vs : List V), σ' = [some (.ref wa), some (.int n), some (.ref tb), some wt, some (.ref L), y5, y6] ∧ H' L = some (.lst vs) ∧ Paired (BesV H' g ts n) vs (List.range i) ∧ Same H H') ⟨none, none, [], rfl, hL1, .nil, sL⟩ ?_ ?_
    · rintro i σ' H2 hi ⟨y5, y6, vs, rfl, hL, hv, s2⟩
      have lv := Paired.length hv
      rw [List.length_range] at lv
      rw [Int.zero_add]
      have hw2 := hwt.tk (Same.tk s2)
      refine ⟨wt, rfl, .int (i : Nat), rfl, wt, (i : Nat), _, g, rfl, hw2, mem_rng.mpr ⟨by omega, by omega⟩, wt, rfl, .int n, rfl, .int (i : Nat), rfl, _, _, rfl, rfl, wt, (n : Int) + (i : Nat), _, g, rfl, hw2, mem_rng.mpr ⟨by omega, by omega⟩, _, _, rfl, ?_⟩
      have em : (if g ((n : Int) + (i : Nat)) < g (i : Nat) then g ((n : Int) + (i : Nat)) else g (i : Nat)) = min (g (i : Nat)) (g ((n + i : Nat) : Int)) := by
        rw [show ((n + i : Nat) : Int) = (n : Int) + (i : Nat) by omega]
        split <;> omega
      rw [em]
      obtain ⟨u, eu, tc, ev, htc⟩ := Paired.at' hpw (show ts[i]? = some (ts[i]'(by omega)) from List.getElem?_eq_getElem _)
      have et : ts[i]'(by omega) = tieAt ts (i : Nat) := by
        unfold tieAt
        rw [Int.toNat_natCast, List.getD_eq_getElem?_getD, List.getElem?_eq_getElem (by omega)]
        rfl
      rw [et] at htc
      subst ev
      refine ⟨.ref L, rfl, .inl ⟨rfl, _, SqL.of hL⟩, .ref tb, rfl, .int (i : Nat), rfl, tb, _, (i : Nat), .ref tc, rfl, rfl, SqT.of (s2 _ _ htb), atI_nat eu, 2, rfl, tc, _, rfl, s2 _ _ htc, fun r H3 s3 h3 => ?_⟩
      have h3 : H3 r = some (.tup ([(tieAt ts (i : Nat)).one, (tieAt ts (i : Nat)).other].map V.int)) := h3
      refine ⟨r, _, rfl, .inr ⟨SqT.of h3, .int (i : Nat), rfl, .int n, rfl, .int (i : Nat), rfl, _, _, rfl, rfl, by show 2 ≤ sizeLine; decide, fun p2 n2 => ⟨by show 2 ≤ sizeLine; decide, fun p3 n3 => ⟨_, rfl, _, _, rfl, rfl, .inl ⟨by decide, by decide⟩, by show 2 ≤ sizeLine; decide, fun p4 n4 => ?_⟩⟩⟩⟩
      have en : (n : Int) + (i : Nat) = ((n + i : Nat) : Int) := by omega
      rw [show [V.int (i : Nat), (fun a b : Int => V.int (a + b)) (n : Int) (i : Nat)] = [(i : Int), ((n + i : Nat) : Int)].map V.int from by show [V.int (i : Nat), V.int ((n : Int) + (i : Nat))] = _; rw [en]; rfl] at n3 n4 ⊢
      have z2 := same_new (o := .tup ([(i : Int), ((n + i : Nat) : Int)].map V.int)) n2
      have z3 := same_new (o := .tup [V.ref r, .ref p2]) n3
      have z4 := same_new (o := .tup [V.ref p3, .int (2 * min (g (i : Nat)) (g ((n + i : Nat) : Int)))]) n4
      have s34 := (z2.trans z3).trans z4
      have hp4 := upd_same (H := upd (upd H3 p2 (.tup ([(i : Int), ((n + i : Nat) : Int)].map V.int))) p3 (.tup [V.ref r, .ref p2])) (a := p4) (o := .tup [V.ref p3, .int (2 * min (g (i : Nat)) (g ((n + i : Nat) : Int)))])
      have hp3 := z4 _ _ (upd_same (H := upd H3 p2 (.tup ([(i : Int), ((n + i : Nat) : Int)].map V.int))) (a := p3) (o := .tup [V.ref r, .ref p2]))
      have hp2 := z4 _ _ (z3 _ _ (upd_same (H := H3) (a := p2) (o := .tup ([(i : Int), ((n + i : Nat) : Int)].map V.int))))
      have hr4 := s34 _ _ h3
      have hL4 := s34 _ _ (s3 _ _ hL)
      have hv4 : Paired (BesV _ g ts n) vs (List.range i) := Paired.mono (fun _ _ x => x.tk (Same.tk (s3.trans s34))) hv
      have s04 := s2.trans (s3.trans s34)
      refine ⟨L, vs, _, rfl, rfl, hL4, small1000 (by omega), ?_⟩
      have tk := tk_lst (ys := vs ++ [.ref p4]) hL4
      refine ⟨_, _, vs ++ [.ref p4], rfl, upd_same, ?_, Same.mut s04 nL⟩
      rw [List.range_succ]
      exact Paired.snoc (Paired.mono (fun _ _ x => x.tk tk) hv4) ⟨p4, p3, r, p2, rfl, tk _ _ hp4, tk _ _ hp3, tk _ _ hr4, tk _ _ hp2⟩
    · rintro σ' H2 ⟨y5, y6, vs, rfl, hL, hv, s2⟩
      exact ⟨.ref L, rfl, q L vs H2 hL hv s2⟩
set_option maxHeartbeats 4000000 in
theorem ok_l_chain {f : Addr} {fd : FuncData} (F : Fun K "_law_chain" "_law_chain" s_l_chain f fd) (M : Free mg) : FnOk P w K mg base CX0 1 f fd ["_law_feed_here", "_law_inner"] spChain := by
  refine F.ok sc_l_chain (fun vs H Q E h => ?_) (fun cdv A outer s H vs Q E hr h => ?_)
  · obtain ⟨fv, inner, rfl, _⟩ := h
    rfl
  · obtain ⟨fv, inner, rfl, q⟩ := h
    refine ⟨_, (pss_cons (ps_set (i := 2) sc_l_chain.nd rfl (.inl rfl) (pv 1))
      (pss_cons (ps_for PassesOwn.never rfl (pi_range1 (by rfl) M.range (pa_cons pe_int pa_nil)) (pg_name (i := 3) sc_l_chain.nd rfl (.inl rfl))
        (pss_one (ps_set (i := 2) sc_l_chain.nd rfl (.inl rfl) (pe_tup (pa_cons pe_str (pa_cons (pe_op op_mod (pv 3) pe_int) (pa_cons (pe_op op_sub pe_int (pe_op op_mod (pv 3) pe_int)) (pa_cons (pv 2) (pa_cons (pv 1) pa_nil)))))))))
      (pss_one (ps_ret (pv 2))))), ?_⟩
    refine ⟨inner, rfl, 25, rfl, by decide, by decide, ?_⟩
    refine for_range (lo := 0) (n := 25) (fun i σ' H' => ∃ (u : V) (y3 : Option V), σ' = [some fv, some inner, some u, y3] ∧ ChainV H' inner i u ∧ Same H H') ⟨inner, none, rfl, rfl, fun _ _ h => h⟩ ?_ ?_
    · rintro i σ' H1 hi ⟨u, y3, rfl, hc, s1⟩
      rw [Int.zero_add]
      refine ⟨.int (i : Nat), rfl, _, _, rfl, rfl, (by show (0 : Int) < 2; decide), .int (i : Nat), rfl, _, _, rfl, rfl, (by show (0 : Int) < 2; decide), 1, _, rfl, rfl, u, rfl, inner, rfl, by show 5 ≤ sizeLine; decide, fun p np => ?_⟩
      have sp := same_new (o := .tup [.str "case", .int ((i : Int) % 2), .int (1 - (i : Int) % 2), u, inner]) np
      exact ⟨.ref p, _, rfl, ⟨p, (i : Int) % 2, 1 - (i : Int) % 2, u, rfl, upd_same, by omega, hc.tk (Same.tk sp)⟩, s1.trans sp⟩
    · rintro σ' H1 ⟨u, y3, rfl, hc, s1⟩
      exact ⟨u, rfl, q u H1 hc s1⟩
end
theorem ixN_of {n : Nat} {i : Int} (h0 : 0 ≤ i) (h1 : i < n) : ixN n i = some i.toNat := by
  unfold ixN
  rw [if_pos (by omega), if_pos (by omega)]
/-! ### k50: a web that goes round -/
theorem countP_eqU {x : V} : ∀ {xs : List V} {us : List Value}, Vals xs us → xs.all flatV = true → us.countP (eqU x) = xs.countP fun y => eqV y x
  | _, _, .nil, _ => rfl
  | y :: xs, u :: us, .cons r t, f => by
    rw [List.all_cons, Bool.and_eq_true] at f
    rw [List.countP_cons, List.countP_cons, eqU_of r f.1, countP_eqU t f.2]
def rCntF (K : PySem.W.Frag) : V → List V → Hp → VK → Prop := fun x xs H Q => ∃ (p : Addr) (ys : List V) (k : V), x = .ref p ∧ xs = [k] ∧ SqL K H p ys ∧ flatV k = true ∧ ys.all flatV = true ∧ Q (.int (ys.countP fun y => eqV y k : Nat)) H
theorem mt_lcountF {X : Cx} : MtR X "list.count" (rCntF X.K) := by
  intro pins s σ H x xs v us Q I rx rxs h
  obtain ⟨p, ys, k, rfl, rfl, hs, fk, fy, q⟩ := h
  cases rx
  obtain ⟨u, rfl, ru⟩ := rxs.one
  obtain ⟨its, rv, ⟨⟨cls, dd, data, sl⟩, n, ho, hc, hdn, hd⟩, hlen⟩ := I.list hs
  simp only at hc hd
  subst hc hd
  have ec := countP_eqU (x := k) rv fy
  refine call_meets PySem.F.slot_list_count ⟨_, ho, rfl⟩ PySem.F.entry_list_count (PySem.F.args_list_count_2 _ _) (SeqAt.list_countAt p its.toArray n dd sl u (eqU k))
    ⟨ho, fun y hy => mem_eqAt ru fk rv fy y (by simpa using hy), .int (ys.countP fun y => eqV y k : Nat), H, I.tok _, ⟨s.toks, ?_⟩, q⟩
  show Value.int ((its.toArray.toList.countP (eqU k) : Nat) : Int) s.toks = Value.int ((ys.countP fun y => eqV y k : Nat) : Int) s.toks
  rw [← ec]
theorem min3_of (a b c : Int) : ∃ m : Int, nuMin3 (.int a) (.int b) (.int c) = some (.int m) ∧ m ≤ a ∧ m ≤ b ∧ m ≤ c ∧ (m = a ∨ m = b ∨ m = c) := by
  have e2 : ∀ x y : Int, nuMin2 (.int x) (.int y) = some (.int (if y < x then y else x)) := fun x y => by
    show some (if decide (y < x) = true then V.int y else V.int x) = _
    by_cases h : y < x
    · rw [decide_eq_true h, if_pos rfl, if_pos h]
    · rw [decide_eq_false h, if_neg Bool.false_ne_true, if_neg h]
  unfold nuMin3
  rw [e2 a b]
  show ∃ m : Int, nuMin2 (.int (if b < a then b else a)) (.int c) = some (.int m) ∧ _
  rw [e2]
  refine ⟨_, rfl, ?_⟩
  split <;> split <;> omega
theorem foe_eq (b : Bool) : eqV (.str (kindS b)) (.str "foe") = b := by cases b <;> decide
theorem foes_count (ks : List Bool) : (ks.map fun b => V.str (kindS b)).countP (fun y => eqV y (.str "foe")) = ks.countP id := by
  rw [List.countP_map]
  refine List.countP_congr fun b _ => ?_
  show eqV (.str (kindS b)) (.str "foe") = true ↔ id b = true
  rw [foe_eq]
  rfl
theorem flat_kinds (ks : List Bool) : (ks.map fun b => V.str (kindS b)).all flatV = true := by
  rw [List.all_eq_true]
  intro x hx
  obtain ⟨b, _, rfl⟩ := List.mem_map.mp hx
  rfl
def kG (ks : List Bool) (k : Nat) : Bool := ks.getD k false
theorem kG_at {ks : List Bool} {k : Nat} (h : k < ks.length) : (ks.map fun b => V.str (kindS b))[k]? = some (.str (kindS (kG ks k))) := by
  unfold kG
  rw [List.getElem?_map, List.getD_eq_getElem?_getD, List.getElem?_eq_getElem h]
  rfl
/-- the first n ties: each from its place to the next one, of these kinds -/
structure Rd (n : Nat) (ks : List Bool) (ts : List Tie) : Prop where
  len : ts.length = n
  each : ∀ (k : Nat) (t : Tie), ts[k]? = some t → joinB t (k : Nat) (((k + 1) % n : Nat) : Int) = true ∧ t.foe = kG ks k ∧ TieOk n t
def flipT (t : Tie) : Tie := ⟨t.other, t.one, !t.foe⟩
theorem joinB_self (a b : Int) (f : Bool) : joinB ⟨a, b, f⟩ a b = true := by
  unfold joinB
  rw [decide_eq_true (show (Tie.mk a b f).one = a from rfl), decide_eq_true (show (Tie.mk a b f).other = b from rfl)]
  rfl
theorem joinB_swap (a b : Int) (f : Bool) : joinB ⟨a, b, f⟩ b a = true := by
  rw [joinB_comm]
  exact joinB_self a b f
theorem w50_of {n m : Nat} {ks : List Bool} {ts0 : List Tie} {g : Int → Int} (n2 : 2 ≤ n) (n40 : n ≤ 40) (mn : m ≤ n) (sm : n + m ≤ 120) (lk : ks.length = n) (odd : ks.countP id % 2 = 1) (rd : Rd n ks ts0) (hg : ∀ e : Int, 0 ≤ e → e < ((n + m : Nat) : Int) → 1 ≤ g e ∧ g e ≤ 10 ^ 30) : W50 n m (ts0 ++ (ts0.take m).map flipT) g := by
  have l0 := rd.len
  have lt : (ts0 ++ (ts0.take m).map flipT).length = n + m := by rw [List.length_append, List.length_map, List.length_take]; omega
  have at1 : ∀ k : Nat, k < n → ∃ t, ts0[k]? = some t ∧ tieAt (ts0 ++ (ts0.take m).map flipT) (k : Nat) = t := fun k hk => by
    refine ⟨_, List.getElem?_eq_getElem (by omega), ?_⟩
    unfold tieAt
    rw [Int.toNat_natCast, List.getD_eq_getElem?_getD, List.getElem?_append_left (by omega), List.getElem?_eq_getElem (by omega)]
    rfl
  have at2 : ∀ k : Nat, k < m → ∃ t, ts0[k]? = some t ∧ tieAt (ts0 ++ (ts0.take m).map flipT) ((n + k : Nat) : Int) = flipT t := fun k hk => by
    refine ⟨_, List.getElem?_eq_getElem (by omega), ?_⟩
    unfold tieAt
    rw [Int.toNat_natCast, List.getD_eq_getElem?_getD, List.getElem?_append_right (by omega), show n + k - ts0.length = k by omega, List.getElem?_map, List.getElem?_take_of_lt hk, List.getElem?_eq_getElem (by omega)]
    rfl
  have rg : ∀ i : Nat, i < n → (rng n).getD i 0 = (i : Int) := fun i hi => by
    unfold rng
    rw [List.getD_eq_getElem?_getD, List.getElem?_map, List.getElem?_range hi]
    rfl
  refine ⟨n2, n40, mn, sm, lt, ⟨by omega, by omega, by omega, fun t ht => ?_⟩, ⟨rfl, fun i hi => ?_⟩, ?_, fun k hk => ?_, fun e e0 e1 => hg e e0 (by omega)⟩
  · rcases List.mem_append.mp ht with h | h
    · obtain ⟨k, ek⟩ := List.getElem?_of_mem h
      exact (rd.each k t ek).2.2
    · obtain ⟨u, hu, rfl⟩ := List.mem_map.mp h
      obtain ⟨k, ek⟩ := List.getElem?_of_mem (List.mem_of_mem_take hu)
      obtain ⟨a0, a1, b0, b1, ne⟩ := (rd.each k u ek).2.2
      exact ⟨b0, b1, a0, a1, Ne.symm ne⟩
  · rw [rng_length] at hi ⊢
    obtain ⟨t, e1, e2⟩ := at1 i hi
    rw [rg i hi, rg _ (Nat.mod_lt _ (by omega)), e2]
    exact (rd.each i t e1).1
  · unfold foesI
    have e : (rng n).filter (fun e => (tieAt (ts0 ++ (ts0.take m).map flipT) e).foe) = ((List.range n).filter fun k => kG ks k).map fun k : Nat => (k : Int) := by
      unfold rng
      rw [List.filter_map]
      congr 1
      refine List.filter_congr fun k hk => ?_
      obtain ⟨t, e1, e2⟩ := at1 k (List.mem_range.mp hk)
      show (tieAt _ ((k : Nat) : Int)).foe = _
      rw [e2]
      exact (rd.each k t e1).2.1
    rw [e, List.length_map]
    have e3 : ((List.range n).filter fun k => kG ks k).length = ks.countP id := by
      have e4 : ks = (List.range n).map (kG ks) := by
        refine List.ext_getElem? fun i => ?_
        by_cases hi : i < n
        · rw [List.getElem?_map, List.getElem?_range hi]
          show ks[i]? = some (ks.getD i false)
          rw [List.getD_eq_getElem?_getD, List.getElem?_eq_getElem (by omega)]
          rfl
        · rw [List.getElem?_eq_none (by omega), List.getElem?_eq_none (by rw [List.length_map, List.length_range]; omega)]
      rw [← List.countP_eq_length_filter]
      conv => rhs; rw [e4]
      rw [List.countP_map]
      rfl
    rw [e3]
    exact odd
  · obtain ⟨t, e1, e2⟩ := at1 k (by omega)
    obtain ⟨t', e1', e2'⟩ := at2 k hk
    rw [e1] at e1'
    obtain rfl := Option.some.inj e1'
    rw [e2, e2']
    exact ⟨rfl, rfl, rfl⟩
theorem pick4 {v : Int} (h0 : 0 ≤ v) (h1 : v < 4) {a b c d : Int} (ha : 1 ≤ a ∧ a ≤ 10 ^ 30) (hb : 1 ≤ b ∧ b ≤ 10 ^ 30) (hc : 1 ≤ c ∧ c ≤ 10 ^ 30) (hd : 1 ≤ d ∧ d ≤ 10 ^ 30) : ∃ u : Int, atI [V.int a, .int b, .int c, .int d] v = some (.int u) ∧ 1 ≤ u ∧ u ≤ 10 ^ 30 := by
  have : v = 0 ∨ v = 1 ∨ v = 2 ∨ v = 3 := by omega
  rcases this with z | z | z | z <;> subst z
  · exact ⟨a, rfl, ha⟩
  · exact ⟨b, rfl, hb⟩
  · exact ⟨c, rfl, hc⟩
  · exact ⟨d, rfl, hd⟩
theorem pickP (v : Int) (h0 : 0 ≤ v) (h1 : v < 2) : ∃ fo : Bool, atI [V.str "friend", V.str "foe"] v = some (.str (kindS fo)) := by
  have h01 : v = 0 ∨ v = 1 := by omega
  rcases h01 with e | e <;> subst e
  · exact ⟨false, rfl⟩
  · exact ⟨true, rfl⟩
theorem pickF (b : Bool) : atI [V.str "friend", V.str "foe"] (if decide (V.str (kindS b) = V.str "friend") = true then 1 else 0) = some (.str (kindS (!b))) := by cases b <;> decide
theorem odd_flip {ks : List Bool} (h : 0 < ks.length) : (ks.set 0 (!kG ks 0)).countP id % 2 ≠ ks.countP id % 2 := by
  cases ks with
  | nil => cases h
  | cons b ks =>
    show ((!b) :: ks).countP id % 2 ≠ (b :: ks).countP id % 2
    rw [List.countP_cons, List.countP_cons]
    cases b
    · show (ks.countP id + 1) % 2 ≠ (ks.countP id + 0) % 2
      omega
    · show (ks.countP id + 0) % 2 ≠ (ks.countP id + 1) % 2
      omega
def spRound : Sp := fun vs H Q _ => ∃ d c : Addr, vs = [.ref d] ∧ Deck H d c ∧ ∀ (wv : V) (n m : Nat) (ts : List Tie) (g : Int → Int) (H' : Hp), WorldAt H' wv n ts g → W50 n m ts g → Deck H' d c → Kp d c H H' → Q wv H'
section
variable {P : Program} {w : World} {K : PySem.W.Frag} {mg : Str → Option Value} {base : Heap}
set_option maxHeartbeats 8000000 in
theorem ok_l_round {f : Addr} {fd : FuncData} (F : Fun K "_law_round" "_law_round" s_l_round f fd) (M : Free mg) (m_min : mg "min" = none) (D_l_draw : Df P w K mg base 1 "_law_draw" ["_law_feed_here", "_law_most"] spDraw) : FnOk P w K mg base CX0 2 f fd ["_law_feed_here"] spRound := by
  obtain ⟨f_l_draw, fd_l_draw, G_l_draw, g_l_draw, k_l_draw, b_l_draw⟩ := D_l_draw
  refine F.ok sc_l_round (fun vs H Q E h => ?_) (fun cdv A outer s H vs Q E hr h => ?_)
  · obtain ⟨d, c, rfl, _⟩ := h
    rfl
  · obtain ⟨d, c, rfl, D, q⟩ := h
    refine ⟨_, (pss_cons (ps_set (i := 1) sc_l_round.nd rfl (.inr rfl) (pe_ix ix_list (pe_lst (pa_cons (pe_op op_add pe_int (pe_call G_l_draw (hr.mono (by decide)) (by rfl) g_l_draw k_l_draw b_l_draw .nil pass0 (pa_cons (pv 0) (pa_cons pe_int pa_nil)))) (pa_cons pe_int (pa_cons (pe_op op_add pe_int (pe_call G_l_draw (hr.mono (by decide)) (by rfl) g_l_draw k_l_draw b_l_draw .nil pass0 (pa_cons (pv 0) (pa_cons pe_int pa_nil)))) pa_nil)))) (pe_call G_l_draw (hr.mono (by decide)) (by rfl) g_l_draw k_l_draw b_l_draw .nil pass0 (pa_cons (pv 0) (pa_cons pe_int pa_nil))) (fun _ _ => rfl)))
      (pss_cons (ps_set (i := 2) sc_l_round.nd rfl (.inr rfl) (pe_lc (own := [("_law_k", 3)]) (g := (gName 3)) (tt := tYes) rfl sc_l_round.nd (pi_range1 (by rfl) M.range (pa_cons (pv 1) pa_nil)) (blkOk_by (N := N_l_round) (sc := defScope s_l_round) (own := [("_law_k", 3)]) (by decide +kernel)) (fun _ _ _ _ _ => (pg_name (i := 3) sc_l_round.nd rfl (.inl rfl))) (fun _ _ _ _ _ => pts_nil) (fun _ _ _ _ _ => (pe_ix (r := rIxL K) ix_list (pe_lst (pa_cons pe_str (pa_cons pe_str pa_nil))) (pe_call G_l_draw (hr.mono (by decide)) (by rfl) g_l_draw k_l_draw b_l_draw .nil pass0 (pa_cons (pv 0) (pa_cons pe_int pa_nil))) (fun _ _ => rfl)))))
      (Evl.pss_cut (ps_if (pt_cmpR op_eq (pe_op op_mod (pe_bm PySem.F.plainAttrs_list PySem.F.slot_list_count PySem.F.type_list_count mt_lcountF (pv 2) (pa_cons pe_str pa_nil)) pe_int) pe_int (nomark _))
        (pss_one (ps_asg (pe_ix ix_list (pe_lst (pa_cons pe_str (pa_cons pe_str pa_nil))) (pe_callTy call_int1 (by rfl) M.int (by decide +kernel) (pa_cons (pe_cmpR op_eq (pe_ix ix_list (pv 2) pe_int (fun _ _ => rfl)) pe_str (nomark _)) pa_nil)) (fun _ _ => rfl)) (pg_sub (pv 2) pe_int set_list)))
        pss_nil)
      (pss_cons (ps_setLc (i := 4) (own := [("_law_k", 3)]) (g := (gName 3)) (tt := tYes) rfl sc_l_round.nd rfl rfl (sw_true rfl rfl rfl (by decide +kernel)) (pi_range1 (by rfl) M.range (pa_cons (pv 1) pa_nil)) (blkOk_by (N := N_l_round) (sc := defScope s_l_round) (own := [("_law_k", 3)]) (by decide +kernel)) (fun _ _ _ _ _ => (pg_name (i := 3) sc_l_round.nd rfl (.inl rfl))) (fun _ _ _ _ _ => pts_nil) (fun _ _ _ _ _ => (pe_tup (pa_cons (pv 3) (pa_cons (pe_op op_mod (pe_op op_add (pv 3) pe_int) (pv 1)) (pa_cons (pe_ix (r := rIxL K) ix_list (pv 2) (pv 3) (fun _ _ => rfl)) pa_nil))))))
      (Evl.pss_cut (ps_if (pt_cmpR op_eq (pv 1) pe_int (nomark _))
        (pss_one (ps_asg (pe_tup (pa_cons pe_int (pa_cons pe_int (pa_cons (pe_ix ix_list (pv 2) pe_int (fun _ _ => rfl)) pa_nil)))) (pg_sub (pv 4) pe_int set_list)))
        pss_nil)
      (pss_cons (ps_for PassesOwn.never rfl (pi_range1 (by rfl) M.range (pa_cons (pe_callB (call_min3Nu rfl) (by rfl) m_min (by decide +kernel) (pa_cons (pv 1) (pa_cons (pe_call G_l_draw (hr.mono (by decide)) (by rfl) g_l_draw k_l_draw b_l_draw .nil pass0 (pa_cons (pv 0) (pa_cons pe_int pa_nil))) (pa_cons (pe_op op_sub pe_int (pv 1)) pa_nil)))) pa_nil)) (pg_name (i := 3) sc_l_round.nd rfl (.inl rfl))
        (pss_cons (ps_asg (pe_ix ix_list (pv 4) (pv 3) (fun _ _ => rfl)) (pg_tup rfl (pgs_cons (pg_name (i := 5) sc_l_round.nd rfl (.inl rfl)) (pgs_cons (pg_name (i := 6) sc_l_round.nd rfl (.inl rfl)) (pgs_cons (pg_name (i := 7) sc_l_round.nd rfl (.inl rfl)) pgs_nil)))))
        (pss_one (ps_expr (pe_bm PySem.F.plainAttrs_list PySem.F.slot_list_append PySem.F.type_list_append mt_append (pv 4) (pa_cons (pe_tup (pa_cons (pv 6) (pa_cons (pv 5) (pa_cons (pe_ix ix_list (pe_lst (pa_cons pe_str (pa_cons pe_str pa_nil))) (pe_callTy call_int1 (by rfl) M.int (by decide +kernel) (pa_cons (pe_cmpR op_eq (pv 7) pe_str (nomark _)) pa_nil)) (fun _ _ => rfl)) pa_nil)))) pa_nil))))))
      (pss_cons (ps_set (i := 8) sc_l_round.nd rfl (.inl rfl) pe_non)
      (Evl.pss_cut (ps_if (pt_cmpR op_gt (pe_call G_l_draw (hr.mono (by decide)) (by rfl) g_l_draw k_l_draw b_l_draw .nil pass0 (pa_cons (pv 0) (pa_cons pe_int pa_nil))) pe_int (nomark _))
        (pss_one (ps_set (i := 8) sc_l_round.nd rfl (.inl rfl) (pe_callTy call_tuple_of (by rfl) M.tuple (by decide +kernel) (pa_cons (pe_lc (own := [("_law_tie", 9)]) (g := (gName 9)) (tt := tYes) rfl sc_l_round.nd (pi_list (pv 4)) (blkOk_by (N := N_l_round) (sc := defScope s_l_round) (own := [("_law_tie", 9)]) (by decide +kernel)) (fun _ _ _ _ _ => (pg_name (i := 9) sc_l_round.nd rfl (.inl rfl))) (fun _ _ _ _ _ => pts_nil) (fun _ _ _ _ _ => (pe_ix (r := rIxL K) ix_list (pe_lst (pa_cons pe_int (pa_cons (pe_op op_pow pe_int pe_int) (pa_cons (pe_op op_sub (pe_op op_pow pe_int pe_int) pe_int) (pa_cons (pe_op op_add pe_int (pe_call G_l_draw (hr.mono (by decide)) (by rfl) g_l_draw k_l_draw b_l_draw .nil pass0 (pa_cons (pv 0) (pa_cons pe_int pa_nil)))) pa_nil))))) (pe_call G_l_draw (hr.mono (by decide)) (by rfl) g_l_draw k_l_draw b_l_draw .nil pass0 (pa_cons (pv 0) (pa_cons pe_int pa_nil))) (fun _ _ => rfl)))) pa_nil))))
        pss_nil)
      (pss_one (ps_ret (pe_tup (pa_cons (pv 1) (pa_cons (pe_callTy call_tuple_of (by rfl) M.tuple (by decide +kernel) (pa_cons (pv 4) pa_nil)) (pa_cons (pv 8) pa_nil)))))))))))))), ?_⟩
    refine ⟨.ref d, rfl, d, c, 5, rfl, D, by decide, by decide, fun a H1 a0 a1 D1 K1 => ⟨_, _, rfl, rfl, .ref d, rfl, d, c, 39, rfl, D1, by decide, by decide, fun b H2 b0 b1 D2 K2 => ⟨_, _, rfl, rfl, by show 3 ≤ sizeLine; decide, fun p np => ?_⟩⟩⟩
    have sp := same_new (o := .lst [.int (2 + a), .int 40, .int (2 + b)]) np
    obtain ⟨pd, pc⟩ : p ≠ d ∧ p ≠ c := D2.ned np
    have hp := upd_same (H := H2) (a := p) (o := .lst [.int (2 + a), .int 40, .int (2 + b)])
    have D3 := D2.same sp
    have K3 := (K1.trans K2).trans (Same.kp sp)
    generalize upd H2 p (.lst [.int (2 + a), .int 40, .int (2 + b)]) = H3 at hp D3 K3 ⊢
    refine ⟨.ref d, rfl, d, c, 3, rfl, D3, by decide, by decide, fun z H4 z0 z1 D4 K4 => ?_⟩
    obtain ⟨n, en, n2, n40⟩ : ∃ n : Nat, atI [V.int (2 + a), .int 40, .int (2 + b)] z = some (.int n) ∧ 2 ≤ n ∧ n ≤ 40 := by
      have : z = 0 ∨ z = 1 ∨ z = 2 := by omega
      rcases this with h | h | h <;> subst h
      · exact ⟨(2 + a).toNat, by rw [Int.toNat_of_nonneg (by omega)]; rfl, by omega, by omega⟩
      · exact ⟨40, rfl, by decide, by decide⟩
      · exact ⟨(2 + b).toNat, by rw [Int.toNat_of_nonneg (by omega)]; rfl, by omega, by omega⟩
    refine ⟨p, _, z, .int n, rfl, rfl, SqL.of (K4 _ _ pd pc hp), en, ?_⟩
    have K5 := K3.trans K4
    clear hp D3 K3 D2 K2 D1 K1 sp K4 np en
    -- kinds
    refine ⟨.int n, rfl, n, rfl, by omega, by omega, fun Z nZ => ?_⟩
    rw [Int.toNat_natCast]
    obtain ⟨Zd, Zc⟩ : Z ≠ d ∧ Z ≠ c := D4.ned nZ
    have nZ0 := K5.free nZ Zd Zc
    refine lc_range (lo := 0) (n := n) (fun i H' => ∃ ks : List Bool, H' Z = some (.lst (ks.map fun b => .str (kindS b))) ∧ ks.length = i ∧ Deck H' d c ∧ Kp d c H H') ⟨[], upd_same, rfl, D4.same (same_new nZ), K5.trans (Kp.new nZ)⟩ ?_ ?_
    · rintro i H5 hi ⟨ks, hZ, lk, D5, K6⟩
      refine ⟨rfl, by show 2 ≤ sizeLine; decide, fun p np => ?_⟩
      have sp := same_new (o := .lst [.str "friend", .str "foe"]) np
      obtain ⟨pd, pc⟩ : p ≠ d ∧ p ≠ c := D5.ned np
      refine ⟨.ref d, rfl, d, c, 2, rfl, D5.same sp, by decide, by decide, fun v H7 v0 v1 D7 K7 => ?_⟩
      obtain ⟨fo, ef⟩ := pickP v v0 v1
      have hZ7 := K7 _ _ Zd Zc (sp _ _ hZ)
      refine ⟨p, _, v, .str (kindS fo), rfl, rfl, SqL.of (K7 _ _ pd pc upd_same), ef, _, hZ7, by rw [List.length_map]; exact small1000 (by omega), ks ++ [fo], by rw [upd_same, List.map_append]; rfl, by rw [List.length_append, lk]; rfl, D7.mut Zd Zc, ((K6.trans (Same.kp sp)).trans K7).mut nZ0⟩
    rintro H5 ⟨ks, hZ, lk, D5, K6⟩
    clear D4 K5 D
    -- an odd number of foes
    refine ⟨fun σ' H' => ∃ (ks : List Bool) (y3 : Option V), σ' = [some (.ref d), some (.int n), some (.ref Z), y3, none, none, none, none, none, none] ∧ H' Z = some (.lst (ks.map fun b => .str (kindS b))) ∧ ks.length = n ∧ ks.countP id % 2 = 1 ∧ Deck H' d c ∧ Kp d c H H', ?_, ?_⟩
    · refine ⟨.ref Z, rfl, .inl ⟨rfl, _, SqL.of hZ⟩, Z, _, .str "foe", rfl, rfl, SqL.of hZ, rfl, flat_kinds ks, _, _, rfl, rfl, (by show (0 : Int) < 2; decide), rfl, _, rfl, ?_⟩
      rw [foes_count]
      refine ite2 (fun _ => ?_) (fun hodd => ⟨ks, _, rfl, hZ, lk, ?_, D5, K6⟩)
      · refine ⟨by show 2 ≤ sizeLine; decide, fun p np => ?_⟩
        have sp := same_new (o := .lst [.str "friend", .str "foe"]) np
        have hZ6 := sp _ _ hZ
        have hp6 := upd_same (H := H5) (a := p) (o := .lst [.str "friend", .str "foe"])
        have D6 := D5.same sp
        have K7 := K6.trans (Same.kp sp)
        generalize upd H5 p (.lst [.str "friend", .str "foe"]) = H6 at hZ6 hp6 D6 K7 ⊢
        have k0 := kG_at (ks := ks) (k := 0) (by omega)
        have ek : ks.countP id % 2 = 0 := by
          rename_i h
          have h := of_decide_eq_true h
          have h := V.int.inj h
          omega
        refine ⟨.ref Z, rfl, Z, _, 0, .str (kindS (kG ks 0)), rfl, rfl, SqL.of hZ6, atI_nat (j := 0) k0, rfl, .inr ⟨_, rfl, p, _, _, .str (kindS (!kG ks 0)), rfl, rfl, SqL.of hp6, pickF _, .ref Z, rfl, Z, _, 0, 0, rfl, rfl, hZ6, ixN_of (i := 0) (Int.le_refl _) (by rw [List.length_map]; omega), ?_⟩⟩
        have fl := odd_flip (ks := ks) (by omega)
        refine ⟨ks.set 0 (!kG ks 0), _, rfl, by rw [upd_same, List.map_set] <;> rfl, by rw [List.length_set]; exact lk, by omega, D6.mut Zd Zc, K7.mut nZ0⟩
      · have : ¬ (((ks.countP id : Nat) : Int) % 2 = 0) := fun z => hodd (decide_eq_true (by show V.int (((ks.countP id : Nat) : Int) % 2) = V.int 0; rw [z]))
        omega
    clear hZ lk D5 K6
    rintro σ' H6 ⟨ks, y3, rfl, hZ, lk, odd, D6, K6⟩
    -- the ties
    refine ⟨.int n, rfl, n, rfl, by omega, by omega, fun L nL => ?_⟩
    rw [Int.toNat_natCast]
    obtain ⟨Ld, Lc⟩ : L ≠ d ∧ L ≠ c := D6.ned nL
    have nL0 := K6.free nL Ld Lc
    have ZL : Z ≠ L := ne_of_none hZ nL
    refine lc_range (lo := 0) (n := n) (fun i H' => ∃ vs : List V, H' L = some (.lst vs) ∧ Paired (TieV H') vs ((List.range i).map fun k : Nat => (⟨(k : Int), (((k + 1) % n : Nat) : Int), kG ks k⟩ : Tie)) ∧ Same H6 H') ⟨[], upd_same, .nil, same_new nL⟩ ?_ ?_
    · rintro i H7 hi ⟨vs, hL, hv, s7⟩
      have lv := Paired.length hv
      rw [List.length_map, List.length_range] at lv
      rw [Int.zero_add]
      have ki := kG_at (ks := ks) (k := i) (by omega)
      refine ⟨rfl, .int (i : Nat), rfl, .int (i : Nat), rfl, _, _, rfl, rfl, .int n, rfl, _, _, rfl, rfl, show (0 : Int) < n by omega, .ref Z, rfl, .int (i : Nat), rfl, Z, _, (i : Nat), _, rfl, rfl, SqL.of (s7 _ _ hZ), atI_nat ki, by show 3 ≤ sizeLine; decide, fun p np => ?_⟩
      have em : ((i : Int) + 1) % (n : Int) = (((i + 1) % n : Nat) : Int) := by rw [Int.natCast_emod]; rfl
      rw [show [V.int (i : Nat), (fun a b : Int => V.int (a % b)) ((fun a b : Int => a + b) (i : Nat) 1) (n : Int), .str (kindS (kG ks i))] = [V.int (i : Nat), .int (((i + 1) % n : Nat) : Int), .str (kindS (kG ks i))] from by show [V.int (i : Nat), V.int (((i : Int) + 1) % (n : Int)), .str (kindS (kG ks i))] = _; rw [em]]
      have sp := same_new (o := .tup [V.int (i : Nat), .int (((i + 1) % n : Nat) : Int), .str (kindS (kG ks i))]) np
      have tk := tk_lst (ys := vs ++ [.ref p]) (sp _ _ hL)
      refine ⟨vs, sp _ _ hL, small1000 (by omega), vs ++ [.ref p], upd_same, ?_, Same.mut (s7.trans sp) nL⟩
      rw [List.range_succ, List.map_append]
      exact Paired.snoc (ties_tk tk (ties_tk (Same.tk sp) hv)) ⟨p, rfl, tk _ _ upd_same⟩
    rintro H7 ⟨vs, hL, hv, s7⟩
    have hZ7 := s7 _ _ hZ
    have D7 := D6.same s7
    have K7 := K6.trans (Same.kp s7)
    clear hZ D6 K6 s7 nL
    have rd0 : Rd n ks ((List.range n).map fun k : Nat => (⟨(k : Int), (((k + 1) % n : Nat) : Int), kG ks k⟩ : Tie)) := ⟨by rw [List.length_map, List.length_range], fun k t e => by
      rw [List.getElem?_map] at e
      obtain ⟨j, ej, rfl⟩ := Option.map_eq_some_iff.mp e
      have hj := (List.getElem?_eq_some_iff.mp ej).1
      rw [List.length_range] at hj
      rw [List.getElem?_range hj] at ej
      obtain rfl := Option.some.inj ej
      have := Nat.mod_lt (k + 1) (show 0 < n by omega)
      refine ⟨joinB_self _ _ _, rfl, by show (0 : Int) ≤ (k : Nat); omega, by show ((k : Nat) : Int) < n; omega, by show (0 : Int) ≤ (((k + 1) % n : Nat) : Int); omega, by show (((k + 1) % n : Nat) : Int) < n; omega, ?_⟩
      show ((k : Nat) : Int) ≠ (((k + 1) % n : Nat) : Int)
      intro z
      have z : k = (k + 1) % n := by omega
      by_cases h : k + 1 = n
      · rw [h, Nat.mod_self] at z
        omega
      · rw [Nat.mod_eq_of_lt (by omega)] at z
        omega⟩
    generalize (List.range n).map (fun k : Nat => (⟨(k : Int), (((k + 1) % n : Nat) : Int), kG ks k⟩ : Tie)) = ts0 at hv rd0
    refine ⟨fun σ' H' => ∃ (vs : List V) (ts : List Tie) (y3 : Option V), σ' = [some (.ref d), some (.int n), some (.ref Z), y3, some (.ref L), none, none, none, none, none] ∧ H' L = some (.lst vs) ∧ Paired (TieV H') vs ts ∧ Rd n ks ts ∧ Deck H' d c ∧ Kp d c H H', ?_, ?_⟩
    · refine ⟨.int n, rfl, rfl, _, rfl, ?_⟩
      refine ite2 (fun h2 => ?_) (fun _ => ⟨vs, ts0, _, rfl, hL, hv, rd0, D7, K7⟩)
      have n2' : n = 2 := by
        have h2 := of_decide_eq_true h2
        have h2 := V.int.inj h2
        omega
      have l0 := rd0.len
      have lv := Paired.length hv
      have k1 := kG_at (ks := ks) (k := 1) (by omega)
      refine ⟨.ref Z, rfl, Z, _, 1, _, rfl, rfl, SqL.of hZ7, atI_nat (j := 1) k1, by show 3 ≤ sizeLine; decide, fun p np => ?_⟩
      have sp := same_new (o := .tup [.int 0, .int 1, .str (kindS (kG ks 1))]) np
      have hL8 := sp _ _ hL
      refine ⟨.ref L, rfl, L, _, 1, 1, rfl, rfl, hL8, ixN_of (i := 1) (by decide) (by omega), ?_⟩
      have tk := tk_lst (ys := vs.set 1 (.ref p)) hL8
      have hv9 := ties_tk tk (ties_tk (Same.tk sp) hv)
      have hnew : TieV (upd (upd H7 p (.tup [.int 0, .int 1, .str (kindS (kG ks 1))])) L (.lst (vs.set 1 (.ref p)))) (.ref p) ⟨0, 1, kG ks 1⟩ := ⟨p, rfl, tk _ _ upd_same⟩
      refine ⟨vs.set 1 (.ref p), ts0.set 1 ⟨0, 1, kG ks 1⟩, _, rfl, upd_same, ?_, ⟨by rw [List.length_set]; exact l0, fun k t e => ?_⟩, (D7.same sp).mut Ld Lc, (K7.trans (Same.kp sp)).mut nL0⟩
      · match vs, ts0, hv9, hnew, lv, l0 with
        | x :: y :: vs', t :: u :: ts', .cons h1 (.cons h2 h3), hn, _, _ => exact .cons h1 (.cons hn h3)
        | [], _, _, _, lv, l0 => simp only [List.length_nil] at lv; omega
        | [x], _, _, _, lv, l0 => simp only [List.length_cons, List.length_nil] at lv; omega
      · by_cases h : k = 1
        · subst h
          rw [List.getElem?_set_self (by omega)] at e
          obtain rfl := Option.some.inj e
          rw [n2']
          exact ⟨joinB_self 0 1 (kG ks 1), rfl, Int.le_refl 0, (by show (0 : Int) < 2; decide), (by show (0 : Int) ≤ 1; decide), (by show (1 : Int) < 2; decide), (by show (0 : Int) ≠ 1; decide)⟩
        · rw [List.getElem?_set_ne (Ne.symm h)] at e
          exact rd0.each k t e
    clear hL hv rd0 D7 K7 hZ7
    rintro σ' H8 ⟨vs, ts0, y3, rfl, hL, hv, rd, D8, K8⟩
    have l0 := rd.len
    have lv := Paired.length hv
    refine ⟨.int n, rfl, .ref d, rfl, d, c, 81, rfl, D8, by decide, by decide, fun r H9 r0 r1 D9 K9 => ?_⟩
    obtain ⟨m0, em, m1, m2, m3, m4⟩ := min3_of n r (120 - n)
    obtain ⟨m, rfl⟩ : ∃ m : Nat, m0 = (m : Int) := ⟨m0.toNat, by omega⟩
    have hL9 := K9 _ _ Ld Lc hL
    have hv9 := ties_tk (K9.tk D8) hv
    have K09 := K8.trans K9
    refine ⟨.int n, rfl, _, _, rfl, rfl, _, _, _, _, rfl, em, m, rfl, by omega, by omega, ?_⟩
    rw [Int.toNat_natCast]
    clear hL hv D8 K8 K9
    refine for_range (lo := 0) (n := m) (fun i σ' H' => ∃ (y3 y5 y6 y7 : Option V) (vs : List V), σ' = [some (.ref d), some (.int n), some (.ref Z), y3, some (.ref L), y5, y6, y7, none, none] ∧ H' L = some (.lst vs) ∧ Paired (TieV H') vs (ts0 ++ (ts0.take i).map flipT) ∧ Deck H' d c ∧ Kp d c H H') ⟨_, _, _, _, vs, rfl, hL9, by rw [List.take_zero, List.map_nil, List.append_nil]; exact hv9, D9, K09⟩ ?_ ?_
    · clear hL9 hv9 D9 K09
      rintro i σ' H2 hi ⟨y3, y5, y6, y7, vs, rfl, hL, hv, D2, K2⟩
      rw [Int.zero_add]
      have lv := Paired.length hv
      rw [List.length_append, List.length_map, List.length_take] at lv
      have et0 : ts0[i]? = some (ts0[i]'(by omega)) := List.getElem?_eq_getElem _
      have et : (ts0 ++ (ts0.take i).map flipT)[i]? = some (ts0[i]'(by omega)) := by rw [List.getElem?_append_left (by omega)]; exact et0
      generalize ts0[i]'(by omega) = t at et0 et
      obtain ⟨u, eu, tc, rfl, htc⟩ := Paired.at' hv et
      refine ⟨.ref L, rfl, .int (i : Nat), rfl, L, _, (i : Nat), _, rfl, rfl, SqL.of hL, atI_nat eu, tc, _, rfl, SqT.of htc, rfl, _, _, rfl, _, _, rfl, _, _, rfl, rfl, ?_⟩
      refine ⟨.ref L, rfl, .inl ⟨rfl, _, SqL.of hL⟩, .int t.other, rfl, .int t.one, rfl, by show 2 ≤ sizeLine; decide, fun p np => ?_⟩
      have sp := same_new (o := .lst [.str "friend", .str "foe"]) np
      have hL3 := sp _ _ hL
      have hp3 := upd_same (H := H2) (a := p) (o := .lst [.str "friend", .str "foe"])
      have D3 := D2.same sp
      have K3 := K2.trans (Same.kp sp)
      have hv3 := ties_tk (Same.tk sp) hv
      generalize upd H2 p (.lst [.str "friend", .str "foe"]) = H3 at hL3 hp3 D3 K3 hv3 ⊢
      refine ⟨.str (kindS t.foe), rfl, rfl, .inr ⟨_, rfl, p, _, _, .str (kindS (!t.foe)), rfl, rfl, SqL.of hp3, pickF _, by show 3 ≤ sizeLine; decide, fun q1 nq => ?_⟩⟩
      have sq := same_new (o := .tup [.int t.other, .int t.one, .str (kindS (!t.foe))]) nq
      have hL4 := sq _ _ hL3
      refine ⟨L, vs, _, rfl, rfl, hL4, small1000 (by omega), ?_⟩
      have tk := tk_lst (ys := vs ++ [.ref q1]) hL4
      refine ⟨_, _, _, _, vs ++ [.ref q1], rfl, upd_same, ?_, (D3.same sq).mut Ld Lc, (K3.trans (Same.kp sq)).mut nL0⟩
      rw [List.take_add_one, et0, List.map_append, ← List.append_assoc]
      exact Paired.snoc (ties_tk tk (ties_tk (Same.tk sq) hv3)) ⟨q1, rfl, tk _ _ upd_same⟩
    clear hL9 hv9 D9 K09 lv
    rintro σ' H2 ⟨y3, y5, y6, y7, vs, rfl, hL, hv, D2, K2⟩
    have lv := Paired.length hv
    rw [List.length_append, List.length_map, List.length_take] at lv
    have lts : (ts0 ++ (ts0.take m).map flipT).length = n + m := by rw [List.length_append, List.length_map, List.length_take]; omega
    refine ⟨fun σ' H' => ∃ (y3 y5 y6 y7 y9 : Option V) (wt : V) (g : Int → Int), σ' = [some (.ref d), some (.int n), some (.ref Z), y3, some (.ref L), y5, y6, y7, some wt, y9] ∧ H' L = some (.lst vs) ∧ Paired (TieV H') vs (ts0 ++ (ts0.take m).map flipT) ∧ Wts H' wt (rng (n + m)) g ∧ (∀ e : Int, 0 ≤ e → e < ((n + m : Nat) : Int) → 1 ≤ g e ∧ g e ≤ 10 ^ 30) ∧ Deck H' d c ∧ Kp d c H H', ?_, ?_⟩
    · refine ⟨.ref d, rfl, d, c, 3, rfl, D2, by decide, by decide, fun r3 H3 c0 c1 D3 K3 => ⟨_, _, rfl, rfl, _, rfl, ?_⟩⟩
      have hL3 := K3 _ _ Ld Lc hL
      have hv3 := ties_tk (K3.tk D2) hv
      have K03 := K2.trans K3
      clear hL hv D2 K2 K3
      refine ite2 (fun _ => ?_) (fun _ => ⟨_, _, _, _, _, .non, fun _ => 1, rfl, hL3, hv3, .inl ⟨rfl, fun _ _ => rfl⟩, fun e _ _ => ⟨Int.le_refl 1, (by show (1 : Int) ≤ 10 ^ 30; decide)⟩, D3, K03⟩)
      refine ⟨.ref L, rfl, L, rfl, ⟨_, SqL.of hL3⟩, fun Y nY => ?_⟩
      obtain ⟨Yd, Yc⟩ : Y ≠ d ∧ Y ≠ c := D3.ned nY
      have nY0 := K03.free nY Yd Yc
      have LY : L ≠ Y := ne_of_none hL3 nY
      refine lc_list (xs := vs) (fun i H' => ∃ ws : List Int, H' Y = some (.lst (ws.map V.int)) ∧ ws.length = i ∧ (∀ x ∈ ws, 1 ≤ x ∧ x ≤ 10 ^ 30) ∧ H' L = some (.lst vs) ∧ Paired (TieV H') vs (ts0 ++ (ts0.take m).map flipT) ∧ Deck H' d c ∧ Kp d c H H') ⟨[], upd_same, rfl, fun x h => (by cases h), same_new nY _ _ hL3, ties_tk (Same.tk (same_new nY)) hv3, D3.same (same_new nY), K03.trans (Kp.new nY)⟩ (fun i H' _ h => by
        obtain ⟨_, _, _, _, h, _⟩ := h
        exact SqL.of h) ?_ ?_
      · rintro i x H4 ex ⟨ws, hY, lw, pw, hL4, hv4, D4, K4⟩
        have il := (List.getElem?_eq_some_iff.mp ex).1
        refine ⟨rfl, 10, 30, rfl, rfl, ⟨by decide, by decide, by decide⟩, 10, 30, rfl, rfl, ⟨by decide, by decide, by decide⟩, _, _, rfl, rfl, .ref d, rfl, d, c, 9, rfl, D4, by decide, by decide, fun v H5 v0 v1 D5 K5 => ⟨_, _, rfl, rfl, by show 4 ≤ sizeLine; decide, fun p np => ?_⟩⟩
        obtain ⟨pd, pc⟩ : p ≠ d ∧ p ≠ c := D5.ned np
        have sp := same_new (o := .lst [.int 1, .int ((10 : Int) ^ (30 : Int).toNat), .int ((10 : Int) ^ (30 : Int).toNat - 1), .int (1 + v)]) np
        refine ⟨.ref d, rfl, d, c, 4, rfl, D5.same sp, by decide, by decide, fun v2 H6 w0 w1 D6 K6 => ?_⟩
        obtain ⟨u, eu, u1, u2⟩ := pick4 (v := v2) w0 w1 (a := 1) (b := (10 : Int) ^ (30 : Int).toNat) (c := (10 : Int) ^ (30 : Int).toNat - 1) (d := 1 + v) ⟨by decide, by decide⟩ ⟨by decide, by decide⟩ ⟨by decide, by decide⟩ ⟨by omega, by
          have : (10 : Int) ≤ 10 ^ 30 := by decide
          omega⟩
        have K456 := (K5.trans (Same.kp sp)).trans K6
        have hY6 := K456 _ _ Yd Yc hY
        have tk6 := (K5.tk D4).trans ((Same.tk sp).trans (K6.tk (D5.same sp)))
        have tk7 := tk_lst (ys := ws.map V.int ++ [.int u]) hY6
        refine ⟨p, _, v2, .int u, rfl, rfl, SqL.of (K6 _ _ pd pc upd_same), eu, _, hY6, by rw [List.length_map]; exact small1000 (by omega), ws ++ [u], by rw [upd_same, List.map_append]; rfl, by rw [List.length_append, lw]; rfl, fun y hy => (List.mem_append.mp hy).elim (pw y) fun h => by rw [List.mem_singleton.mp h]; exact ⟨u1, u2⟩, by rw [upd_ne LY]; exact K456 _ _ Ld Lc hL4, ties_tk tk7 (ties_tk tk6 hv4), D6.mut Yd Yc, (K4.trans K456).mut nY0⟩
      · rintro H4 ⟨ws, hY, lw, pw, hL4, hv4, D4, K4⟩
        refine ⟨Y, _, rfl, .inl ⟨SqL.of hY, fun a na => ?_⟩⟩
        have sa := same_new (o := .tup (ws.map V.int)) na
        have lw' : ws.length = n + m := by omega
        refine ⟨_, _, _, _, _, .ref a, gW ws, rfl, sa _ _ hL4, ties_tk (Same.tk sa) hv4, .inr ⟨a, ws, rfl, upd_same, fun x hx => ⟨by have := mem_rng.mp hx; omega, rfl⟩⟩, fun e e0 e1 => ?_, D4.same sa, K4.trans (Same.kp sa)⟩
        refine pw _ ?_
        unfold gW
        exact getD_mem (by omega)
    clear hL hv D2 K2
    rintro σ' H3 ⟨y3, y5, y6, y7, y9, wt, g, rfl, hL, hv, hw, hg, D3, K3⟩
    refine ⟨.int n, rfl, .ref L, rfl, L, _, rfl, .inl ⟨SqL.of hL, fun e ne => ⟨wt, rfl, by show 3 ≤ sizeLine; decide, fun a na => ?_⟩⟩⟩
    have s2 := (same_new (o := .tup vs) ne).trans (same_new (o := .tup [.int n, .ref e, wt]) na)
    refine q _ n m _ g _ ⟨⟨a, e, wt, vs, rfl, upd_same, same_new na _ _ upd_same, ties_tk (Same.tk s2) hv, by rw [lts]; exact hw.tk (Same.tk s2)⟩⟩ (w50_of n2 n40 (by omega) (by omega) lk odd rd hg) (D3.same s2) (K3.trans (Same.kp s2))
end
/-! ### k50: the law -/
/-- a row of one thing, two thousand times -/
def rRep2k (K : PySem.W.Frag) : R2 := fun x y H Q => ∃ l u, x = .ref l ∧ y = .int 2000 ∧ SqT K H l [u] ∧ ∀ p, H p = none → Q (.ref p) (upd H p (.tup (List.replicate 2000 u)))
theorem op_rep2k {X : Cx} : OpR X (binaryOp .Mult) (rRep2k X.K) := by
  intro pins s σ H x y v u Q I rx ry want
  obtain ⟨l, e, rfl, rfl, hT, q⟩ := want
  cases rx
  obtain ⟨t, rfl⟩ := ry
  obtain ⟨its, r, ⟨⟨cls, dd, data, sl⟩, ho, hc, n, hd⟩, hs⟩ := I.tuple hT
  simp only at hc hd; subst hc hd
  have hle : its.length = 1 := r.length.symm
  have fl : (List.replicate 2000 its).flatten.length ≤ sizeLine := by rw [PyProof.Rows.lm_len_rep_flat, hle, sizeLine_eq]; decide
  have er : (List.replicate (2000 : Int).toNat [e]).flatten = List.replicate 2000 e := by
    show (List.replicate 2000 [e]).flatten = _
    rw [List.flatten_replicate_singleton]
  have hz : its.toArray.size = 1 := by rw [List.size_toArray, hle]
  have hi : its.toArray.isEmpty = false := by match its, hle with | [a], _ => rfl
  have k1 : (its.toArray.isEmpty || (2000 : Int) == 1) = false := by rw [hi]; rfl
  have k2 : (decide ((2000 : Int) ≤ 0) || its.toArray.isEmpty) = false := by rw [hi]; rfl
  have k4 : Builtin.Tuple.tupleTooMany (((its.toArray.size : Nat) : Int) * 2000) = false := by
    unfold Builtin.Tuple.tupleTooMany; rw [hz, sizeLine_eq]; decide
  have M := tuple_mulW l its.toArray n dd sl 2000 t (by decide) k1 k2 (by rw [hz]; decide) k4 (by rw [size_rep, List.size_toArray]; exact fl)
  refine wpAny_binaryOp_repeat_ref (T := "tuple") (U := "int") (by decide) ⟨_, ho, rfl⟩ (fun s' => typeIs_int s' 2000 t)
    noFill_tuple_mul F.fills_int_mul F.slot_int_rmul repeat_tuple F.slot_int_index.lookup
    (call_meets F.slot_int_rmul (typeIs_int s 2000 t) F.entry_int_rmul (F.args_int_rmul_2 _ _)
      (int_rmul_tuple 2000 t l its.toArray n dd sl) ⟨ho, rfl, ⟨_, ho, rfl⟩, call_meets F.slot_tuple_mul ⟨_, ho, rfl⟩ F.entry_tuple_mul (F.args_tuple_mul_2 _ _) M ⟨ho, ?_⟩⟩)
  rw [size_rep]
  refine ⟨.ref s.heap.objs.size, upd H s.heap.objs.size (.tup (List.replicate 2000 e)), I.laid (t' := s.toks) (fun b ob q => Heap.get?_push_of_some _ q) (Nat.le_refl _) ?_, rfl, q _ (I.hok.fresh (Nat.le_refl _))⟩
  have rr := r.rep (2000 : Int).toNat
  rw [er] at rr
  exact ⟨by rw [List.length_replicate, sizeLine_eq]; decide, _, rr, IsTup.new _ _⟩
theorem Deck.kt {Ps : List Addr} {H H' : Hp} {d c : Addr} (D : Deck H d c) (k : Kt Ps H H') (t : Tabs Ps H) : Deck H' d c := by
  obtain ⟨cells, st, n, h1, h2, h3⟩ := D.ex
  exact ⟨⟨cells, st, n, k.dct t h1, k.lst t h2, h3⟩⟩
theorem tabs_kp {Ps : List Addr} {H H' : Hp} {d c : Addr} (t : Tabs Ps H) (D : Deck H d c) (k : Kp d c H H') : Tabs Ps H' := fun P hP => by
  obtain ⟨cells, st, n, h1, h2, _⟩ := D.ex
  obtain ⟨ps, e, z⟩ := t P hP
  exact ⟨ps, k _ _ (fun y => by rw [y, h1] at e; cases e) (fun y => by rw [y, h2] at e; cases e) e, z⟩
theorem pap_sc {d : Nat} {H : Hp} {v : V} (h : Kn H v) (p : parts H v = none) : PapV d H v := PapV.mono (d := 0) (Nat.zero_le _) ⟨h, p⟩
theorem pap_tup {d : Nat} {H : Hp} {a : Addr} {xs : List V} (h : H a = some (.tup xs)) (l : xs.length ≤ 2500) (all : ∀ x ∈ xs, PapV d H x) : PapV (d + 1) H (.ref a) := ⟨.inr (.inl ⟨_, h⟩), fun ys e => by
  rw [parts_of' h] at e
  obtain rfl := Option.some.inj e
  exact ⟨all, l⟩⟩
theorem pap_ints {d : Nat} {H : Hp} {a : Addr} {ns : List Int} (h : H a = some (.tup (ns.map V.int))) (l : ns.length ≤ 2500) : PapV (d + 1) H (.ref a) := pap_tup h (by rw [List.length_map]; exact l) fun x hx => by
  obtain ⟨i, _, rfl⟩ := List.mem_map.mp hx
  exact pap_sc trivial rfl
theorem all1 {R : V → Prop} {a : V} (h : R a) : ∀ x ∈ [a], R x := fun x hx => by rw [List.mem_singleton.mp hx]; exact h
theorem all2 {R : V → Prop} {a b : V} (h : R a) (g : R b) : ∀ x ∈ [a, b], R x := fun x hx => by
  rcases List.mem_cons.mp hx with e | e
  · rw [e]; exact h
  · rw [List.mem_singleton.mp e]; exact g
theorem all5 {R : V → Prop} {a b c d e : V} (ha : R a) (hb : R b) (hc : R c) (hd : R d) (he : R e) : ∀ x ∈ [a, b, c, d, e], R x := fun x hx => by
  simp only [List.mem_cons, List.not_mem_nil, or_false] at hx
  rcases hx with rfl | rfl | rfl | rfl | rfl
  · exact ha
  · exact hb
  · exact hc
  · exact hd
  · exact he
/-- a row of rings: a ring and how often -/
theorem pap_row {H : Hp} {a rg pa ta : Addr} {ps es : List Int} {m : Int} (ha : H a = some (.tup [.ref rg, .int m])) (hrg : H rg = some (.tup [.ref pa, .ref ta])) (hpa : H pa = some (.tup (ps.map V.int))) (hta : H ta = some (.tup (es.map V.int))) (lp : ps.length ≤ 2500) (le : es.length ≤ 2500) : PapV 3 H (.ref a) :=
  pap_tup ha (by show 2 ≤ 2500; decide) (all2 (pap_tup hrg (by show 2 ≤ 2500; decide) (all2 (pap_ints hpa lp) (pap_ints hta le))) (pap_sc trivial rfl))
theorem pap_rings {H : Hp} {t r : Addr} {vs : List V} (ht : H t = some (.tup [.str "rings", .ref r])) (hr : H r = some (.tup vs)) (l : vs.length ≤ 2500) (all : ∀ x ∈ vs, PapV 3 H x) : PapV 5 H (.ref t) := pap_tup ht (by show 2 ≤ 2500; decide) (all2 (pap_sc trivial rfl) (pap_tup hr l all))
theorem WholeV.tk {H H' : Hp} (k : Tk H H') {n : Nat} {v : V} {m : Int} (h : WholeV H n v m) : WholeV H' n v m := by
  obtain ⟨t, r, a, rg, pa, ta, ps, es, e, h1, h2, h3, h4, h5, h6, ab⟩ := h
  exact ⟨t, r, a, rg, pa, ta, ps, es, e, k _ _ h1, k _ _ h2, k _ _ h3, k _ _ h4, k _ _ h5, k _ _ h6, ab⟩
theorem WholeV.pap {H : Hp} {n : Nat} {v : V} {m : Int} (n40 : n ≤ 40) (h : WholeV H n v m) : PapV 5 H v := by
  obtain ⟨t, r, a, rg, pa, ta, ps, es, rfl, h1, h2, h3, h4, h5, h6, k, rev, hk, rfl, rfl⟩ := h
  have l1 := (turnP_perm (rng n) k rev).length_eq
  have l2 := (turnE_perm (rng n) k rev).length_eq
  rw [rng_length] at l1 l2
  exact pap_rings h1 h2 (by show 1 ≤ 2500; decide) (all1 (pap_row h3 h4 h5 h6 (by omega) (by omega)))
theorem FreeV.tk {H H' : Hp} (k : Tk H H') {L : Nat} {v : V} (h : FreeV H L v) : FreeV H' L v := by
  obtain ⟨t, r, a, rg, pa, ta, e, h1, h2, h3, h4, h5, h6⟩ := h
  exact ⟨t, r, a, rg, pa, ta, e, k _ _ h1, k _ _ h2, k _ _ h3, k _ _ h4, k _ _ h5, k _ _ h6⟩
theorem FreeV.pap {H : Hp} {L : Nat} {v : V} (h : FreeV H L v) : PapV 5 H v := by
  obtain ⟨t, r, a, rg, pa, ta, rfl, h1, h2, h3, h4, h5, h6⟩ := h
  exact pap_rings h1 h2 (by show 1 ≤ 2500; decide) (all1 (pap_row h3 h4 h5 h6 (by decide) (by show 2 ≤ 2500; decide)))
theorem BesV.pap {H : Hp} {g : Int → Int} {ts : List Tie} {n k : Nat} {v : V} (h : BesV H g ts n v k) : PapV 3 H v := by
  obtain ⟨a, rg, pa, ta, rfl, h1, h2, h3, h4⟩ := h
  exact pap_row h1 h2 h3 h4 (by show 2 ≤ 2500; decide) (by show 2 ≤ 2500; decide)
def RowsV (H : Hp) (g : Int → Int) (ts : List Tie) (n c : Nat) (v : V) : Prop := ∃ (t r : Addr) (vs : List V), v = .ref t ∧ H t = some (.tup [.str "rings", .ref r]) ∧ H r = some (.tup vs) ∧ Paired (BesV H g ts n) vs (List.range c)
theorem RowsV.tk {H H' : Hp} (k : Tk H H') {g : Int → Int} {ts : List Tie} {n c : Nat} {v : V} (h : RowsV H g ts n c v) : RowsV H' g ts n c v := by
  obtain ⟨t, r, vs, e, h1, h2, h3⟩ := h
  exact ⟨t, r, vs, e, k _ _ h1, k _ _ h2, Paired.mono (fun _ _ x => x.tk k) h3⟩
theorem RowsV.pap {H : Hp} {g : Int → Int} {ts : List Tie} {n c : Nat} {v : V} (c40 : c ≤ 40) (h : RowsV H g ts n c v) : PapV 5 H v := by
  obtain ⟨t, r, vs, rfl, h1, h2, h3⟩ := h
  have lv := Paired.length h3
  rw [List.length_range] at lv
  refine pap_rings h1 h2 (by omega) fun x hx => ?_
  obtain ⟨i, ei⟩ := List.getElem?_of_mem hx
  obtain ⟨k, _, hk⟩ := Paired.at h3 ei
  exact hk.pap
theorem RowsV.shows {H : Hp} {g : Int → Int} {ts : List Tie} {n c : Nat} {v : V} (w : W50 n c ts g) (h : RowsV H g ts n c v) (su : List Tie) : ShowZ 0 H n (ts ++ su) (limW g ts.length) (rng ts.length) v (besS g n c) := by
  obtain ⟨t, r, vs, rfl, h1, h2, h3⟩ := h
  exact ShowZ.rings h1 h2 (bes_shows w su h3)
/-- a row of the split: a row's ties, and a paper of it alone -/
def SplB (H : Hp) (g : Int → Int) (ts : List Tie) (n : Nat) (v : V) (k : Nat) : Prop := ∃ (a ta q r : Addr) (row : V), v = .ref a ∧ H a = some (.tup [.ref ta, .ref q]) ∧ H ta = some (.tup ([(k : Int), ((n + k : Nat) : Int)].map V.int)) ∧ H q = some (.tup [.str "rings", .ref r]) ∧ H r = some (.tup [row]) ∧ BesV H g ts n row k
theorem SplB.tk {H H' : Hp} (t : Tk H H') {g : Int → Int} {ts : List Tie} {n k : Nat} {v : V} (h : SplB H g ts n v k) : SplB H' g ts n v k := by
  obtain ⟨a, ta, q, r, row, e, h1, h2, h3, h4, h5⟩ := h
  exact ⟨a, ta, q, r, row, e, t _ _ h1, t _ _ h2, t _ _ h3, t _ _ h4, h5.tk t⟩
theorem SplB.spl {H : Hp} {g : Int → Int} {ts : List Tie} {n c k : Nat} {v : V} (w : W50 n c ts g) (hk : k < c) (h : SplB H g ts n v k) : SplP 5 0 H n ts (limW g ts.length) v ([(k : Int), ((n + k : Nat) : Int)], min (g (k : Nat)) (g ((n + k : Nat) : Int))) := by
  obtain ⟨a, ta, q, r, row, rfl, h1, h2, h3, h4, h5⟩ := h
  have cn := w.cn
  have ln := w.len
  have er := h5.row w hk []
  rw [List.append_nil] at er
  have e := ringsS_one (lim := limW g ts.length) (given := [(k : Int), ((n + k : Nat) : Int)]) er (fun x hx => .inl hx) (fun x hx => .inr (by
    simp only [List.mem_cons, List.not_mem_nil, or_false] at hx
    rcases hx with rfl | rfl
    · rw [limW_get g (by omega) (by omega)]
      omega
    · rw [limW_get g (by omega) (by omega)]
      omega))
  rw [show (2 * min (g (k : Nat)) (g ((n + k : Nat) : Int)) + 1) / 2 = min (g (k : Nat)) (g ((n + k : Nat) : Int)) by omega] at e
  exact ⟨a, ta, .ref q, rfl, h1, h2, pap_rings h3 h4 (by show 1 ≤ 2500; decide) (all1 h5.pap), ShowZ.rings h3 h4 e⟩
theorem split_shows50 {H : Hp} {g : Int → Int} {ts : List Tie} {n c : Nat} {t r : Addr} {vs : List V} (w : W50 n c ts g) (ht : H t = some (.tup [.str "split", .ref r])) (hr : H r = some (.tup vs)) (hv : Paired (SplB H g ts n) vs (List.range c)) : ShowZ 1 H n ts (limW g ts.length) (rng ts.length) (.ref t) (besS g n c) ∧ PapV 8 H (.ref t) := by
  have cn := w.cn
  have ln := w.len
  have n40 := w.n40
  have lv := Paired.length hv
  rw [List.length_range] at lv
  have hp : ∀ j : Nat, j ≤ c → Paired (SplP 5 0 H n ts (limW g ts.length)) (vs.take j) ((List.range j).map fun k : Nat => (([(k : Int), ((n + k : Nat) : Int)], min (g (k : Nat)) (g ((n + k : Nat) : Int))) : List Int × Int)) := by
    intro j
    induction j with
    | zero => exact fun _ => .nil
    | succ j ih =>
      intro hj
      have ev : vs[j]? = some (vs[j]'(by omega)) := List.getElem?_eq_getElem _
      obtain ⟨k, ek, hk⟩ := Paired.at hv ev
      rw [List.getElem?_range (by omega)] at ek
      obtain rfl := Option.some.inj ek
      rw [List.take_add_one, ev, List.range_succ, List.map_append]
      exact Paired.snoc (ih (by omega)) (hk.spl w (by omega))
  have hp := hp c (Nat.le_refl _)
  rw [List.take_of_length_le (by omega)] at hp
  have mem : ∀ x ∈ (List.range c).map (fun k : Nat => (([(k : Int), ((n + k : Nat) : Int)], min (g (k : Nat)) (g ((n + k : Nat) : Int))) : List Int × Int)), ∃ k : Nat, k < c ∧ x.1 = [(k : Int), ((n + k : Nat) : Int)] := fun x hx => by
    obtain ⟨k, hk, rfl⟩ := List.mem_map.mp hx
    exact ⟨k, List.mem_range.mp hk, rfl⟩
  have hd : SplD (limW g ts.length).length (rng ts.length) ((List.range c).map fun k : Nat => (([(k : Int), ((n + k : Nat) : Int)], min (g (k : Nat)) (g ((n + k : Nat) : Int))) : List Int × Int)) := by
    refine ⟨fun x hx => ?_, fun x hx e he => ?_, ?_⟩
    · obtain ⟨k, hk, e⟩ := mem x hx
      rw [e]
      simp only [List.pairwise_cons, List.mem_singleton, forall_eq, List.not_mem_nil, false_implies, implies_true, List.Pairwise.nil, and_true]
      have := w.n2
      omega
    · obtain ⟨k, hk, ex⟩ := mem x hx
      rw [ex] at he
      simp only [List.mem_cons, List.not_mem_nil, or_false] at he
      rw [limW_len]
      exact ⟨by omega, mem_rng.mpr (by omega)⟩
    · rw [List.pairwise_map]
      have pr : (List.range c).Pairwise (fun a b => a < b ∧ b < c) := by
        have p1 := List.pairwise_lt_range (n := c)
        exact p1.imp_of_mem fun {a b} _ hb h => ⟨h, List.mem_range.mp hb⟩
      refine pr.imp fun {a b} h e he z => ?_
      have he : e ∈ [(b : Int), ((n + b : Nat) : Int)] := he
      have z : e ∈ [(a : Int), ((n + a : Nat) : Int)] := z
      simp only [List.mem_cons, List.not_mem_nil, or_false] at he z
      omega
  have := ShowZ.split ht hr hp hd
  rw [List.map_map] at this
  refine ⟨this, pap_tup ht (by show 2 ≤ 2500; decide) (all2 (pap_sc trivial rfl) (pap_tup hr (by omega) fun x hx => ?_))⟩
  obtain ⟨i, ei⟩ := List.getElem?_of_mem hx
  obtain ⟨k, _, a, ta, q, r1, row, rfl, h1, h2, h3, h4, h5⟩ := Paired.at hv ei
  exact pap_tup h1 (by show 2 ≤ 2500; decide) (all2 (pap_ints h2 (by show 2 ≤ 2500; decide)) (pap_rings h3 h4 (by show 1 ≤ 2500; decide) (all1 h5.pap)))
theorem split_none {H : Hp} {n : Nat} {ts : List Tie} {lim given : List Int} {t r a e q r0 : Addr} (ht : H t = some (.tup [.str "split", .ref r])) (hr : H r = some (.tup (List.replicate 2000 (.ref a)))) (ha : H a = some (.tup [.ref e, .ref q])) (he : H e = some (.tup [])) (hq : H q = some (.tup [.str "rings", .ref r0])) (h0 : H r0 = some (.tup [])) : ShowZ 1 H n ts lim given (.ref t) 0 ∧ PapV 8 H (.ref t) := by
  have pq : PapV 5 H (.ref q) := pap_rings hq h0 (Nat.zero_le _) fun x h => (by cases h)
  have hp : ∀ j : Nat, Paired (SplP 5 0 H n ts lim) (List.replicate j (.ref a)) (List.replicate j (([], 0) : List Int × Int)) := by
    intro j
    induction j with
    | zero => exact .nil
    | succ j ih =>
      rw [List.replicate_succ, List.replicate_succ]
      exact .cons ⟨a, e, .ref q, rfl, ha, he, pq, ShowZ.rings hq h0 rfl⟩ ih
  have hd : SplD lim.length given (List.replicate 2000 (([], 0) : List Int × Int)) := by
    refine ⟨fun x hx => ?_, fun x hx y hy => ?_, ?_⟩
    · rw [(List.mem_replicate.mp hx).2]
      exact .nil
    · rw [(List.mem_replicate.mp hx).2] at hy
      cases hy
    · rw [List.pairwise_replicate]
      exact .inr fun y hy => by cases hy
  have h := ShowZ.split ht hr (hp 2000) hd
  have e0 : ((List.replicate 2000 (([], 0) : List Int × Int)).map (·.2)).sum = 0 := by
    rw [List.map_replicate]
    exact (List.sum_replicate_int (n := 2000) (a := 0)).trans (by omega)
  rw [e0] at h
  refine ⟨h, pap_tup ht (by show 2 ≤ 2500; decide) (all2 (pap_sc trivial rfl) (pap_tup hr (by rw [List.length_replicate]; decide) fun x hx => ?_))⟩
  rw [(List.mem_replicate.mp hx).2]
  exact pap_tup ha (by show 2 ≤ 2500; decide) (all2 (pap_tup he (Nat.zero_le _) fun x h => (by cases h)) pq)
/-- two cases, one in the other -/
def CaseV (H : Hp) (v : V) (x y : Int) (a b : V) : Prop := ∃ t : Addr, v = .ref t ∧ H t = some (.tup [.str "case", .int x, .int y, a, b])
theorem CaseV.pap {d : Nat} {H : Hp} {v a b : V} {x y : Int} (h : CaseV H v x y a b) (ha : PapV d H a) (hb : PapV d H b) : PapV (d + 1) H v := by
  obtain ⟨t, rfl, ht⟩ := h
  exact pap_tup ht (by show 5 ≤ 2500; decide) (all5 (pap_sc trivial rfl) (pap_sc trivial rfl) (pap_sc trivial rfl) ha hb)
theorem CaseV.shows {k : Nat} {H : Hp} {n : Nat} {ts : List Tie} {lim given : List Int} {v a b : V} {x y z1 z2 : Int} (h : CaseV H v x y a b) (n2 : 2 ≤ n) (xy : (x = 0 ∧ y = 1) ∨ (x = 1 ∧ y = 0)) (h1 : ShowZ k H n (ts ++ [⟨x, y, false⟩]) lim given a z1) (h2 : ShowZ k H n (ts ++ [⟨x, y, true⟩]) lim given b z2) : ShowZ (k + 1) H n ts lim given v (min z1 z2) := by
  obtain ⟨t, rfl, ht⟩ := h
  exact ShowZ.case ht (by omega) (by omega) (by omega) h1 h2
theorem CaseV.none {D : Nat} {H : Hp} {n : Nat} {ts : List Tie} {lim given : List Int} {v a b : V} {x y : Int} (h : CaseV H v x y a b) (n2 : 2 ≤ n) (xy : (x = 0 ∧ y = 1) ∨ (x = 1 ∧ y = 0)) (h1 : shownS D H n (ts ++ [⟨x, y, false⟩]) lim given a = none) : shownS (D + 1) H n ts lim given v = none := by
  obtain ⟨t, rfl, ht⟩ := h
  exact case_none ht (by omega) (by omega) (by omega) h1
def spLaw (K : PySem.W.Frag) (Ps : List Addr) : Sp := fun vs H Q _ => ∃ (a : Addr) (ns : List Int), vs = [.ref a] ∧ SqL K H a (ns.map V.int) ∧ ns.length ≤ 63 ∧ Tabs Ps H ∧ ∀ H', Q (.bl true) H'
section
variable {P : Program} {w : World} {K : PySem.W.Frag} {mg : Str → Option Value} {base : Heap}
set_option maxHeartbeats 16000000 in
theorem ok_law {f : Addr} {fd : FuncData} {Ps : List Addr} (F : Fun K "law" "law" s_law f fd) (M : Free mg) (m_min : mg "min" = none) (D_l_feed : Df P w K mg base 1 "_law_feed" ["_law_script"] (spDeck K)) (D_l_round : Df P w K mg base 2 "_law_round" ["_law_feed_here"] spRound) (D_l_weight : Df P w K mg base 1 "_law_weight" ["_law_weights", "_law_tie"] spLW50) (D_l_about : Df P w K mg base 2 "_law_about" ["_law_feed_here", "_law_many"] spAbout50) (D_l_told : Df P w K mg base 104 "_law_told" ["_law_world", "_law_thing"] (spTold Ps 40)) (D_l_beside : Df P w K mg base 2 "_law_beside" ["_law_world"] spBeside) (D_l_chain : Df P w K mg base 1 "_law_chain" ["_law_feed_here", "_law_inner"] spChain) : FnOk P w K mg base CX0 105 f fd ["_law_script"] (spLaw K Ps) := by
  obtain ⟨f_l_feed, fd_l_feed, G_l_feed, g_l_feed, k_l_feed, b_l_feed⟩ := D_l_feed
  obtain ⟨f_l_round, fd_l_round, G_l_round, g_l_round, k_l_round, b_l_round⟩ := D_l_round
  obtain ⟨f_l_weight, fd_l_weight, G_l_weight, g_l_weight, k_l_weight, b_l_weight⟩ := D_l_weight
  obtain ⟨f_l_about, fd_l_about, G_l_about, g_l_about, k_l_about, b_l_about⟩ := D_l_about
  obtain ⟨f_l_told, fd_l_told, G_l_told, g_l_told, k_l_told, b_l_told⟩ := D_l_told
  obtain ⟨f_l_beside, fd_l_beside, G_l_beside, g_l_beside, k_l_beside, b_l_beside⟩ := D_l_beside
  obtain ⟨f_l_chain, fd_l_chain, G_l_chain, g_l_chain, k_l_chain, b_l_chain⟩ := D_l_chain
  refine F.ok sc_law (fun vs H Q E h => ?_) (fun cdv A outer s H vs Q E hr h => ?_)
  · obtain ⟨sc, ns, rfl, _⟩ := h
    rfl
  · obtain ⟨sc, ns, rfl, hS, few63, hT, q⟩ := h
    refine ⟨_, (pss_cons (ps_set (i := 1) sc_law.nd rfl (.inl rfl) (pe_call G_l_feed (hr.mono (by decide)) (by rfl) g_l_feed k_l_feed b_l_feed .nil pass0 (pa_cons (pv 0) pa_nil)))
      (pss_cons (ps_for PassesOwn.never rfl (pi_range1 (by rfl) M.range (pa_cons pe_int pa_nil)) (pg_name (i := 2) sc_law.nd rfl (.inl rfl))
        (pss_cons (ps_set (i := 3) sc_law.nd rfl (.inl rfl) (pe_call G_l_round (hr.mono (by decide)) (by rfl) g_l_round k_l_round b_l_round .nil pass0 (pa_cons (pv 1) pa_nil)))
        (pss_cons (ps_asg (pv 3) (pg_tup rfl (pgs_cons (pg_name (i := 4) sc_law.nd rfl (.inl rfl)) (pgs_cons (pg_name (i := 5) sc_law.nd rfl (.inl rfl)) (pgs_cons (pg_name (i := 6) sc_law.nd rfl (.inr rfl)) pgs_nil)))))
        (pss_cons (ps_set (i := 7) sc_law.nd rfl (.inl rfl) (pe_callB (cr_min rfl) (by rfl) m_min (by decide +kernel) (pa_cons (pe_lc (own := [("_law_k", 8)]) (g := (gName 8)) (tt := tYes) rfl sc_law.nd (pi_range1 (by rfl) M.range (pa_cons (pv 4) pa_nil)) (blkOk_by (N := N_law) (sc := defScope s_law) (own := [("_law_k", 8)]) (by decide +kernel)) (fun _ _ _ _ _ => (pg_name (i := 8) sc_law.nd rfl (.inl rfl))) (fun _ _ _ _ _ => pts_nil) (fun _ _ _ _ _ => (pe_call G_l_weight (hr.mono (by decide)) (by rfl) g_l_weight k_l_weight b_l_weight .nil pass0 (pa_cons (pv 6) (pa_cons (pv 8) pa_nil))))) pa_nil)))
        (pss_cons (ps_set (i := 9) sc_law.nd rfl (.inl rfl) (pe_call G_l_about (hr.mono (by decide)) (by rfl) g_l_about k_l_about b_l_about .nil pass0 (pa_cons (pv 1) (pa_cons (pv 4) pa_nil))))
        (pss_cons (ps_set (i := 10) sc_law.nd rfl (.inl rfl) (pe_tup (pa_cons pe_str (pa_cons (pe_tup (pa_cons (pe_tup (pa_cons (pv 9) (pa_cons (pe_op op_mul pe_int (pv 7)) pa_nil))) pa_nil)) pa_nil))))
        (pss_cons (ps_if (PW.pt (pw_or (pt_cmpR op_ne (pe_call G_l_told (hr.mono (by decide)) (by rfl) g_l_told k_l_told b_l_told .nil pass0 (pa_cons (pv 3) (pa_cons (pv 10) pa_nil))) (pv 7) (nomark _)) (pw_or1 (pt_cmpR op_notN (pe_call G_l_told (hr.mono (by decide)) (by rfl) g_l_told k_l_told b_l_told .nil pass0 (pa_cons (pv 3) (pa_cons (pe_tup (pa_cons pe_str (pa_cons (pe_tup (pa_cons (pe_tup (pa_cons (pv 9) (pa_cons (pe_op op_add (pe_op op_mul pe_int (pv 7)) pe_int) pa_nil))) pa_nil)) pa_nil))) pa_nil))) pe_non (nomark _)))))
          (pss_one (ps_ret pe_bl))
          pss_nil)
        (pss_cons (ps_set (i := 11) sc_law.nd rfl (.inl rfl) (pe_call G_l_beside (hr.mono (by decide)) (by rfl) g_l_beside k_l_beside b_l_beside .nil pass0 (pa_cons (pv 3) pa_nil)))
        (pss_cons (ps_set (i := 12) sc_law.nd rfl (.inl rfl) (pe_callB (cr_sum rfl) (by rfl) M.sum (by decide +kernel) (pa_cons (pe_lc (own := [("_law_row", 13)]) (g := (gName 13)) (tt := tYes) rfl sc_law.nd (pi_list (pv 11)) (blkOk_by (N := N_law) (sc := defScope s_law) (own := [("_law_row", 13)]) (by decide +kernel)) (fun _ _ _ _ _ => (pg_name (i := 13) sc_law.nd rfl (.inl rfl))) (fun _ _ _ _ _ => pts_nil) (fun _ _ _ _ _ => (pe_op op_fdiv (pe_ix (r := rIxT K) ix_tup (pv 13) pe_int (fun _ _ => rfl)) pe_int))) pa_nil)))
        (pss_cons (ps_if (pt_cmpR op_ne (pe_call G_l_told (hr.mono (by decide)) (by rfl) g_l_told k_l_told b_l_told .nil pass0 (pa_cons (pv 3) (pa_cons (pe_tup (pa_cons pe_str (pa_cons (pe_callTy call_tuple_of (by rfl) M.tuple (by decide +kernel) (pa_cons (pv 11) pa_nil)) pa_nil))) pa_nil))) (pv 12) (nomark _))
          (pss_one (ps_ret pe_bl))
          pss_nil)
        (pss_cons (ps_set (i := 14) sc_law.nd rfl (.inl rfl) (pe_tup (pa_cons pe_str (pa_cons (pe_callTy call_tuple_of (by rfl) M.tuple (by decide +kernel) (pa_cons (pe_lc (own := [("_law_row", 13)]) (g := (gName 13)) (tt := tYes) rfl sc_law.nd (pi_list (pv 11)) (blkOk_by (N := N_law) (sc := defScope s_law) (own := [("_law_row", 13)]) (by decide +kernel)) (fun _ _ _ _ _ => (pg_name (i := 13) sc_law.nd rfl (.inl rfl))) (fun _ _ _ _ _ => pts_nil) (fun _ _ _ _ _ => (pe_tup (pa_cons (pe_ix (r := rIxT K) ix_tup (pe_ix (r := rIxT K) ix_tup (pv 13) pe_int (fun _ _ => rfl)) pe_int (fun _ _ => rfl)) (pa_cons (pe_tup (pa_cons pe_str (pa_cons (pe_tup (pa_cons (pv 13) pa_nil)) pa_nil))) pa_nil))))) pa_nil)) pa_nil))))
        (pss_cons (ps_if (PW.pt (pw_or (pt_cmpR op_ne (pe_call G_l_told (hr.mono (by decide)) (by rfl) g_l_told k_l_told b_l_told .nil pass0 (pa_cons (pv 3) (pa_cons (pv 14) pa_nil))) (pv 12) (nomark _)) (pw_or1 (pt_cmpR op_ne (pe_call G_l_told (hr.mono (by decide)) (by rfl) g_l_told k_l_told b_l_told .nil pass0 (pa_cons (pv 3) (pa_cons (pe_call G_l_chain (hr.mono (by decide)) (by rfl) g_l_chain k_l_chain b_l_chain .nil pass0 (pa_cons (pv 1) (pa_cons (pv 10) pa_nil))) pa_nil))) (pv 7) (nomark _)))))
          (pss_one (ps_ret pe_bl))
          pss_nil)
        (pss_cons (ps_if (pt_cmpR op_ne (pe_call G_l_told (hr.mono (by decide)) (by rfl) g_l_told k_l_told b_l_told .nil pass0 (pa_cons (pv 3) (pa_cons (pe_call G_l_chain (hr.mono (by decide)) (by rfl) g_l_chain k_l_chain b_l_chain .nil pass0 (pa_cons (pv 1) (pa_cons (pe_tup (pa_cons pe_str (pa_cons (pe_callTy call_tuple_of (by rfl) M.tuple (by decide +kernel) (pa_cons (pv 11) pa_nil)) pa_nil))) pa_nil))) pa_nil))) (pv 12) (nomark _))
          (pss_one (ps_ret pe_bl))
          pss_nil)
        (pss_cons (ps_set (i := 15) sc_law.nd rfl (.inl rfl) (pe_tup (pa_cons pe_str (pa_cons (pe_tup (pa_cons (pe_tup (pa_cons (pe_tup (pa_cons (pe_tup (pa_cons pe_int (pa_cons pe_int pa_nil))) (pa_cons (pe_tup (pa_cons (pe_callB call_len_seq (by rfl) M.len PySem.boot_len (pa_cons (pv 5) pa_nil)) (pa_cons (pe_op op_add (pe_callB call_len_seq (by rfl) M.len PySem.boot_len (pa_cons (pv 5) pa_nil)) pe_int) pa_nil))) pa_nil))) (pa_cons (pe_op op_pow pe_int pe_int) pa_nil))) pa_nil)) pa_nil))))
        (pss_cons (ps_set (i := 16) sc_law.nd rfl (.inl rfl) (pe_tup (pa_cons pe_str (pa_cons pe_int (pa_cons pe_int (pa_cons (pe_tup (pa_cons pe_str (pa_cons pe_int (pa_cons pe_int (pa_cons (pv 10) (pa_cons (pv 15) pa_nil)))))) (pa_cons (pe_tup (pa_cons pe_str (pa_cons pe_int (pa_cons pe_int (pa_cons (pv 15) (pa_cons (pv 10) pa_nil)))))) pa_nil)))))))
        (pss_cons (ps_if (PW.pt (pw_or (pt_cmpR op_ne (pe_call G_l_told (hr.mono (by decide)) (by rfl) g_l_told k_l_told b_l_told .nil pass0 (pa_cons (pv 3) (pa_cons (pv 16) pa_nil))) (pv 7) (nomark _)) (pw_or1 (pt_cmpR op_notN (pe_call G_l_told (hr.mono (by decide)) (by rfl) g_l_told k_l_told b_l_told .nil pass0 (pa_cons (pv 3) (pa_cons (pe_op op_catU (pe_slice sl_tupU (pv 16) po_none (po_some pe_int)) (pe_tup (pa_cons (pe_ix ix_tup (pv 16) pe_int (fun _ _ => rfl)) (pa_cons (pe_ix ix_tup (pv 16) pe_int (fun _ _ => rfl)) pa_nil)))) pa_nil))) pe_non (nomark _)))))
          (pss_one (ps_ret pe_bl))
          pss_nil)
        (pss_one (ps_if (PW.pt (pw_and (pt_cmpR op_eq (pv 2) pe_int (nomark _)) (pw_and1 (pt_cmpR op_ne (pe_call G_l_told (hr.mono (by decide)) (by rfl) g_l_told k_l_told b_l_told .nil pass0 (pa_cons (pv 3) (pa_cons (pe_tup (pa_cons pe_str (pa_cons (pe_op op_rep2k (pe_tup (pa_cons (pe_tup (pa_cons (pe_tup pa_nil) (pa_cons (pe_tup (pa_cons pe_str (pa_cons (pe_tup pa_nil) pa_nil))) pa_nil))) pa_nil)) pe_int) pa_nil))) pa_nil))) pe_int (nomark _)))))
          (pss_one (ps_ret pe_bl))
          pss_nil))))))))))))))))))
      (pss_one (ps_ret pe_bl)))), ?_⟩
    refine ⟨.ref sc, rfl, sc, ns, rfl, hS, few63, fun d c H1 s1 nd nc D1 => ?_⟩
    have T1 : Tabs Ps H1 := (Kt.same hT s1).tab
    clear s1 nd nc hT hS
    refine ⟨2, rfl, by decide, by decide, ?_⟩
    refine for_range (lo := 0) (n := 2) (fun i σ' H' => ∃ y2 y3 y4 y5 y6 y7 y8 y9 y10 y11 y12 y13 y14 y15 y16 : Option V, σ' = [some (.ref sc), some (.ref d), y2, y3, y4, y5, y6, y7, y8, y9, y10, y11, y12, y13, y14, y15, y16] ∧ Deck H' d c ∧ Tabs Ps H') ⟨_, _, _, _, _, _, _, _, _, _, _, _, _, _, _, rfl, D1, T1⟩ ?_ (fun σ' H2 h => q _)
    clear D1 T1
    rintro i σ' H2 hi ⟨y2, y3, y4, y5, y6, y7, y8, y9, y10, y11, y12, y13, y14, y15, y16, rfl, D, T⟩
    rw [Int.zero_add]
    refine ⟨.ref d, rfl, d, c, rfl, D, fun wv n m ts g H3 hW w D3 K3 => ?_⟩
    have T := tabs_kp T D K3
    have D := D3
    clear D3 K3
    obtain ⟨wa, tb, wt, us, rfl, hwa, htb, hpw, hwt⟩ := hW.ex
    have n2 := w.n2
    have n40 := w.n40
    have cn := w.cn
    have sm := w.sm
    have lt := w.len
    have lu : us.length = ts.length := Paired.length hpw
    refine ⟨.ref wa, rfl, wa, _, rfl, SqT.of hwa, rfl, _, _, rfl, _, _, rfl, _, _, rfl, rfl, ?_⟩
    -- the least weight of the ring
    refine ⟨.int n, rfl, n, rfl, by omega, by omega, fun Z nZ => ?_⟩
    rw [Int.toNat_natCast]
    refine lc_range (lo := 0) (n := n) (fun j H' => H' Z = some (.lst ((((rng n).take j).map g).map V.int)) ∧ Same H3 H') ⟨upd_same, same_new nZ⟩ ?_ ?_
    · rintro j H4 hj ⟨hZ, s4⟩
      rw [Int.zero_add]
      have ej : (rng n)[j]? = some (j : Int) := by
        unfold rng
        rw [List.getElem?_map, List.getElem?_range hj]
        rfl
      refine ⟨rfl, wt, rfl, .int (j : Nat), rfl, wt, (j : Nat), _, g, rfl, hwt.tk (Same.tk s4), mem_rng.mpr ⟨by omega, by omega⟩, _, hZ, by rw [List.length_map, List.length_map, List.length_take]; exact small1000 (by omega), ?_, Same.mut s4 nZ⟩
      rw [upd_same, List.take_add_one, ej, List.map_append, List.map_append]
      rfl
    rintro H4 ⟨hZ, s4⟩
    rw [List.take_of_length_le (by rw [rng_length]; omega)] at hZ
    refine ⟨Z, _, rfl, SqL.of hZ, by rw [List.length_map, rng_length]; omega, fun L hL1 hL2 => ?_⟩
    have hW := hW.tk (Same.tk s4)
    have hwa := s4 _ _ hwa
    have htb := s4 _ _ htb
    have D := D.same s4
    have T := (Kt.same T s4).tab
    obtain ⟨x0, hx0, eL⟩ := List.mem_map.mp hL1
    have hx0 := mem_rng.mp hx0
    have Lg : ∀ e : Int, 0 ≤ e → e < (n : Int) → L ≤ g e := fun e h0 h1 => hL2 _ (List.mem_map.mpr ⟨e, mem_rng.mpr ⟨h0, h1⟩, rfl⟩)
    have L1 : 1 ≤ L := by
      have := (w.g1 x0 hx0.1 (by omega)).1
      omega
    have L30 : L ≤ 10 ^ 30 := by
      have := (w.g1 x0 hx0.1 (by omega)).2
      omega
    clear hL1 hL2 hZ s4 nZ hpw hwt
    -- the ring
    refine ⟨.ref d, rfl, .int n, rfl, d, c, n, rfl, D, by omega, n40, fun a pa ta ps es H5 ha hpa hta ab D5 K5 => ?_⟩
    have tk5 := K5.tk D
    have hW := hW.tk tk5
    have hwa := tk5 _ _ hwa
    have htb := tk5 _ _ htb
    have T := tabs_kp T D K5
    have D := D5
    clear D5 K5 tk5
    refine ⟨.ref a, rfl, .int L, rfl, _, _, rfl, rfl, .inl ⟨by decide, by decide⟩, by show 2 ≤ sizeLine; decide, fun p1 n1 => ⟨by show 1 ≤ sizeLine; decide, fun p2 n2' => ⟨by show 2 ≤ sizeLine; decide, fun p3 n3 => ?_⟩⟩⟩
    have z1 := same_new (o := .tup [.ref a, .int (2 * L)]) n1
    have z2 := same_new (o := .tup [.ref p1]) n2'
    have z3 := same_new (o := .tup [.str "rings", .ref p2]) n3
    have s6 := (z1.trans z2).trans z3
    have hwh : WholeV _ n (.ref p3) (2 * L) := ⟨p3, p2, p1, a, pa, ta, ps, es, rfl, upd_same, z3 _ _ upd_same, z3 _ _ (z2 _ _ upd_same), s6 _ _ ha, s6 _ _ hpa, s6 _ _ hta, ab⟩
    have hW := hW.tk (Same.tk s6)
    have hwa := s6 _ _ hwa
    have htb := s6 _ _ htb
    have ha := s6 _ _ ha
    have hpa := s6 _ _ hpa
    have hta := s6 _ _ hta
    have D := D.same s6
    have T := (Kt.same T s6).tab
    generalize upd (upd (upd H5 p1 (.tup [.ref a, .int (2 * L)])) p2 (.tup [.ref p1])) p3 (.tup [.str "rings", .ref p2]) = H6 at hwh hW hwa htb ha hpa hta D T ⊢
    clear z1 z2 z3 s6 n1 n2' n3
    have hwS := hwh.shows w L1 Lg []
    rw [List.append_nil] at hwS
    refine ⟨.ref wa, rfl, .ref p3, rfl, .ref wa, .ref p3, n, ts, g, rfl, hW, w.ok, by omega, (hwh.pap n40).mono (by decide), T, fun H7 k7 => ?_⟩
    rw [hwS 41 (by decide)]
    have hW := hW.tk (k7.tk T)
    have hwh := hwh.tk (k7.tk T)
    have hwa := (k7.tk T) _ _ hwa
    have htb := (k7.tk T) _ _ htb
    have ha := (k7.tk T) _ _ ha
    have hpa := (k7.tk T) _ _ hpa
    have hta := (k7.tk T) _ _ hta
    have D := D.kt k7 T
    have T := k7.tab
    refine ⟨.int L, rfl, rfl, _, rfl, ?_⟩
    rw [show decide (optV (some L) = V.int L) = true from decide_eq_true rfl]
    refine ⟨.ref wa, rfl, .ref a, rfl, .int L, rfl, _, _, rfl, rfl, .inl ⟨by decide, by decide⟩, _, _, rfl, rfl, by show 2 ≤ sizeLine; decide, fun p1 n1 => ⟨by show 1 ≤ sizeLine; decide, fun p2 n2' => ⟨by show 2 ≤ sizeLine; decide, fun p4 n4 => ?_⟩⟩⟩
    have z1 := same_new (o := .tup [.ref a, .int (2 * L + 1)]) n1
    have z2 := same_new (o := .tup [.ref p1]) n2'
    have z3 := same_new (o := .tup [.str "rings", .ref p2]) n4
    have s8 := (z1.trans z2).trans z3
    have hov : WholeV _ n (.ref p4) (2 * L + 1) := ⟨p4, p2, p1, a, pa, ta, ps, es, rfl, upd_same, z3 _ _ upd_same, z3 _ _ (z2 _ _ upd_same), s8 _ _ ha, s8 _ _ hpa, s8 _ _ hta, ab⟩
    have hW := hW.tk (Same.tk s8)
    have hwh := hwh.tk (Same.tk s8)
    have hwa := (Same.tk s8) _ _ hwa
    have htb := (Same.tk s8) _ _ htb
    have ha := (Same.tk s8) _ _ ha
    have hpa := (Same.tk s8) _ _ hpa
    have hta := (Same.tk s8) _ _ hta
    have D := D.same s8
    have T := (Kt.same T s8).tab
    generalize upd (upd (upd H7 p1 (.tup [.ref a, .int (2 * L + 1)])) p2 (.tup [.ref p1])) p4 (.tup [.str "rings", .ref p2]) = H8 at hov hwh hW hwa htb ha hpa hta D T ⊢
    clear z1 z2 z3 s8 n1 n2' n4 hwS
    have hovS := hov.over w L1 hx0.1 hx0.2 eL 40
    refine ⟨.ref wa, .ref p4, n, ts, g, rfl, hW, w.ok, by omega, (hov.pap n40).mono (by decide), T, fun H9 k9 => ?_⟩
    rw [hovS]
    clear hovS hov
    have hW := hW.tk (k9.tk T)
    have hwh := hwh.tk (k9.tk T)
    have hwa := (k9.tk T) _ _ hwa
    have htb := (k9.tk T) _ _ htb
    have D := D.kt k9 T
    have T := k9.tab
    refine ⟨rfl, _, rfl, ?_⟩
    refine ⟨.ref wa, rfl, .ref wa, n, m, ts, g, rfl, hW, w, fun R vs H10 hR hv s10 => ?_⟩
    have hW := hW.tk (Same.tk s10)
    have hwh := hwh.tk (Same.tk s10)
    have hwa := (Same.tk s10) _ _ hwa
    have htb := (Same.tk s10) _ _ htb
    have D := D.same s10
    have T := (Kt.same T s10).tab
    have lv := Paired.length hv
    rw [List.length_range] at lv
    refine ⟨.ref R, rfl, R, rfl, ⟨_, SqL.of hR⟩, fun Z nZ => ?_⟩
    refine lc_list (xs := vs) (fun j H' => H' Z = some (.lst (((List.range j).map fun k : Nat => min (g (k : Nat)) (g ((n + k : Nat) : Int))).map V.int)) ∧ Same H10 H') ⟨upd_same, same_new nZ⟩ (fun j H' _ h => SqL.of (h.2 _ _ hR)) ?_ ?_
    · rintro j x H11 ex ⟨hZ, s11⟩
      obtain ⟨k, ek, a1, rg, pa1, ta1, rfl, h1, h2, h3, h4⟩ := Paired.at hv ex
      have jl := (List.getElem?_eq_some_iff.mp ek).1
      rw [List.length_range] at jl
      rw [List.getElem?_range jl] at ek
      obtain rfl := Option.some.inj ek
      refine ⟨rfl, .ref a1, rfl, a1, _, 1, .int (2 * min (g (j : Nat)) (g ((n + j : Nat) : Int))), rfl, rfl, SqT.of (s11 _ _ h1), rfl, _, _, rfl, rfl, ⟨by decide, by decide⟩, _, hZ, by rw [List.length_map, List.length_map, List.length_range]; exact small1000 (by omega), ?_, Same.mut s11 nZ⟩
      rw [upd_same, List.range_succ, List.map_append, List.map_append]
      show some (HO.lst (_ ++ [V.int (2 * min (g (j : Nat)) (g ((n + j : Nat) : Int)) / 2)])) = some (HO.lst (_ ++ [V.int (min (g (j : Nat)) (g ((n + j : Nat) : Int)))]))
      rw [show 2 * min (g (j : Nat)) (g ((n + j : Nat) : Int)) / 2 = min (g (j : Nat)) (g ((n + j : Nat) : Int)) by omega]
    rintro H11 ⟨hZ, s11⟩
    rw [lv] at hZ
    have hW := hW.tk (Same.tk s11)
    have hwh := hwh.tk (Same.tk s11)
    have hwa := (Same.tk s11) _ _ hwa
    have htb := (Same.tk s11) _ _ htb
    have hR := s11 _ _ hR
    have hv : Paired (BesV _ g ts n) vs (List.range m) := Paired.mono (fun _ _ x => x.tk (Same.tk s11)) hv
    have D := D.same s11
    have T := (Kt.same T s11).tab
    refine ⟨Z, _, rfl, SqL.of hZ, ?_⟩
    change _ = _ at lv
    generalize eB : ((List.range m).map fun k : Nat => min (g (k : Nat)) (g ((n + k : Nat) : Int))).sum = B
    have eB : besS g n m = B := eB
    clear hZ s11 nZ s10
    refine ⟨.ref wa, rfl, .ref R, rfl, R, _, rfl, .inl ⟨SqL.of hR, fun q1 m1 => ⟨by show 2 ≤ sizeLine; decide, fun q1' m1' => ?_⟩⟩⟩
    have y1 := same_new (o := .tup vs) m1
    have y1' := same_new (o := .tup [.str "rings", .ref q1]) m1'
    have t1 := y1.trans y1'
    have hrw : RowsV _ g ts n m (.ref q1') := ⟨q1', q1, vs, rfl, upd_same, y1' _ _ upd_same, Paired.mono (fun _ _ x => x.tk (Same.tk t1)) hv⟩
    have hW := hW.tk (Same.tk t1)
    have hwh := hwh.tk (Same.tk t1)
    have hwa := (Same.tk t1) _ _ hwa
    have htb := (Same.tk t1) _ _ htb
    have hR := t1 _ _ hR
    have hv : Paired (BesV _ g ts n) vs (List.range m) := Paired.mono (fun _ _ x => x.tk (Same.tk t1)) hv
    have D := D.same t1
    have T := (Kt.same T t1).tab
    generalize upd (upd H11 q1 (.tup vs)) q1' (.tup [.str "rings", .ref q1]) = H11' at hrw hW hwh hwa htb hR hv D T ⊢
    clear y1 y1' t1 m1 m1'
    have hrS := hrw.shows w []
    rw [List.append_nil, eB] at hrS
    refine ⟨.ref wa, .ref q1', n, ts, g, rfl, hW, w.ok, by omega, (hrw.pap (by omega)).mono (by decide), T, fun H12 k12 => ?_⟩
    rw [hrS 41 (by decide)]
    clear hrS hrw
    have hW := hW.tk (k12.tk T)
    have hwh := hwh.tk (k12.tk T)
    have hwa := (k12.tk T) _ _ hwa
    have htb := (k12.tk T) _ _ htb
    have hR := k12.lst T hR
    have hv : Paired (BesV _ g ts n) vs (List.range m) := Paired.mono (fun _ _ x => x.tk (k12.tk T)) hv
    have D := D.kt k12 T
    have T := k12.tab
    refine ⟨.int B, rfl, rfl, _, rfl, ?_⟩
    rw [show decide (optV (some B) = V.int B) = true from decide_eq_true rfl]
    refine ⟨.ref R, rfl, R, rfl, ⟨_, SqL.of hR⟩, fun Z nZ => ?_⟩
    refine lc_list (xs := vs) (fun j H' => ∃ zs : List V, H' Z = some (.lst zs) ∧ Paired (SplB H' g ts n) zs (List.range j) ∧ Same H12 H') ⟨[], upd_same, .nil, same_new nZ⟩ (fun j H' _ h => by
      obtain ⟨_, _, _, h⟩ := h
      exact SqL.of (h _ _ hR)) ?_ ?_
    · rintro j x H13 ex ⟨zs, hZ, hz, s13⟩
      have lz := Paired.length hz
      rw [List.length_range] at lz
      obtain ⟨k, ek, hk⟩ := Paired.at hv ex
      have jl := (List.getElem?_eq_some_iff.mp ek).1
      rw [List.length_range] at jl
      rw [List.getElem?_range jl] at ek
      obtain rfl := Option.some.inj ek
      obtain ⟨a1, rg, pa1, ta1, rfl, h1, h2, h3, h4⟩ := id hk
      refine ⟨rfl, .ref a1, rfl, a1, _, 0, .ref rg, rfl, rfl, SqT.of (s13 _ _ h1), rfl, rg, _, 1, .ref ta1, rfl, rfl, SqT.of (s13 _ _ h2), rfl, .ref a1, rfl, by show 1 ≤ sizeLine; decide, fun p1 n1 => ⟨by show 2 ≤ sizeLine; decide, fun p2 n2' => ⟨by show 2 ≤ sizeLine; decide, fun p4 n4 => ?_⟩⟩⟩
      have z1 := same_new (o := .tup [.ref a1]) n1
      have z2 := same_new (o := .tup [.str "rings", .ref p1]) n2'
      have z3 := same_new (o := .tup [.ref ta1, .ref p2]) n4
      have s14 := (z1.trans z2).trans z3
      have hZ4 := s14 _ _ hZ
      have hs : SplB _ g ts n (.ref p4) j := ⟨p4, ta1, p2, p1, .ref a1, rfl, upd_same, s14 _ _ (s13 _ _ h4), z3 _ _ upd_same, z3 _ _ (z2 _ _ upd_same), (hk.tk (Same.tk s13)).tk (Same.tk s14)⟩
      have tk := tk_lst (ys := zs ++ [.ref p4]) hZ4
      refine ⟨zs, hZ4, small1000 (by omega), zs ++ [.ref p4], upd_same, ?_, Same.mut (s13.trans s14) nZ⟩
      rw [List.range_succ]
      exact Paired.snoc (Paired.mono (fun _ _ x => (x.tk (Same.tk s14)).tk tk) hz) (hs.tk tk)
    rintro H13 ⟨zs, hZ, hz, s13⟩
    rw [lv] at hz
    refine ⟨Z, _, rfl, .inl ⟨SqL.of hZ, fun p1 n1 => ⟨by show 2 ≤ sizeLine; decide, fun p2 n2' => ?_⟩⟩⟩
    have z1 := same_new (o := .tup zs) n1
    have z2 := same_new (o := .tup [.str "split", .ref p1]) n2'
    have s14 := s13.trans (z1.trans z2)
    have hsp := split_shows50 w (t := p2) (r := p1) upd_same (z2 _ _ upd_same) (Paired.mono (fun _ _ x => x.tk (Same.tk (z1.trans z2))) hz)
    rw [eB] at hsp
    have hW := hW.tk (Same.tk s14)
    have hwh := hwh.tk (Same.tk s14)
    have hwa := (Same.tk s14) _ _ hwa
    have htb := (Same.tk s14) _ _ htb
    have hR := s14 _ _ hR
    have hv : Paired (BesV _ g ts n) vs (List.range m) := Paired.mono (fun _ _ x => x.tk (Same.tk s14)) hv
    have D := D.same s14
    have T := (Kt.same T s14).tab
    generalize upd (upd H13 p1 (.tup zs)) p2 (.tup [.str "split", .ref p1]) = H14 at hsp hW hwh hwa htb hR hv D T ⊢
    clear z1 z2 s14 n1 n2' hz hZ s13 nZ
    refine ⟨.ref wa, rfl, .ref p2, rfl, .ref wa, .ref p2, n, ts, g, rfl, hW, w.ok, by omega, hsp.2.mono (by decide), T, fun H15 k15 => ?_⟩
    rw [hsp.1 41 (by decide)]
    clear hsp
    have hW := hW.tk (k15.tk T)
    have hwh := hwh.tk (k15.tk T)
    have hwa := (k15.tk T) _ _ hwa
    have htb := (k15.tk T) _ _ htb
    have hR := k15.lst T hR
    have hv : Paired (BesV _ g ts n) vs (List.range m) := Paired.mono (fun _ _ x => x.tk (k15.tk T)) hv
    have D := D.kt k15 T
    have T := k15.tab
    refine ⟨.int B, rfl, rfl, _, rfl, ?_⟩
    rw [show decide (optV (some B) = V.int B) = true from decide_eq_true rfl]
    refine ⟨.ref wa, rfl, .ref d, rfl, .ref p3, rfl, .ref d, .ref p3, rfl, fun u H16 hc s16 => ?_⟩
    have hW := hW.tk (Same.tk s16)
    have hwh := hwh.tk (Same.tk s16)
    have hwa := (Same.tk s16) _ _ hwa
    have htb := (Same.tk s16) _ _ htb
    have hR := s16 _ _ hR
    have hv : Paired (BesV _ g ts n) vs (List.range m) := Paired.mono (fun _ _ x => x.tk (Same.tk s16)) hv
    have D := D.same s16
    have T := (Kt.same T s16).tab
    have hcS := ChainV.shows n2 (fun su => hwh.shows w L1 Lg su) hc []
    rw [List.append_nil] at hcS
    refine ⟨.ref wa, u, n, ts, g, rfl, hW, w.ok, by omega, (hc.pap (by decide) (hwh.pap n40)).mono (by decide), T, fun H17 k17 => ?_⟩
    rw [hcS 41 (by decide)]
    clear hcS hc
    have hW := hW.tk (k17.tk T)
    have hwh := hwh.tk (k17.tk T)
    have hwa := (k17.tk T) _ _ hwa
    have htb := (k17.tk T) _ _ htb
    have hR := k17.lst T hR
    have hv : Paired (BesV _ g ts n) vs (List.range m) := Paired.mono (fun _ _ x => x.tk (k17.tk T)) hv
    have D := D.kt k17 T
    have T := k17.tab
    refine ⟨.int L, rfl, rfl, _, rfl, ?_⟩
    rw [show decide (optV (some L) = V.int L) = true from decide_eq_true rfl]
    refine ⟨.ref wa, rfl, .ref d, rfl, .ref R, rfl, R, _, rfl, .inl ⟨SqL.of hR, fun q2 m2 => ⟨by show 2 ≤ sizeLine; decide, fun q2' m2' => ?_⟩⟩⟩
    have y2 := same_new (o := .tup vs) m2
    have y2' := same_new (o := .tup [.str "rings", .ref q2]) m2'
    have t2 := y2.trans y2'
    have hrw : RowsV _ g ts n m (.ref q2') := ⟨q2', q2, vs, rfl, upd_same, y2' _ _ upd_same, Paired.mono (fun _ _ x => x.tk (Same.tk t2)) hv⟩
    have hW := hW.tk (Same.tk t2)
    have hwh := hwh.tk (Same.tk t2)
    have hwa := (Same.tk t2) _ _ hwa
    have htb := (Same.tk t2) _ _ htb
    have hR := t2 _ _ hR
    have hv : Paired (BesV _ g ts n) vs (List.range m) := Paired.mono (fun _ _ x => x.tk (Same.tk t2)) hv
    have D := D.same t2
    have T := (Kt.same T t2).tab
    generalize upd (upd H17 q2 (.tup vs)) q2' (.tup [.str "rings", .ref q2]) = H17' at hrw hW hwh hwa htb hR hv D T ⊢
    clear y2 y2' t2 m2 m2'
    refine ⟨.ref d, .ref q2', rfl, fun u H18 hc s18 => ?_⟩
    have hrw := hrw.tk (Same.tk s18)
    have hW := hW.tk (Same.tk s18)
    have hwh := hwh.tk (Same.tk s18)
    have hwa := (Same.tk s18) _ _ hwa
    have htb := (Same.tk s18) _ _ htb
    have hR := s18 _ _ hR
    have hv : Paired (BesV _ g ts n) vs (List.range m) := Paired.mono (fun _ _ x => x.tk (Same.tk s18)) hv
    have D := D.same s18
    have T := (Kt.same T s18).tab
    have hcS := ChainV.shows n2 (fun su => hrw.shows w su) hc []
    rw [List.append_nil, eB] at hcS
    refine ⟨.ref wa, u, n, ts, g, rfl, hW, w.ok, by omega, (hc.pap (by decide) (hrw.pap (by omega))).mono (by decide), T, fun H19 k19 => ?_⟩
    rw [hcS 41 (by decide)]
    clear hcS hc hrw
    have hW := hW.tk (k19.tk T)
    have hwh := hwh.tk (k19.tk T)
    have hwa := (k19.tk T) _ _ hwa
    have htb := (k19.tk T) _ _ htb
    have hR := k19.lst T hR
    have hv : Paired (BesV _ g ts n) vs (List.range m) := Paired.mono (fun _ _ x => x.tk (k19.tk T)) hv
    have D := D.kt k19 T
    have T := k19.tab
    refine ⟨.int B, rfl, rfl, _, rfl, ?_⟩
    rw [show decide (optV (some B) = V.int B) = true from decide_eq_true rfl]
    refine ⟨by show 2 ≤ sizeLine; decide, fun f1 m1 => ⟨.ref tb, rfl, tb, us, rfl, .inr (SqT.of (same_new m1 _ _ htb)), .ref tb, rfl, tb, us, rfl, .inr (SqT.of (same_new m1 _ _ htb)), _, _, rfl, rfl, by show 2 ≤ sizeLine; decide, fun f2 m2 => ⟨by show 2 ≤ sizeLine; decide, fun f3 m3 => ⟨10, 40, rfl, rfl, ⟨by decide, by decide, by decide⟩, by show 2 ≤ sizeLine; decide, fun f4 m4 => ⟨by show 1 ≤ sizeLine; decide, fun f5 m5 => ⟨by show 2 ≤ sizeLine; decide, fun f6 m6 => ?_⟩⟩⟩⟩⟩⟩
    have x1 := same_new (o := .tup [.int 0, .int 1]) m1
    have x2 := same_new (o := .tup [.int us.length, .int ((us.length : Int) + 1)]) m2
    have x3 := same_new (o := .tup [.ref f1, .ref f2]) m3
    have x4 := same_new (o := .tup [.ref f3, .int ((10 : Int) ^ (40 : Int).toNat)]) m4
    have x5 := same_new (o := .tup [.ref f4]) m5
    have x6 := same_new (o := .tup [.str "rings", .ref f5]) m6
    have s20 := ((((x1.trans x2).trans x3).trans x4).trans x5).trans x6
    have hfr : FreeV _ us.length (.ref f6) := ⟨f6, f5, f4, f3, f1, f2, rfl, upd_same, x6 _ _ upd_same, x6 _ _ (x5 _ _ upd_same), x6 _ _ (x5 _ _ (x4 _ _ upd_same)), x6 _ _ (x5 _ _ (x4 _ _ (x3 _ _ (x2 _ _ upd_same)))), x6 _ _ (x5 _ _ (x4 _ _ (x3 _ _ upd_same)))⟩
    have hW := hW.tk (Same.tk s20)
    have hwh := hwh.tk (Same.tk s20)
    have hwa := (Same.tk s20) _ _ hwa
    have htb := (Same.tk s20) _ _ htb
    have hR := s20 _ _ hR
    have hv : Paired (BesV _ g ts n) vs (List.range m) := Paired.mono (fun _ _ x => x.tk (Same.tk s20)) hv
    have D := D.same s20
    have T := (Kt.same T s20).tab
    clear x1 x2 x3 x4 x5 x6 s20 m1 m2 m3 m4 m5 m6 hR hv hwa htb
    generalize upd (upd (upd (upd (upd (upd H19 f1 (.tup [.int 0, .int 1])) f2 (.tup [.int us.length, .int ((us.length : Int) + 1)])) f3 (.tup [.ref f1, .ref f2])) f4 (.tup [.ref f3, .int ((10 : Int) ^ (40 : Int).toNat)])) f5 (.tup [.ref f4])) f6 (.tup [.str "rings", .ref f5]) = H20 at hfr hW hwh D T ⊢
    rw [lu] at hfr
    refine ⟨.ref p3, rfl, .ref f6, rfl, by show 5 ≤ sizeLine; decide, fun c1 m1 => ⟨.ref f6, rfl, .ref p3, rfl, by show 5 ≤ sizeLine; decide, fun c2 m2 => ⟨by show 5 ≤ sizeLine; decide, fun c3 m3 => ?_⟩⟩⟩
    have x1 := same_new (o := .tup [.str "case", .int 0, .int 1, .ref p3, .ref f6]) m1
    have x2 := same_new (o := .tup [.str "case", .int 1, .int 0, .ref f6, .ref p3]) m2
    have x3 := same_new (o := .tup [.str "case", .int 0, .int 1, .ref c1, .ref c2]) m3
    have s21 := (x1.trans x2).trans x3
    have hc1 := x3 _ _ (x2 _ _ (upd_same (H := H20) (a := c1) (o := .tup [.str "case", .int 0, .int 1, .ref p3, .ref f6])))
    have hc2 := x3 _ _ (upd_same (H := upd H20 c1 (.tup [.str "case", .int 0, .int 1, .ref p3, .ref f6])) (a := c2) (o := .tup [.str "case", .int 1, .int 0, .ref f6, .ref p3]))
    have hc3 := upd_same (H := upd (upd H20 c1 (.tup [.str "case", .int 0, .int 1, .ref p3, .ref f6])) c2 (.tup [.str "case", .int 1, .int 0, .ref f6, .ref p3])) (a := c3) (o := .tup [.str "case", .int 0, .int 1, .ref c1, .ref c2])
    have hW := hW.tk (Same.tk s21)
    have hwh := hwh.tk (Same.tk s21)
    have hfr := hfr.tk (Same.tk s21)
    have D := D.same s21
    have T := (Kt.same T s21).tab
    clear x1 x2 x3 s21
    generalize upd (upd (upd H20 c1 (.tup [.str "case", .int 0, .int 1, .ref p3, .ref f6])) c2 (.tup [.str "case", .int 1, .int 0, .ref f6, .ref p3])) c3 (.tup [.str "case", .int 0, .int 1, .ref c1, .ref c2]) = H21 at hc1 hc2 hc3 hfr hW hwh D T ⊢
    have cs1 : CaseV H21 (.ref c1) 0 1 (.ref p3) (.ref f6) := ⟨c1, rfl, hc1⟩
    have cs2 : CaseV H21 (.ref c2) 1 0 (.ref f6) (.ref p3) := ⟨c2, rfl, hc2⟩
    have cs3 : CaseV H21 (.ref c3) 0 1 (.ref c1) (.ref c2) := ⟨c3, rfl, hc3⟩
    have lim : (limW g ts.length).length = ts.length := limW_len _ _
    have big : min L (5 * 10 ^ 39) = L := by
      have : (10 : Int) ^ 30 ≤ 5 * 10 ^ 39 := by decide
      omega
    have big' : min (5 * 10 ^ 39) L = L := by
      have : (10 : Int) ^ 30 ≤ 5 * 10 ^ 39 := by decide
      omega
    have e1 := cs1.shows (ts := ts ++ [⟨0, 1, false⟩]) n2 (.inl ⟨rfl, rfl⟩) (by rw [List.append_assoc]; exact hwh.shows w L1 Lg _) (hfr.shows n2 lim (.inl ⟨rfl, rfl⟩) (.inl ⟨rfl, rfl⟩) Bool.false_ne_true)
    have e2 := cs2.shows (ts := ts ++ [⟨0, 1, true⟩]) n2 (.inr ⟨rfl, rfl⟩) (hfr.shows n2 lim (.inl ⟨rfl, rfl⟩) (.inr ⟨rfl, rfl⟩) (fun z => Bool.false_ne_true z.symm)) (by rw [List.append_assoc]; exact hwh.shows w L1 Lg _)
    rw [big] at e1
    rw [big'] at e2
    have e3 := cs3.shows n2 (.inl ⟨rfl, rfl⟩) e1 e2
    rw [show min L L = L by omega] at e3
    have pw := hwh.pap n40
    have pf := hfr.pap
    refine ⟨.ref wa, rfl, .ref c3, rfl, .ref wa, .ref c3, n, ts, g, rfl, hW, w.ok, by omega, (cs3.pap (cs1.pap pw pf) (cs2.pap pf pw)).mono (by decide), T, fun H22 k22 => ?_⟩
    rw [e3 41 (by decide)]
    clear e1 e2 e3 cs1 cs2 cs3 pw pf
    have hW := hW.tk (k22.tk T)
    have hwh := hwh.tk (k22.tk T)
    have hfr := hfr.tk (k22.tk T)
    have hc1 := (k22.tk T) _ _ hc1
    have hc2 := (k22.tk T) _ _ hc2
    have hc3 := (k22.tk T) _ _ hc3
    have D := D.kt k22 T
    have T := k22.tab
    refine ⟨.int L, rfl, rfl, _, rfl, ?_⟩
    rw [show decide (optV (some L) = V.int L) = true from decide_eq_true rfl]
    refine ⟨.ref wa, rfl, .ref c3, rfl, 3, rfl, c3, _, rfl, hc3, fun r1 H23 s23 h23 => ?_⟩
    have h23 : H23 r1 = some (.tup [.str "case", .int 0, .int 1]) := h23
    have hW := hW.tk (Same.tk s23)
    have hwh := hwh.tk (Same.tk s23)
    have hfr := hfr.tk (Same.tk s23)
    have hc1 := (Same.tk s23) _ _ hc1
    have hc2 := (Same.tk s23) _ _ hc2
    have hc3 := (Same.tk s23) _ _ hc3
    have D := D.same s23
    have T := (Kt.same T s23).tab
    refine ⟨.ref c3, rfl, c3, _, 4, .ref c2, rfl, rfl, SqT.of hc3, rfl, .ref c3, rfl, c3, _, 3, .ref c1, rfl, rfl, SqT.of hc3, rfl, by show 2 ≤ sizeLine; decide, fun r2 m2' => ?_⟩
    have x1 := same_new (o := .tup [.ref c2, .ref c1]) m2'
    refine ⟨r1, r2, _, _, rfl, rfl, x1 _ _ h23, upd_same, by show 3 + 2 ≤ 100000; decide, fun r3 H24 s24 h24 => ?_⟩
    have h24 : H24 r3 = some (.tup [.str "case", .int 0, .int 1, .ref c2, .ref c1]) := h24
    have s24 := x1.trans s24
    have hW := hW.tk (Same.tk s24)
    have hwh := hwh.tk (Same.tk s24)
    have hfr := hfr.tk (Same.tk s24)
    have hc1 := (Same.tk s24) _ _ hc1
    have hc2 := (Same.tk s24) _ _ hc2
    have hc3 := (Same.tk s24) _ _ hc3
    have D := D.same s24
    have T := (Kt.same T s24).tab
    have cs1 : CaseV H24 (.ref c1) 0 1 (.ref p3) (.ref f6) := ⟨c1, rfl, hc1⟩
    have cs2 : CaseV H24 (.ref c2) 1 0 (.ref f6) (.ref p3) := ⟨c2, rfl, hc2⟩
    have cs3 : CaseV H24 (.ref r3) 0 1 (.ref c2) (.ref c1) := ⟨r3, rfl, h24⟩
    have pw := hwh.pap n40
    have pf := hfr.pap
    have e3 := cs3.none (D := 40) (lim := limW g ts.length) (given := rng ts.length) n2 (.inl ⟨rfl, rfl⟩) (cs2.none (D := 39) n2 (.inr ⟨rfl, rfl⟩) (hfr.none rfl rfl 39))
    refine ⟨.ref wa, .ref r3, n, ts, g, rfl, hW, w.ok, by omega, (cs3.pap (cs2.pap pf pw) (cs1.pap pw pf)).mono (by decide), T, fun H25 k25 => ?_⟩
    rw [e3]
    clear e3 cs1 cs2 cs3 pw pf
    have hW := hW.tk (k25.tk T)
    have hwh := hwh.tk (k25.tk T)
    have hfr := hfr.tk (k25.tk T)
    have hc1 := (k25.tk T) _ _ hc1
    have hc2 := (k25.tk T) _ _ hc2
    have hc3 := (k25.tk T) _ _ hc3
    have D := D.kt k25 T
    have T := k25.tab
    refine ⟨rfl, _, rfl, ?_⟩
    refine ⟨.int (i : Nat), rfl, rfl, _, rfl, ?_⟩
    cases hd : decide (V.int (i : Nat) = V.int 0) with
    | false => exact ⟨_, _, _, _, _, _, _, _, _, _, _, _, _, _, _, rfl, D, T⟩
    | true =>
    refine ⟨.ref wa, rfl, Nat.zero_le _, fun g1 m1 => ⟨Nat.zero_le _, fun g2 m2 => ⟨by show 2 ≤ sizeLine; decide, fun g3 m3 => ⟨by show 2 ≤ sizeLine; decide, fun g4 m4 => ⟨by show 1 ≤ sizeLine; decide, fun g5 m5 => ?_⟩⟩⟩⟩⟩
    have x1 := same_new (o := .tup []) m1
    have x2 := same_new (o := .tup []) m2
    have x3 := same_new (o := .tup [.str "rings", .ref g2]) m3
    have x4 := same_new (o := .tup [.ref g1, .ref g3]) m4
    have x5 := same_new (o := .tup [.ref g4]) m5
    refine ⟨g5, .ref g4, rfl, rfl, SqT.of upd_same, fun g6 m6 => ⟨by show 2 ≤ sizeLine; decide, fun g7 m7 => ?_⟩⟩
    have x6 := same_new (o := .tup (List.replicate 2000 (.ref g4))) m6
    have x7 := same_new (o := .tup [.str "split", .ref g6]) m7
    have s26 := (((((x1.trans x2).trans x3).trans x4).trans x5).trans x6).trans x7
    have hsp := split_none (n := n) (ts := ts) (lim := limW g ts.length) (given := rng ts.length) (t := g7) (r := g6) (a := g4) (e := g1) (q := g3) (r0 := g2) upd_same (x7 _ _ upd_same) (x7 _ _ (x6 _ _ (x5 _ _ upd_same))) (x7 _ _ (x6 _ _ (x5 _ _ (x4 _ _ (x3 _ _ (x2 _ _ upd_same)))))) (x7 _ _ (x6 _ _ (x5 _ _ (x4 _ _ upd_same)))) (x7 _ _ (x6 _ _ (x5 _ _ (x4 _ _ (x3 _ _ upd_same)))))
    have hW := hW.tk (Same.tk s26)
    have hwh := hwh.tk (Same.tk s26)
    have hfr := hfr.tk (Same.tk s26)
    have hc1 := (Same.tk s26) _ _ hc1
    have hc2 := (Same.tk s26) _ _ hc2
    have hc3 := (Same.tk s26) _ _ hc3
    have D := D.same s26
    have T := (Kt.same T s26).tab
    refine ⟨.ref wa, .ref g7, n, ts, g, rfl, hW, w.ok, by omega, hsp.2.mono (by decide), T, fun H27 k27 => ?_⟩
    rw [hsp.1 41 (by decide)]
    refine ⟨rfl, _, rfl, ?_⟩
    rw [show decide (optV (some 0) = V.int 0) = true from decide_eq_true rfl]
    exact ⟨_, _, _, _, _, _, _, _, _, _, _, _, _, _, _, rfl, D.kt k27 T, k27.tab⟩
end
/-! ### the end of a law whose defs hold generator expressions: their tables are empty behind the top -/
theorem walk_tabs {l : PySem.W.OpenLaw} {n k : Nat} {q : Program} {loose : List Str} {XP : (Str → Option Value) → Heap → Prop} {YP : World → Heap → Prop} {d : DefRec} {K : Params → PySem.W.Frag} {x : Str}
    (hn : l.most = some n) (hn2 : n ≤ sizeLine) (hdf : d.params.defaults = []) (hr : Room k callerA) (hY : ∀ (w : World) (h : Heap), YP w h → (K w.params).In h)
    (F : ∀ (w : World) (mg : Str → Option Value) (fa : Addr) (h : Heap), (K w.params).In h → h.Ns mainGlobals mg → mg d.name = some (.ref fa) →
      (∀ (y : Str) (fy : Addr), ((recsOf q).any fun e => e.name == y) = true → mg y = some (.ref fy) → LamX.OwnTab (K w.params) fy h) → LamX.LawAtS l w (K w.params) CX0 k n x mg fa h) :
    PySem.W.WalkO q loose XP YP l.row.toRowW d [] (fun f vs => PySem.call f vs) := by
  refine Att.attach_callB hn hdf fun w s₀ s₁ mg mb fa o pm cd doc a vs ns G Y ho hd hcd hmg hobj hints hlen hbits hg => ?_
  have KX := hY w _ Y
  have tabs : ∀ (y : Str) (fy : Addr), ((recsOf q).any fun e => e.name == y) = true → mg y = some (.ref fy) → LamX.OwnTab (K w.params) fy s₁.heap := fun y fy hy hm c P o1 fd1 e dd vs1 sl k1 k2 k3 k4 k5 => by
    obtain ⟨dL, hmem, hnm⟩ := List.any_eq_true.mp hy
    have hnm : dL.name = y := beq_iff_eq.mp hnm
    obtain ⟨a', o', fd', c', P', h1, h2, h3, h4, h5, h6⟩ := G.T.tab dL hmem
    rw [hnm, hm] at h1
    cases h1
    rw [KX _ _ k1] at h2
    cases h2
    rw [k2] at h3
    cases h3
    rw [k3] at h4
    cases h4
    obtain ⟨⟨oc, vc, e1, _, e3, e4⟩, hP⟩ := h6
    rw [KX _ _ k4] at e1
    cases e1
    cases e3
    rw [k5] at e4
    cases e4
    exact hP
  obtain ⟨fd, cs, sp, hT, nT, C, hb, hsp, hF⟩ := F w mg fa _ KX G.T.g hmg tabs
  exact LamX.law_callTs KX G.T.g G.T.b G.T.builtins G.T.nolimit hg hT nT C G.T.bmain hobj hints (Nat.le_trans hlen hn2) hr hF hb (fun H hH hS => hsp H a ns hlen hbits hH hS) fun H e s' z => z
/-- where a def stands, and where its code object does -/
structure At (K : PySem.W.Frag) (x : Str) (st : Stmt) (f : Addr) : Prop where
  ns : PySem.W.nsIn K mainGlobals x = some (some (.ref f))
  ex : ∃ (oc : Value) (od : Option Addr) (kV doc pm : Value) (an : Option Addr) (cdv ct : Value) (osl : Array (Option Value)),
    K.lookup f = some ⟨oc, od, .func (PySem.W.fnOf x x (defArgs st) (defBody st) (defScope st) .none kV doc pm an cdv ct), osl⟩ ∧ PySem.W.codeIn K cdv x = true
  kp : PySem.W.keepIn K (.ref f) = true
theorem at_mk {K : PySem.W.Frag} {x : Str} {st : Stmt} {f : Addr} {oc : Value} {od an : Option Addr} {osl : Array (Option Value)} {kV doc pm cdv ct : Value} (a : PySem.W.nsIn K mainGlobals x = some (some (.ref f)))
    (l : K.lookup f = some ⟨oc, od, .func (PySem.W.fnOf x x (defArgs st) (defBody st) (defScope st) .none kV doc pm an cdv ct), osl⟩) (c : PySem.W.codeIn K cdv x = true) (k : PySem.W.keepIn K (.ref f) = true) : At K x st f := ⟨a, ⟨oc, od, kV, doc, pm, an, cdv, ct, osl, l, c⟩, k⟩
theorem At.fn {K : PySem.W.Frag} {x : Str} {st : Stmt} {f : Addr} (h : At K x st f) : ∃ fd, Fun K x x st f fd := by
  obtain ⟨oc, od, kV, doc, pm, an, cdv, ct, osl, l, c⟩ := h.ex
  exact ⟨_, fun_mk l c h.kp⟩
structure AtC (K : PySem.W.Frag) (x : Str) (st : Stmt) (f c Pt : Addr) : Prop where
  ns : PySem.W.nsIn K mainGlobals x = some (some (.ref f))
  ex : ∃ (oc : Value) (od : Option Addr) (kV doc pm : Value) (an : Option Addr) (ct : Value) (osl : Array (Option Value)),
    K.lookup f = some ⟨oc, od, .func (PySem.W.fnOf x x (defArgs st) (defBody st) (defScope st) .none kV doc pm an (.ref c) ct), osl⟩ ∧ PySem.W.codeIn K (.ref c) x = true
  kp : PySem.W.keepIn K (.ref f) = true
  co : ∃ (dd : Option Addr) (vs : Array Value) (sl : Array (Option Value)) (file : Str) (tf : Tok) (flags : Int) (tg : Tok) (inF : Bool) (text : Int) (tt : Tok), K.lookup c = some ⟨.type "code", dd, .fields vs, sl⟩ ∧ vs[11]? = some (.ref Pt) ∧ vs.getD 11 .none = .ref Pt ∧ vs.getD 18 .none = .str file tf ∧
    vs.getD 7 .none = .int flags tg ∧ vs.getD 9 .none = .bool inF ∧ vs.getD 10 .none = .int text tt ∧ c ≠ Pt
  nP : K.lookup Pt = none
theorem atC_mk {K : PySem.W.Frag} {x : Str} {st : Stmt} {f c Pt : Addr} {oc : Value} {od an dd : Option Addr} {osl sl : Array (Option Value)} {kV doc pm ct : Value} {vs : Array Value} {file : Str} {tf tg tt : Tok} {flags text : Int} {inF : Bool} (a : PySem.W.nsIn K mainGlobals x = some (some (.ref f)))
    (l : K.lookup f = some ⟨oc, od, .func (PySem.W.fnOf x x (defArgs st) (defBody st) (defScope st) .none kV doc pm an (.ref c) ct), osl⟩) (cc : PySem.W.codeIn K (.ref c) x = true) (k : PySem.W.keepIn K (.ref f) = true)
    (lc : K.lookup c = some ⟨.type "code", dd, .fields vs, sl⟩) (v11 : vs[11]? = some (.ref Pt)) (w11 : vs.getD 11 .none = .ref Pt) (v18 : vs.getD 18 .none = .str file tf) (v7 : vs.getD 7 .none = .int flags tg) (v9 : vs.getD 9 .none = .bool inF) (v10 : vs.getD 10 .none = .int text tt) (ne : c ≠ Pt)
    (nP : K.lookup Pt = none) : AtC K x st f c Pt := ⟨a, ⟨oc, od, kV, doc, pm, an, ct, osl, l, cc⟩, k, ⟨dd, vs, sl, file, tf, flags, tg, inF, text, tt, lc, v11, w11, v18, v7, v9, v10, ne⟩, nP⟩
theorem AtC.fn {K : PySem.W.Frag} {x : Str} {st : Stmt} {f c Pt : Addr} (h : AtC K x st f c Pt) : ∃ fd, FunC K x x st f fd c := by
  obtain ⟨oc, od, kV, doc, pm, an, ct, osl, l, cc⟩ := h.ex
  exact ⟨_, ⟨oc, od, kV, doc, pm, an, ct, osl, rfl, l, cc⟩, h.kp⟩
theorem AtC.hd {K : PySem.W.Frag} {h : Heap} {x : Str} {st : Stmt} {f c Pt : Addr} (a : AtC K x st f c Pt) (X : K.In h) : PySem.W.CodeHd h c Pt := by
  obtain ⟨dd, vs, sl, file, tf, flags, tg, inF, text, tt, lc, v11, w11, v18, v7, v9, v10, ne⟩ := a.co
  exact ⟨_, vs, file, tf, flags, tg, inF, text, tt, X _ _ lc, rfl, rfl, v11, w11, v18, v7, v9, v10, ne⟩
theorem AtC.tab {K : PySem.W.Frag} {h : Heap} {x : Str} {st : Stmt} {f c Pt : Addr} (a : AtC K x st f c Pt) (o : LamX.OwnTab K f h) : h.get? Pt = some { cls := .none, data := .fields #[] } := by
  obtain ⟨oc, od, kV, doc, pm, an, ct, osl, l, cc⟩ := a.ex
  obtain ⟨dd, vs, sl, file, tf, flags, tg, inF, text, tt, lc, v11, w11, v18, v7, v9, v10, ne⟩ := a.co
  exact o c Pt _ _ _ _ _ _ l rfl rfl lc v11
section
variable {P : Program} {w : World} {K : PySem.W.Frag} {mg : Str → Option Value} {base : Heap}
theorem Df.of {x : Str} {st : Stmt} {f : Addr} {fd : FuncData} {k : Nat} {ps : List Str} {sp : Sp} (g : mg x = some (.ref f)) (F : Fun K x x st f fd) (G : FnOk P w K mg base CX0 k f fd ps sp)
    (h : ∀ (kV doc pm : Value) (an : Option Addr) (cdv ct : Value) (us : List Value), us.length = ps.length → bindArgs (PySem.W.fnOf x x (defArgs st) (defBody st) (defScope st) .none kV doc pm an cdv ct) ⟨us, []⟩ = pure (ps.zip us)) : Df P w K mg base k x ps sp :=
  ⟨f, fd, G, g, F.kp, F.binds h⟩
end
/-! ### what the top has written -/
section
variable {P : Program} {w : World} {K : PySem.W.Frag} {mg : Str → Option Value} {base : Heap}
set_option maxHeartbeats 0 in
theorem law_at {l : PySem.W.OpenLaw} {w : World} {K : PySem.W.Frag} {h : Heap} {mg : Str → Option Value} {fa f0 f1 f2 f3 f4 f5 f6 f7 f8 f9 f10 f11 f12 f13 f14 f15 f16 f17 f18 f19 f20 f21 f22 f23 f24 f25 f26 f27 c5 P5 c6 P6 c8 P8 c12 P12 c13 P13 c14 P14 : Addr} (X : K.In h) (G : h.Ns mainGlobals mg) (hfa : mg "law" = some (.ref fa))
    (t5 : ∀ (fy : Addr), mg "are_rising_below" = some (.ref fy) → LamX.OwnTab K fy h)
    (t6 : ∀ (fy : Addr), mg "are_unlike_below" = some (.ref fy) → LamX.OwnTab K fy h)
    (t8 : ∀ (fy : Addr), mg "ring_holds" = some (.ref fy) → LamX.OwnTab K fy h)
    (t12 : ∀ (fy : Addr), mg "is_ring_row" = some (.ref fy) → LamX.OwnTab K fy h)
    (t13 : ∀ (fy : Addr), mg "rings_show" = some (.ref fy) → LamX.OwnTab K fy h)
    (t14 : ∀ (fy : Addr), mg "is_split_row" = some (.ref fy) → LamX.OwnTab K fy h)
    (a0 : At K "is_whole" s_is_whole f0)
    (a1 : At K "is_whole_from" s_is_whole_from f1)
    (a2 : At K "is_whole_below" s_is_whole_below f2)
    (a3 : At K "are_unlike_places" s_are_unlike_places f3)
    (a4 : At K "is_tuple_of" s_is_tuple_of f4)
    (a5 : AtC K "are_rising_below" s_are_rising_below f5 c5 P5)
    (a6 : AtC K "are_unlike_below" s_are_unlike_below f6 c6 P6)
    (a7 : At K "joins" s_joins f7)
    (a8 : AtC K "ring_holds" s_ring_holds f8 c8 P8)
    (a9 : At K "foes_in" s_foes_in f9)
    (a10 : At K "odd_ring_holds" s_odd_ring_holds f10)
    (a11 : At K "weight_of" s_weight_of f11)
    (a12 : AtC K "is_ring_row" s_is_ring_row f12 c12 P12)
    (a13 : AtC K "rings_show" s_rings_show f13 c13 P13)
    (a14 : AtC K "is_split_row" s_is_split_row f14 c14 P14)
    (a15 : At K "split_shows" s_split_shows f15)
    (a16 : At K "case_shows" s_case_shows f16)
    (a17 : At K "knot_shows" s_knot_shows f17)
    (a18 : At K "shown_by" s_shown_by f18)
    (a19 : At K "_law_feed" s_l_feed f19)
    (a20 : At K "_law_draw" s_l_draw f20)
    (a21 : At K "_law_weight" s_l_weight f21)
    (a22 : At K "_law_told" s_l_told f22)
    (a23 : At K "_law_round" s_l_round f23)
    (a24 : At K "_law_about" s_l_about f24)
    (a25 : At K "_law_beside" s_l_beside f25)
    (a26 : At K "_law_chain" s_l_chain f26)
    (a27 : At K "law" s_law f27)
    (z0 : PySem.W.nsIn K mainGlobals "len" = some none)
    (z1 : PySem.W.nsIn K mainGlobals "int" = some none)
    (z2 : PySem.W.nsIn K mainGlobals "bool" = some none)
    (z3 : PySem.W.nsIn K mainGlobals "str" = some none)
    (z4 : PySem.W.nsIn K mainGlobals "list" = some none)
    (z5 : PySem.W.nsIn K mainGlobals "tuple" = some none)
    (z6 : PySem.W.nsIn K mainGlobals "range" = some none)
    (z7 : PySem.W.nsIn K mainGlobals "isinstance" = some none)
    (z8 : PySem.W.nsIn K mainGlobals "sum" = some none)
    (z9 : PySem.W.nsIn K mainGlobals "all" = some none)
    (z10 : PySem.W.nsIn K mainGlobals "any" = some none)
    (z11 : PySem.W.nsIn K mainGlobals "min" = some none)
    (z12 : PySem.W.nsIn K mainGlobals "set" = some none)
    (z13 : PySem.W.nsIn K mainGlobals "zip" = some none)
     :
    LamX.LawAtS l w K CX0 105 63 "_law_script" mg fa h := by
  have efa := hfa.symm.trans (PySem.W.mg_of X G a27.ns)
  cases efa
  have M : Free mg := ⟨PySem.W.mg_none_of X G z0, PySem.W.mg_none_of X G z1, PySem.W.mg_none_of X G z2, PySem.W.mg_none_of X G z3, PySem.W.mg_none_of X G z4, PySem.W.mg_none_of X G z5, PySem.W.mg_none_of X G z6, PySem.W.mg_none_of X G z7, PySem.W.mg_none_of X G z8⟩
  have m_all := PySem.W.mg_none_of X G z9
  have m_any := PySem.W.mg_none_of X G z10
  have m_min := PySem.W.mg_none_of X G z11
  have m_set := PySem.W.mg_none_of X G z12
  have m_zip := PySem.W.mg_none_of X G z13
  obtain ⟨d0, F0⟩ := a0.fn
  obtain ⟨d1, F1⟩ := a1.fn
  obtain ⟨d2, F2⟩ := a2.fn
  obtain ⟨d3, F3⟩ := a3.fn
  obtain ⟨d4, F4⟩ := a4.fn
  obtain ⟨d5, F5⟩ := a5.fn
  obtain ⟨d6, F6⟩ := a6.fn
  obtain ⟨d7, F7⟩ := a7.fn
  obtain ⟨d8, F8⟩ := a8.fn
  obtain ⟨d9, F9⟩ := a9.fn
  obtain ⟨d10, F10⟩ := a10.fn
  obtain ⟨d11, F11⟩ := a11.fn
  obtain ⟨d12, F12⟩ := a12.fn
  obtain ⟨d13, F13⟩ := a13.fn
  obtain ⟨d14, F14⟩ := a14.fn
  obtain ⟨d15, F15⟩ := a15.fn
  obtain ⟨d16, F16⟩ := a16.fn
  obtain ⟨d17, F17⟩ := a17.fn
  obtain ⟨d18, F18⟩ := a18.fn
  obtain ⟨d19, F19⟩ := a19.fn
  obtain ⟨d20, F20⟩ := a20.fn
  obtain ⟨d21, F21⟩ := a21.fn
  obtain ⟨d22, F22⟩ := a22.fn
  obtain ⟨d23, F23⟩ := a23.fn
  obtain ⟨d24, F24⟩ := a24.fn
  obtain ⟨d25, F25⟩ := a25.fn
  obtain ⟨d26, F26⟩ := a26.fn
  obtain ⟨d27, F27⟩ := a27.fn
  have g0 := PySem.W.mg_of X G a0.ns
  have g1 := PySem.W.mg_of X G a1.ns
  have g2 := PySem.W.mg_of X G a2.ns
  have g3 := PySem.W.mg_of X G a3.ns
  have g4 := PySem.W.mg_of X G a4.ns
  have g5 := PySem.W.mg_of X G a5.ns
  have g6 := PySem.W.mg_of X G a6.ns
  have g7 := PySem.W.mg_of X G a7.ns
  have g8 := PySem.W.mg_of X G a8.ns
  have g9 := PySem.W.mg_of X G a9.ns
  have g10 := PySem.W.mg_of X G a10.ns
  have g11 := PySem.W.mg_of X G a11.ns
  have g12 := PySem.W.mg_of X G a12.ns
  have g13 := PySem.W.mg_of X G a13.ns
  have g14 := PySem.W.mg_of X G a14.ns
  have g15 := PySem.W.mg_of X G a15.ns
  have g16 := PySem.W.mg_of X G a16.ns
  have g17 := PySem.W.mg_of X G a17.ns
  have g18 := PySem.W.mg_of X G a18.ns
  have g19 := PySem.W.mg_of X G a19.ns
  have g20 := PySem.W.mg_of X G a20.ns
  have g21 := PySem.W.mg_of X G a21.ns
  have g22 := PySem.W.mg_of X G a22.ns
  have g23 := PySem.W.mg_of X G a23.ns
  have g24 := PySem.W.mg_of X G a24.ns
  have g25 := PySem.W.mg_of X G a25.ns
  have g26 := PySem.W.mg_of X G a26.ns
  have hb0 : ∀ (s : Shared) (u : Value), BindsTo s d27 ⟨[u], []⟩ [("_law_script", u)] := by
    obtain ⟨oc, od, kV, doc, pm, an, cdv, ct, osl, rfl, _⟩ := F27.ex
    exact fun s u => .of_eq rfl
  refine ⟨d27, [(c5, P5), (c6, P6), (c8, P8), (c12, P12), (c13, P13), (c14, P14)], (spLaw K [P5, P6, P8, P12, P13, P14]), (List.forall_mem_cons.mpr ⟨a5.tab (t5 _ g5), (List.forall_mem_cons.mpr ⟨a6.tab (t6 _ g6), (List.forall_mem_cons.mpr ⟨a8.tab (t8 _ g8), (List.forall_mem_cons.mpr ⟨a12.tab (t12 _ g12), (List.forall_mem_cons.mpr ⟨a13.tab (t13 _ g13), (List.forall_mem_cons.mpr ⟨a14.tab (t14 _ g14), (fun p hp => by simp at hp)⟩)⟩)⟩)⟩)⟩)⟩), (List.forall_mem_cons.mpr ⟨a5.nP, (List.forall_mem_cons.mpr ⟨a6.nP, (List.forall_mem_cons.mpr ⟨a8.nP, (List.forall_mem_cons.mpr ⟨a12.nP, (List.forall_mem_cons.mpr ⟨a13.nP, (List.forall_mem_cons.mpr ⟨a14.nP, (fun p hp => by simp at hp)⟩)⟩)⟩)⟩)⟩)⟩), (List.forall_mem_cons.mpr ⟨a5.hd X, (List.forall_mem_cons.mpr ⟨a6.hd X, (List.forall_mem_cons.mpr ⟨a8.hd X, (List.forall_mem_cons.mpr ⟨a12.hd X, (List.forall_mem_cons.mpr ⟨a13.hd X, (List.forall_mem_cons.mpr ⟨a14.hd X, (fun p hp => by simp at hp)⟩)⟩)⟩)⟩)⟩)⟩), hb0, fun H a ns hl _ hT hS => ⟨a, ns, rfl, hS, hl, (List.forall_mem_cons.mpr ⟨⟨#[], hT (c5, P5) (by simp), by trivial⟩, (List.forall_mem_cons.mpr ⟨⟨#[], hT (c6, P6) (by simp), by trivial⟩, (List.forall_mem_cons.mpr ⟨⟨#[], hT (c8, P8) (by simp), by trivial⟩, (List.forall_mem_cons.mpr ⟨⟨#[], hT (c12, P12) (by simp), by trivial⟩, (List.forall_mem_cons.mpr ⟨⟨#[], hT (c13, P13) (by simp), by trivial⟩, (List.forall_mem_cons.mpr ⟨⟨#[], hT (c14, P14) (by simp), by trivial⟩, (fun p hp => by simp at hp)⟩)⟩)⟩)⟩)⟩)⟩), fun _ => rfl⟩, fun base KB GB TB => ?_⟩
  have tb5 := TB (c5, P5) (by simp)
  have tb6 := TB (c6, P6) (by simp)
  have tb8 := TB (c8, P8) (by simp)
  have tb12 := TB (c12, P12) (by simp)
  have tb13 := TB (c13, P13) (by simp)
  have tb14 := TB (c14, P14) (by simp)
  have D0 : Df l.prog w K mg base 1 "is_whole" ["thing"] spWhole := .of g0 F0 (ok_is_whole F0 M) fun _ _ _ _ _ _ us hl => match us, hl with | [_], _ => rfl
  have D1 : Df l.prog w K mg base 2 "is_whole_from" ["low", "thing"] spFrom := .of g1 F1 (ok_is_whole_from F1 D0) fun _ _ _ _ _ _ us hl => match us, hl with | [_, _], _ => rfl
  have D2 : Df l.prog w K mg base 2 "is_whole_below" ["limit", "thing"] spBelow := .of g2 F2 (ok_is_whole_below F2 D0) fun _ _ _ _ _ _ us hl => match us, hl with | [_, _], _ => rfl
  have D3 : Df l.prog w K mg base 3 "are_unlike_places" ["many", "one", "other"] spUnlikePl := .of g3 F3 (ok_are_unlike_places F3 D2) fun _ _ _ _ _ _ us hl => match us, hl with | [_, _, _], _ => rfl
  have D4 : Df l.prog w K mg base 1 "is_tuple_of" ["length", "thing"] spTupleOf := .of g4 F4 (ok_is_tuple_of F4 M) fun _ _ _ _ _ _ us hl => match us, hl with | [_, _], _ => rfl
  have D5 : Df l.prog w K mg base 4 "are_rising_below" ["limit", "thing"] (spRising [P5, P6, P8, P12, P13, P14]) := .of g5 F5.fn (ok_are_rising_below F5 ⟨tb5.code, tb5.bm, tb5.gP⟩ (show P5 ∈ [P5, P6, P8, P12, P13, P14] by simp) M m_all m_zip D2) fun _ _ _ _ _ _ us hl => match us, hl with | [_, _], _ => rfl
  have D6 : Df l.prog w K mg base 4 "are_unlike_below" ["limit", "thing"] (spUnlike [P5, P6, P8, P12, P13, P14]) := .of g6 F6.fn (ok_are_unlike F6 ⟨tb6.code, tb6.bm, tb6.gP⟩ (show P6 ∈ [P5, P6, P8, P12, P13, P14] by simp) M m_all m_set D2) fun _ _ _ _ _ _ us hl => match us, hl with | [_, _], _ => rfl
  have D7 : Df l.prog w K mg base 1 "joins" ["tie", "one", "other"] spJoins := .of g7 F7 (ok_joins F7) fun _ _ _ _ _ _ us hl => match us, hl with | [_, _, _], _ => rfl
  have D8 : Df l.prog w K mg base 5 "ring_holds" ["web", "thing"] (spRing [P5, P6, P8, P12, P13, P14]) := .of g8 F8.fn (ok_ring_holds F8 ⟨tb8.code, tb8.bm, tb8.gP⟩ (show P8 ∈ [P5, P6, P8, P12, P13, P14] by simp) M m_all m_zip D4 D6 D7) fun _ _ _ _ _ _ us hl => match us, hl with | [_, _], _ => rfl
  have D9 : Df l.prog w K mg base 1 "foes_in" ["web", "ring"] spFoes := .of g9 F9 (ok_foes_in F9 M) fun _ _ _ _ _ _ us hl => match us, hl with | [_, _], _ => rfl
  have D10 : Df l.prog w K mg base 6 "odd_ring_holds" ["web", "thing"] (spOdd [P5, P6, P8, P12, P13, P14]) := .of g10 F10 (ok_odd_ring F10 D8 D9) fun _ _ _ _ _ _ us hl => match us, hl with | [_, _], _ => rfl
  have D11 : Df l.prog w K mg base 1 "weight_of" ["weights", "tie"] spWeightOf := .of g11 F11 (ok_weight_of F11) fun _ _ _ _ _ _ us hl => match us, hl with | [_, _], _ => rfl
  have D12 : Df l.prog w K mg base 9 "is_ring_row" ["web", "limits", "given", "thing"] (spRingRow [P5, P6, P8, P12, P13, P14]) := .of g12 F12.fn (ok_is_ring_row F12 ⟨tb12.code, tb12.bm, tb12.gP⟩ (show P12 ∈ [P5, P6, P8, P12, P13, P14] by simp) M m_all D4 D10 D1) fun _ _ _ _ _ _ us hl => match us, hl with | [_, _, _, _], _ => rfl
  have D13 : Df l.prog w K mg base 11 "rings_show" ["web", "limits", "given", "rows"] (spRingsShow [P5, P6, P8, P12, P13, P14]) := .of g13 F13.fn (ok_rings_show F13 ⟨tb13.code, tb13.bm, tb13.gP⟩ (show P13 ∈ [P5, P6, P8, P12, P13, P14] by simp) M m_any D12) fun _ _ _ _ _ _ us hl => match us, hl with | [_, _, _, _], _ => rfl
  have D14 : Df l.prog w K mg base 6 "is_split_row" ["limits", "given", "taken", "thing"] (spSplitRow [P5, P6, P8, P12, P13, P14]) := .of g14 F14.fn (ok_is_split_row F14 ⟨tb14.code, tb14.bm, tb14.gP⟩ (show P14 ∈ [P5, P6, P8, P12, P13, P14] by simp) M m_all D5 D4) fun _ _ _ _ _ _ us hl => match us, hl with | [_, _, _, _], _ => rfl
  have D15 : Df l.prog w K mg base 1 "split_shows" ["web", "limits", "given", "rows"] (fun _ _ _ _ => False) := .of g15 F15 (⟨fun vs H Q E h => h.elim, fun B out z H ar us vs Q E _ _ _ _ h => h.elim⟩) fun _ _ _ _ _ _ us hl => match us, hl with | [_, _, _, _], _ => rfl
  have D16 : Df l.prog w K mg base 1 "case_shows" ["web", "limits", "given", "thing"] (fun _ _ _ _ => False) := .of g16 F16 (⟨fun vs H Q E h => h.elim, fun B out z H ar us vs Q E _ _ _ _ h => h.elim⟩) fun _ _ _ _ _ _ us hl => match us, hl with | [_, _, _, _], _ => rfl
  have D17 : Df l.prog w K mg base 102 "knot_shows" ["web", "limits", "given", "thing"] (spKnot [P5, P6, P8, P12, P13, P14] 41) := .of g17 F17 (ok_knots F17 F15 F16 M m_min g17 g15 g16 (F17.binds fun _ _ _ _ _ _ us hl => match us, hl with | [_, _, _, _], _ => rfl) (F15.binds fun _ _ _ _ _ _ us hl => match us, hl with | [_, _, _, _], _ => rfl) (F16.binds fun _ _ _ _ _ _ us hl => match us, hl with | [_, _, _, _], _ => rfl) D4 D13 D14 D3 41) fun _ _ _ _ _ _ us hl => match us, hl with | [_, _, _, _], _ => rfl
  have D18 : Df l.prog w K mg base 103 "shown_by" ["web", "weights", "thing"] (spShownBy [P5, P6, P8, P12, P13, P14] 40) := .of g18 F18 (ok_shown_by 40 F18 M D11 D17) fun _ _ _ _ _ _ us hl => match us, hl with | [_, _, _], _ => rfl
  have D19 : Df l.prog w K mg base 1 "_law_feed" ["_law_script"] (spDeck K) := .of g19 F19 (ok_l_feed F19 M) fun _ _ _ _ _ _ us hl => match us, hl with | [_], _ => rfl
  have D20 : Df l.prog w K mg base 1 "_law_draw" ["_law_feed_here", "_law_most"] spDraw := .of g20 F20 (ok_l_draw F20 M) fun _ _ _ _ _ _ us hl => match us, hl with | [_, _], _ => rfl
  have D21 : Df l.prog w K mg base 1 "_law_weight" ["_law_weights", "_law_tie"] spLW50 := .of g21 F21 (ok_l_weight50 F21) fun _ _ _ _ _ _ us hl => match us, hl with | [_, _], _ => rfl
  have D22 : Df l.prog w K mg base 104 "_law_told" ["_law_world", "_law_thing"] (spTold [P5, P6, P8, P12, P13, P14] 40) := .of g22 F22 (ok_l_told 40 F22 M D18) fun _ _ _ _ _ _ us hl => match us, hl with | [_, _], _ => rfl
  have D23 : Df l.prog w K mg base 2 "_law_round" ["_law_feed_here"] spRound := .of g23 F23 (ok_l_round F23 M m_min D20) fun _ _ _ _ _ _ us hl => match us, hl with | [_], _ => rfl
  have D24 : Df l.prog w K mg base 2 "_law_about" ["_law_feed_here", "_law_many"] spAbout50 := .of g24 F24 (ok_l_about F24 M D20) fun _ _ _ _ _ _ us hl => match us, hl with | [_, _], _ => rfl
  have D25 : Df l.prog w K mg base 2 "_law_beside" ["_law_world"] spBeside := .of g25 F25 (ok_l_beside F25 M m_min D21) fun _ _ _ _ _ _ us hl => match us, hl with | [_], _ => rfl
  have D26 : Df l.prog w K mg base 1 "_law_chain" ["_law_feed_here", "_law_inner"] spChain := .of g26 F26 (ok_l_chain F26 M) fun _ _ _ _ _ _ us hl => match us, hl with | [_, _], _ => rfl
  exact ok_law F27 M m_min D19 D23 D21 D24 D22 D25 D26
end
end FF
open PySem PySem.W PyProof.Rows
set_option maxRecDepth 100000 in
set_option maxHeartbeats 0 in
theorem PySem.Challenge.cw_friendfoe_k50_great_papers_holds : PySem.Challenge.rw_friendfoe_k50_great_papers.Holds := by
  w_on; o_law; k_head; (case hw => w_witness2)
  k_fill
  refine FF.walk_tabs (l := PySem.Challenge.rw_friendfoe_k50_great_papers) (n := 63) (k := 105) (x := "_law_script") rfl (by decide) rfl ⟨rfl, by decide, by decide⟩ (fun w h Y => PySem.W.kIn_of Y) ?F
  case F =>
    intro w mg fa h KX G hmg tabs
    refine' FF.law_at KX G hmg (fun fy => tabs "are_rising_below" fy ?r5) (fun fy => tabs "are_unlike_below" fy ?r6) (fun fy => tabs "ring_holds" fy ?r8) (fun fy => tabs "is_ring_row" fy ?r12) (fun fy => tabs "rings_show" fy ?r13) (fun fy => tabs "is_split_row" fy ?r14) ?a0 ?a1 ?a2 ?a3 ?a4 ?a5 ?a6 ?a7 ?a8 ?a9 ?a10 ?a11 ?a12 ?a13 ?a14 ?a15 ?a16 ?a17 ?a18 ?a19 ?a20 ?a21 ?a22 ?a23 ?a24 ?a25 ?a26 ?a27 ?z0 ?z1 ?z2 ?z3 ?z4 ?z5 ?z6 ?z7 ?z8 ?z9 ?z10 ?z11 ?z12 ?z13 
    (case r5 => rfl)
    (case r6 => rfl)
    (case r8 => rfl)
    (case r12 => rfl)
    (case r13 => rfl)
    (case r14 => rfl)
    (case a0 => refine' FF.at_mk ?p1 ?p2 ?p3 ?p4; (case p1 => k_is); (case p2 => k_is); (case p3 => k_is); (case p4 => k_is))
    (case a1 => refine' FF.at_mk ?p1 ?p2 ?p3 ?p4; (case p1 => k_is); (case p2 => k_is); (case p3 => k_is); (case p4 => k_is))
    (case a2 => refine' FF.at_mk ?p1 ?p2 ?p3 ?p4; (case p1 => k_is); (case p2 => k_is); (case p3 => k_is); (case p4 => k_is))
    (case a3 => refine' FF.at_mk ?p1 ?p2 ?p3 ?p4; (case p1 => k_is); (case p2 => k_is); (case p3 => k_is); (case p4 => k_is))
    (case a4 => refine' FF.at_mk ?p1 ?p2 ?p3 ?p4; (case p1 => k_is); (case p2 => k_is); (case p3 => k_is); (case p4 => k_is))
    (case a5 => refine' FF.atC_mk ?p1 ?p2 ?p3 ?p4 ?p5 ?p6 ?p7 ?p8 ?p9 ?p10 ?p11 ?p12 ?p13; (case p1 => k_is); (case p2 => k_is); (case p3 => k_is); (case p4 => k_is); (case p5 => k_is); (case p6 => rfl); (case p7 => rfl); (case p8 => rfl); (case p9 => rfl); (case p10 => rfl); (case p11 => rfl); (case p12 => decide); (case p13 => rfl))
    (case a6 => refine' FF.atC_mk ?p1 ?p2 ?p3 ?p4 ?p5 ?p6 ?p7 ?p8 ?p9 ?p10 ?p11 ?p12 ?p13; (case p1 => k_is); (case p2 => k_is); (case p3 => k_is); (case p4 => k_is); (case p5 => k_is); (case p6 => rfl); (case p7 => rfl); (case p8 => rfl); (case p9 => rfl); (case p10 => rfl); (case p11 => rfl); (case p12 => decide); (case p13 => rfl))
    (case a7 => refine' FF.at_mk ?p1 ?p2 ?p3 ?p4; (case p1 => k_is); (case p2 => k_is); (case p3 => k_is); (case p4 => k_is))
    (case a8 => refine' FF.atC_mk ?p1 ?p2 ?p3 ?p4 ?p5 ?p6 ?p7 ?p8 ?p9 ?p10 ?p11 ?p12 ?p13; (case p1 => k_is); (case p2 => k_is); (case p3 => k_is); (case p4 => k_is); (case p5 => k_is); (case p6 => rfl); (case p7 => rfl); (case p8 => rfl); (case p9 => rfl); (case p10 => rfl); (case p11 => rfl); (case p12 => decide); (case p13 => rfl))
    (case a9 => refine' FF.at_mk ?p1 ?p2 ?p3 ?p4; (case p1 => k_is); (case p2 => k_is); (case p3 => k_is); (case p4 => k_is))
    (case a10 => refine' FF.at_mk ?p1 ?p2 ?p3 ?p4; (case p1 => k_is); (case p2 => k_is); (case p3 => k_is); (case p4 => k_is))
    (case a11 => refine' FF.at_mk ?p1 ?p2 ?p3 ?p4; (case p1 => k_is); (case p2 => k_is); (case p3 => k_is); (case p4 => k_is))
    (case a12 => refine' FF.atC_mk ?p1 ?p2 ?p3 ?p4 ?p5 ?p6 ?p7 ?p8 ?p9 ?p10 ?p11 ?p12 ?p13; (case p1 => k_is); (case p2 => k_is); (case p3 => k_is); (case p4 => k_is); (case p5 => k_is); (case p6 => rfl); (case p7 => rfl); (case p8 => rfl); (case p9 => rfl); (case p10 => rfl); (case p11 => rfl); (case p12 => decide); (case p13 => rfl))
    (case a13 => refine' FF.atC_mk ?p1 ?p2 ?p3 ?p4 ?p5 ?p6 ?p7 ?p8 ?p9 ?p10 ?p11 ?p12 ?p13; (case p1 => k_is); (case p2 => k_is); (case p3 => k_is); (case p4 => k_is); (case p5 => k_is); (case p6 => rfl); (case p7 => rfl); (case p8 => rfl); (case p9 => rfl); (case p10 => rfl); (case p11 => rfl); (case p12 => decide); (case p13 => rfl))
    (case a14 => refine' FF.atC_mk ?p1 ?p2 ?p3 ?p4 ?p5 ?p6 ?p7 ?p8 ?p9 ?p10 ?p11 ?p12 ?p13; (case p1 => k_is); (case p2 => k_is); (case p3 => k_is); (case p4 => k_is); (case p5 => k_is); (case p6 => rfl); (case p7 => rfl); (case p8 => rfl); (case p9 => rfl); (case p10 => rfl); (case p11 => rfl); (case p12 => decide); (case p13 => rfl))
    (case a15 => refine' FF.at_mk ?p1 ?p2 ?p3 ?p4; (case p1 => k_is); (case p2 => k_is); (case p3 => k_is); (case p4 => k_is))
    (case a16 => refine' FF.at_mk ?p1 ?p2 ?p3 ?p4; (case p1 => k_is); (case p2 => k_is); (case p3 => k_is); (case p4 => k_is))
    (case a17 => refine' FF.at_mk ?p1 ?p2 ?p3 ?p4; (case p1 => k_is); (case p2 => k_is); (case p3 => k_is); (case p4 => k_is))
    (case a18 => refine' FF.at_mk ?p1 ?p2 ?p3 ?p4; (case p1 => k_is); (case p2 => k_is); (case p3 => k_is); (case p4 => k_is))
    (case a19 => refine' FF.at_mk ?p1 ?p2 ?p3 ?p4; (case p1 => k_is); (case p2 => k_is); (case p3 => k_is); (case p4 => k_is))
    (case a20 => refine' FF.at_mk ?p1 ?p2 ?p3 ?p4; (case p1 => k_is); (case p2 => k_is); (case p3 => k_is); (case p4 => k_is))
    (case a21 => refine' FF.at_mk ?p1 ?p2 ?p3 ?p4; (case p1 => k_is); (case p2 => k_is); (case p3 => k_is); (case p4 => k_is))
    (case a22 => refine' FF.at_mk ?p1 ?p2 ?p3 ?p4; (case p1 => k_is); (case p2 => k_is); (case p3 => k_is); (case p4 => k_is))
    (case a23 => refine' FF.at_mk ?p1 ?p2 ?p3 ?p4; (case p1 => k_is); (case p2 => k_is); (case p3 => k_is); (case p4 => k_is))
    (case a24 => refine' FF.at_mk ?p1 ?p2 ?p3 ?p4; (case p1 => k_is); (case p2 => k_is); (case p3 => k_is); (case p4 => k_is))
    (case a25 => refine' FF.at_mk ?p1 ?p2 ?p3 ?p4; (case p1 => k_is); (case p2 => k_is); (case p3 => k_is); (case p4 => k_is))
    (case a26 => refine' FF.at_mk ?p1 ?p2 ?p3 ?p4; (case p1 => k_is); (case p2 => k_is); (case p3 => k_is); (case p4 => k_is))
    (case a27 => refine' FF.at_mk ?p1 ?p2 ?p3 ?p4; (case p1 => k_is); (case p2 => k_is); (case p3 => k_is); (case p4 => k_is))
    (case z0 => k_is)
    (case z1 => k_is)
    (case z2 => k_is)
    (case z3 => k_is)
    (case z4 => k_is)
    (case z5 => k_is)
    (case z6 => k_is)
    (case z7 => k_is)
    (case z8 => k_is)
    (case z9 => k_is)
    (case z10 => k_is)
    (case z11 => k_is)
    (case z12 => k_is)
    (case z13 => k_is)
