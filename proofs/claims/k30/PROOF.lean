import PyProof.Rows.All
import Wide.All
import OpenK.AllK
import Wide.FinOn
import HandS.ForMost
import HandS.IsInst
import HandS.TupAny
import HandS.TupLe
import HandS.Wide
import HandS.Style
import HandS.SortInts
import HandS.Conv
import HandS.More
import HandS.EndTab
import HandS.EndOwn
import HandS.AnyAll
import HandS.GenOver
import HandS.Evl
import HandS.Walk
import HandS.NoneIn
import HandS.Zip
import HandS.DictComp
import HandS.SetFor
import KE.GoesEnum
import HandS.TupMul
import HandS.Strs
import KE.DataMinMax
import HandS.ForExc
import HandS.ExcIs
import HandS.SetKeys
import PySem.Challenge.RW_friendfoe_k30_taken_back
set_option Elab.async false
set_option linter.all false
set_option maxRecDepth 100000
namespace FF
open PySem PySem.Spec PyProof.Rows L2
/-! ### heaps: what is kept -/
/-- all that is tracked, but at d and c, is as it was -/
def Kp (d c : Addr) (H H' : Hp) : Prop := ∀ b o, b ≠ d → b ≠ c → H b = some o → H' b = some o
theorem Kp.refl {d c : Addr} {H : Hp} : Kp d c H H := fun _ _ _ _ h => h
theorem Kp.trans {d c : Addr} {H H1 H2 : Hp} (a : Kp d c H H1) (b : Kp d c H1 H2) : Kp d c H H2 := fun x o h1 h2 h => b x o h1 h2 (a x o h1 h2 h)
theorem Kp.at_d {d c : Addr} {H : Hp} {o : HO} : Kp d c H (upd H d o) := fun b u h1 _ h => by rw [upd_ne h1]; exact h
theorem Kp.at_c {d c : Addr} {H : Hp} {o : HO} : Kp d c H (upd H c o) := fun b u _ h2 h => by rw [upd_ne h2]; exact h
theorem Kp.new {d c p : Addr} {H : Hp} {o : HO} (hp : H p = none) : Kp d c H (upd H p o) := fun b u _ _ h => by rw [upd_ne (ne_of_none h hp)]; exact h
theorem same_new {H : Hp} {p : Addr} {o : HO} (h : H p = none) : Same H (upd H p o) := fun b x e => by
  rw [upd_ne (ne_of_none e h)]
  exact e
theorem Same.kp {d c : Addr} {H H' : Hp} (s : Same H H') : Kp d c H H' := fun b o _ _ h => s b o h
/-! ### defs as they are called -/
def Df (P : Program) (w : World) (K : PySem.W.Frag) (mg : Str → Option Value) (base : Heap) (k : Nat) (x : Str) (ps : List Str) (sp : Sp) : Prop :=
  ∃ (f : Addr) (fd : FuncData), FnOk P w K mg base CX0 k f fd ps sp ∧ mg x = some (.ref f) ∧ PySem.W.keepIn K (.ref f) = true ∧ Binds K fd ps []
/-- built-in names that the module has not taken -/
structure Free (mg : Str → Option Value) : Prop where
  len : mg "len" = none
  int : mg "int" = none
  bool : mg "bool" = none
  str : mg "str" = none
  list : mg "list" = none
  tuple : mg "tuple" = none
  range : mg "range" = none
  isinstance : mg "isinstance" = none
  sum : mg "sum" = none
theorem mod_rng {a m : Int} (h : 0 < m) : 0 ≤ a % m ∧ a % m < m := ⟨Int.emod_nonneg a (by omega), Int.emod_lt_of_pos a h⟩
def topS (i : Nat) : Stmt := PySem.Challenge.pw_friendfoe_k30_taken_back.main.body.getD i (.Pass ⟨0, 0, 0, 0⟩)
abbrev s_wall : Stmt := topS 0
abbrev N_wall : List Str := ["k"]
theorem sc_wall : FnScope N_wall ["k"] (defScope s_wall) := ⟨rfl, rfl, rfl, by decide +kernel, rfl, by decide +kernel, by decide +kernel⟩
abbrev s_neighbours : Stmt := topS 10
abbrev N_neighbours : List Str := ["web", "many", "ties", "around", "place", "one", "other", "kind"]
theorem sc_neighbours : FnScope N_neighbours ["web"] (defScope s_neighbours) := ⟨rfl, rfl, rfl, by decide +kernel, rfl, by decide +kernel, by decide +kernel⟩
abbrev s_sides_from : Stmt := topS 11
abbrev N_sides_from : List Str := ["start", "around", "sides", "waiting", "place", "other", "kind"]
theorem sc_sides_from : FnScope N_sides_from ["start", "around"] (defScope s_sides_from) := ⟨rfl, rfl, rfl, by decide +kernel, rfl, by decide +kernel, by decide +kernel⟩
abbrev s_foes_in : Stmt := topS 13
abbrev N_foes_in : List Str := ["web", "ring", "tie"]
theorem sc_foes_in : FnScope N_foes_in ["web", "ring"] (defScope s_foes_in) := ⟨rfl, rfl, rfl, by decide +kernel, rfl, by decide +kernel, by decide +kernel⟩
abbrev s_breaks : Stmt := topS 15
abbrev N_breaks : List Str := ["sides", "tie", "one", "other", "kind"]
theorem sc_breaks : FnScope N_breaks ["sides", "tie"] (defScope s_breaks) := ⟨rfl, rfl, rfl, by decide +kernel, rfl, by decide +kernel, by decide +kernel⟩
abbrev s_broken_by : Stmt := topS 16
abbrev N_broken_by : List Str := ["web", "sides", "number", "tie"]
theorem sc_broken_by : FnScope N_broken_by ["web", "sides"] (defScope s_broken_by) := ⟨rfl, rfl, rfl, by decide +kernel, rfl, by decide +kernel, by decide +kernel⟩
abbrev s_sides_of : Stmt := topS 17
abbrev N_sides_of : List Str := ["web", "around", "told", "start", "sides", "place"]
theorem sc_sides_of : FnScope N_sides_of ["web"] (defScope s_sides_of) := ⟨rfl, rfl, rfl, by decide +kernel, rfl, by decide +kernel, by decide +kernel⟩
abbrev s_ties_around : Stmt := topS 19
abbrev N_ties_around : List Str := ["web", "numbers", "around", "number", "one", "other", "kind"]
theorem sc_ties_around : FnScope N_ties_around ["web", "numbers"] (defScope s_ties_around) := ⟨rfl, rfl, rfl, by decide +kernel, rfl, by decide +kernel, by decide +kernel⟩
abbrev s_walk_from : Stmt := topS 20
abbrev N_walk_from : List Str := ["start", "around", "walk", "reached", "steps", "following", "place", "other", "number"]
theorem sc_walk_from : FnScope N_walk_from ["start", "around"] (defScope s_walk_from) := ⟨rfl, rfl, rfl, by decide +kernel, rfl, by decide +kernel, by decide +kernel⟩
abbrev s_way_to : Stmt := topS 21
abbrev N_way_to : List Str := ["end", "walk", "places", "numbers", "steps", "ahead", "number"]
theorem sc_way_to : FnScope N_way_to ["end", "walk"] (defScope s_way_to) := ⟨rfl, rfl, rfl, by decide +kernel, rfl, by decide +kernel, by decide +kernel⟩
abbrev s_Stand_init : Stmt := inClass (topS 23) 0
abbrev N_Stand_init : List Str := ["self", "many"]
theorem sc_Stand_init : FnScope N_Stand_init ["self", "many"] (defScope s_Stand_init) := ⟨rfl, rfl, rfl, by decide +kernel, rfl, by decide +kernel, by decide +kernel⟩
abbrev s_Stand_come : Stmt := inClass (topS 23) 1
abbrev N_Stand_come : List Str := ["self", "one", "other", "kind", "number", "walk", "places", "ties", "ring"]
theorem sc_Stand_come : FnScope N_Stand_come ["self", "one", "other", "kind"] (defScope s_Stand_come) := ⟨rfl, rfl, rfl, by decide +kernel, rfl, by decide +kernel, by decide +kernel⟩
abbrev s_Stand_back : Stmt := inClass (topS 23) 2
abbrev N_Stand_back : List Str := ["self"]
theorem sc_Stand_back : FnScope N_Stand_back ["self"] (defScope s_Stand_back) := ⟨rfl, rfl, rfl, by decide +kernel, rfl, by decide +kernel, by decide +kernel⟩
abbrev s_Stand_turn : Stmt := inClass (topS 23) 3
abbrev N_Stand_turn : List Str := ["self", "places"]
theorem sc_Stand_turn : FnScope N_Stand_turn ["self", "places"] (defScope s_Stand_turn) := ⟨rfl, rfl, rfl, by decide +kernel, rfl, by decide +kernel, by decide +kernel⟩
abbrev s_Stand_web : Stmt := inClass (topS 23) 4
abbrev N_Stand_web : List Str := ["self"]
theorem sc_Stand_web : FnScope N_Stand_web ["self"] (defScope s_Stand_web) := ⟨rfl, rfl, rfl, by decide +kernel, rfl, by decide +kernel, by decide +kernel⟩
abbrev s_Stand_kept_web : Stmt := inClass (topS 23) 5
abbrev N_Stand_kept_web : List Str := ["self", "number"]
theorem sc_Stand_kept_web : FnScope N_Stand_kept_web ["self"] (defScope s_Stand_kept_web) := ⟨rfl, rfl, rfl, by decide +kernel, rfl, by decide +kernel, by decide +kernel⟩
abbrev s_Stand_sides : Stmt := inClass (topS 23) 6
abbrev N_Stand_sides : List Str := ["self"]
theorem sc_Stand_sides : FnScope N_Stand_sides ["self"] (defScope s_Stand_sides) := ⟨rfl, rfl, rfl, by decide +kernel, rfl, by decide +kernel, by decide +kernel⟩
abbrev s_Stand_between : Stmt := inClass (topS 23) 7
abbrev N_Stand_between : List Str := ["self", "one", "other", "sides"]
theorem sc_Stand_between : FnScope N_Stand_between ["self", "one", "other"] (defScope s_Stand_between) := ⟨rfl, rfl, rfl, by decide +kernel, rfl, by decide +kernel, by decide +kernel⟩
abbrev s_Stand_broken : Stmt := inClass (topS 23) 8
abbrev N_Stand_broken : List Str := ["self"]
theorem sc_Stand_broken : FnScope N_Stand_broken ["self"] (defScope s_Stand_broken) := ⟨rfl, rfl, rfl, by decide +kernel, rfl, by decide +kernel, by decide +kernel⟩
abbrev s_l_cell_at : Stmt := topS 25
abbrev N_l_cell_at : List Str := ["_law_script", "_law_k"]
theorem sc_l_cell_at : FnScope N_l_cell_at ["_law_script", "_law_k"] (defScope s_l_cell_at) := ⟨rfl, rfl, rfl, by decide +kernel, rfl, by decide +kernel, by decide +kernel⟩
abbrev s_l_draw : Stmt := topS 26
abbrev N_l_draw : List Str := ["_law_well", "_law_many", "_law_digit", "_law_number"]
theorem sc_l_draw : FnScope N_l_draw ["_law_well", "_law_many"] (defScope s_l_draw) := ⟨rfl, rfl, rfl, by decide +kernel, rfl, by decide +kernel, by decide +kernel⟩
abbrev s_l_size : Stmt := topS 27
abbrev N_l_size : List Str := ["_law_script", "_law_well", "_law_great", "_law_many", "_law_deeds"]
theorem sc_l_size : FnScope N_l_size ["_law_script"] (defScope s_l_size) := ⟨rfl, rfl, rfl, by decide +kernel, rfl, by decide +kernel, by decide +kernel⟩
abbrev s_l_deed : Stmt := topS 28
abbrev N_l_deed : List Str := ["_law_script", "_law_k", "_law_many", "_law_ties", "_law_goes_round", "_law_well", "_law_way", "_law_kind", "_law_one", "_law_other"]
theorem sc_l_deed : FnScope N_l_deed ["_law_script", "_law_k", "_law_many", "_law_ties", "_law_goes_round"] (defScope s_l_deed) := ⟨rfl, rfl, rfl, by decide +kernel, rfl, by decide +kernel, by decide +kernel⟩
abbrev s_l_state : Stmt := topS 29
abbrev N_l_state : List Str := ["_law_stand", "_law_many", "_law_k", "_law_some", "_law_j", "_law_rows", "_law_one", "_law_other"]
theorem sc_l_state : FnScope N_l_state ["_law_stand", "_law_many", "_law_k"] (defScope s_l_state) := ⟨rfl, rfl, rfl, by decide +kernel, rfl, by decide +kernel, by decide +kernel⟩
abbrev s_l_is_refused : Stmt := topS 30
abbrev N_l_is_refused : List Str := ["_law_stand", "_law_told", "e"]
theorem sc_l_is_refused : FnScope N_l_is_refused ["_law_stand"] (defScope s_l_is_refused) := ⟨rfl, rfl, rfl, by decide +kernel, rfl, by decide +kernel, by decide +kernel⟩
abbrev s_l_empty_right : Stmt := topS 31
abbrev N_l_empty_right : List Str := ["_law_stand", "_law_many", "_law_due", "_law_turn"]
theorem sc_l_empty_right : FnScope N_l_empty_right ["_law_stand", "_law_many"] (defScope s_l_empty_right) := ⟨rfl, rfl, rfl, by decide +kernel, rfl, by decide +kernel, by decide +kernel⟩
abbrev s_l_again_right : Stmt := topS 32
abbrev N_l_again_right : List Str := ["_law_stand", "_law_many", "_law_ahead", "_law_k", "_law_now", "_law_tie", "_law_told"]
theorem sc_l_again_right : FnScope N_l_again_right ["_law_stand", "_law_many", "_law_ahead"] (defScope s_l_again_right) := ⟨rfl, rfl, rfl, by decide +kernel, rfl, by decide +kernel, by decide +kernel⟩
abbrev s_law : Stmt := topS 33
abbrev N_law : List Str := ["_law_script", "_law_many", "_law_deeds", "_law_goes_round", "_law_stand", "_law_ahead", "_law_ties", "_law_k", "_law_tie"]
theorem sc_law : FnScope N_law ["_law_script"] (defScope s_law) := ⟨rfl, rfl, rfl, by decide +kernel, rfl, by decide +kernel, by decide +kernel⟩
/-! ### own rules: a list against [] -/
section
variable {X : Cx}
def rEqE (K : PySem.W.Frag) : R2 := fun x y H Q => ∃ (a b : Addr) (xs : List V), x = .ref a ∧ y = .ref b ∧ SqL K H a xs ∧ SqL K H b [] ∧ Q (.bl xs.isEmpty) H
def rNeE (K : PySem.W.Frag) : R2 := fun x y H Q => ∃ (a b : Addr) (xs : List V), x = .ref a ∧ y = .ref b ∧ SqL K H a xs ∧ SqL K H b [] ∧ Q (.bl (!xs.isEmpty)) H
theorem op_eqE (hu : X.A.units < cLine) : OpR X (compareOp .Eq) (rEqE X.K) := by
  intro pins s σ H x y v u Q I rx ry h
  obtain ⟨a, b, xs, rfl, rfl, ha, hb, q⟩ := h
  obtain rfl : v = Value.ref a := rx
  obtain rfl : u = Value.ref b := ry
  obtain ⟨its, r1, p1, _⟩ := I.list ha
  obtain ⟨its2, r2, p2, _⟩ := I.list hb
  cases r2
  cases xs with
  | nil =>
    cases r1
    exact SeqAt.eq_listAt (e := fun _ => true) p1.isList p2.isList rfl hu (fun j h1 _ => absurd h1 (by simp)) ⟨.bl true, H, I, rfl, q⟩
  | cons z zs =>
    cases r1 with
    | cons r t => exact SeqAt.eq_list_lengthsAt p1.isList p2.isList (by simp) hu ⟨.bl false, H, I, rfl, q⟩
theorem op_neE (hu : X.A.units < cLine) : OpR X (compareOp .NotEq) (rNeE X.K) := by
  intro pins s σ H x y v u Q I rx ry h
  obtain ⟨a, b, xs, rfl, rfl, ha, hb, q⟩ := h
  obtain rfl : v = Value.ref a := rx
  obtain rfl : u = Value.ref b := ry
  obtain ⟨its, r1, p1, _⟩ := I.list ha
  obtain ⟨its2, r2, p2, _⟩ := I.list hb
  cases r2
  cases xs with
  | nil =>
    cases r1
    exact SeqAt.RcNeAt.lists (e := fun _ => true) p1.isList p2.isList rfl hu (fun j h1 _ => absurd h1 (by simp)) _ _ _ _ ⟨.bl false, H, I, rfl, q⟩
  | cons z zs =>
    cases r1 with
    | cons r t => exact SeqAt.RcNeAt.lists_lengths p1.isList p2.isList (by simp) hu _ _ _ _ ⟨.bl true, H, I, rfl, q⟩
end
section
variable {P : Program} {w : World} {K : PySem.W.Frag} {mg : Str → Option Value} {base : Heap}
/-! ### webs -/
structure Tie where
  one : Int
  other : Int
  foe : Bool
def kindS : Bool → Str
  | true => "foe"
  | false => "friend"
def TieV (H : Hp) (v : V) (t : Tie) : Prop := ∃ a, v = .ref a ∧ H a = some (.tup [.int t.one, .int t.other, .str (kindS t.foe)])
def TieOk (n : Int) (t : Tie) : Prop := 0 ≤ t.one ∧ t.one < n ∧ 0 ≤ t.other ∧ t.other < n ∧ t.one ≠ t.other
def WebAt (H : Hp) (v : V) (n : Int) (ts : List Tie) : Prop := ∃ a b vs, v = .ref a ∧ H a = some (.tup [.int n, .ref b]) ∧ H b = some (.tup vs) ∧ Paired (TieV H) vs ts
structure WebOk (n : Int) (ts : List Tie) : Prop where
  lo : 1 ≤ n
  hi : n ≤ 40
  few : ts.length ≤ 120
  ok : ∀ t ∈ ts, TieOk n t
/-- tuples stay -/
def Tk (H H' : Hp) : Prop := ∀ b xs, H b = some (.tup xs) → H' b = some (.tup xs)
theorem Tk.trans {H H1 H2 : Hp} (a : Tk H H1) (b : Tk H1 H2) : Tk H H2 := fun x xs h => b x xs (a x xs h)
theorem Same.tk {H H' : Hp} (s : Same H H') : Tk H H' := fun b xs h => s b _ h
theorem tk_lst {H : Hp} {l : Addr} {xs ys : List V} (h : H l = some (.lst xs)) : Tk H (upd H l (.lst ys)) := fun b zs e => by
  rw [upd_ne (ne_of e h (by intro z; cases z))]
  exact e
theorem TieV.tk {H H' : Hp} (k : Tk H H') {v : V} {t : Tie} (h : TieV H v t) : TieV H' v t := by
  obtain ⟨a, rfl, e⟩ := h
  exact ⟨a, rfl, k _ _ e⟩
theorem ties_tk {H H' : Hp} (k : Tk H H') {vs : List V} {ts : List Tie} (h : Paired (TieV H) vs ts) : Paired (TieV H') vs ts := Paired.mono (fun _ _ x => x.tk k) h
theorem WebAt.tk {H H' : Hp} (k : Tk H H') {v : V} {n : Int} {ts : List Tie} (h : WebAt H v n ts) : WebAt H' v n ts := by
  obtain ⟨a, b, vs, rfl, h1, h2, h3⟩ := h
  exact ⟨a, b, vs, rfl, k _ _ h1, k _ _ h2, ties_tk k h3⟩
theorem Kp.mut {d c l : Addr} {H H' : Hp} {o : HO} (k : Kp d c H H') (h : H l = none) : Kp d c H (upd H' l o) := fun b u h1 h2 e => by
  rw [upd_ne (ne_of_none e h)]
  exact k b u h1 h2 e
theorem Paired.at {α β : Type} {F : α → β → Prop} : ∀ {l : List α} {m : List β} {i : Nat} {a : α}, Paired F l m → l[i]? = some a → ∃ b, m[i]? = some b ∧ F a b
  | _, _, _, _, .nil, e => by simp at e
  | _, _, 0, _, .cons r _, e => by simp at e; subst e; exact ⟨_, rfl, r⟩
  | _, _, i + 1, a, .cons _ t, e => by
    obtain ⟨u, h1, h2⟩ := Paired.at (i := i) (a := a) t (by simpa using e)
    exact ⟨u, by simpa using h1, h2⟩
theorem Paired.at' {α β : Type} {F : α → β → Prop} : ∀ {l : List α} {m : List β} {i : Nat} {b : β}, Paired F l m → m[i]? = some b → ∃ a, l[i]? = some a ∧ F a b
  | _, _, _, _, .nil, e => by simp at e
  | _, _, 0, _, .cons r _, e => by simp at e; subst e; exact ⟨_, rfl, r⟩
  | _, _, i + 1, b, .cons _ t, e => by
    obtain ⟨u, h1, h2⟩ := Paired.at' (i := i) (b := b) t (by simpa using e)
    exact ⟨u, by simpa using h1, h2⟩
theorem getI {α : Type} {xs : List α} {i : Int} (h0 : 0 ≤ i) (h1 : i < (xs.length : Int)) : ∃ v, atI xs i = some v ∧ xs[i.toNat]? = some v := by
  obtain ⟨j, rfl⟩ : ∃ j : Nat, i = (j : Int) := ⟨i.toNat, by omega⟩
  have h2 : j < xs.length := by omega
  exact ⟨xs[j], atI_nat (List.getElem?_eq_getElem h2), by rw [Int.toNat_natCast]; exact List.getElem?_eq_getElem h2⟩
theorem other_ne {n a b : Int} (h0 : 0 ≤ a) (h1 : a < n) (g0 : 0 ≤ b) (g1 : b < n - 1) : a ≠ (a + 1 + b) % n := by
  by_cases h : a + 1 + b < n
  · rw [Int.emod_eq_of_lt (by omega) h]
    omega
  · have e : a + 1 + b = (a + 1 + b - n) + 1 * n := by omega
    rw [e, Int.add_mul_emod_self_right, Int.emod_eq_of_lt (by omega) (by omega)]
    omega
theorem pick2 {α : Type} (a b : α) (k : Bool) : atI [a, b] (if k then 1 else 0) = some (if k then b else a) := by
  cases k <;> rfl
theorem Kp.free {d c l : Addr} {H H' : Hp} (k : Kp d c H H') (h : H' l = none) (h1 : l ≠ d) (h2 : l ≠ c) : H l = none := by
  cases e : H l with
  | none => rfl
  | some o =>
    rw [k l o h1 h2 e] at h
    cases h
theorem atI_of {xs : List V} {i : Int} {v : V} (h0 : 0 ≤ i) (e : xs[i.toNat]? = some v) : atI xs i = some v := by
  obtain ⟨j, rfl⟩ : ∃ j : Nat, i = (j : Int) := ⟨i.toNat, by omega⟩
  exact atI_nat (by rw [Int.toNat_natCast] at e; exact e)
theorem atI_ints {xs : List Int} {i : Int} (h0 : 0 ≤ i) (h1 : i < xs.length) : ∃ x ∈ xs, xs[i.toNat]? = some x ∧ atI (xs.map V.int) i = some (.int x) := by
  have h : i.toNat < xs.length := by omega
  exact ⟨xs[i.toNat], List.getElem_mem h, List.getElem?_eq_getElem h, atI_of h0 (by rw [List.getElem?_map, List.getElem?_eq_getElem h]; rfl)⟩
end
/-! ### tuples cut and put together -/
section
variable {X : Cx}
theorem cutV_whole {xs : List V} {lo hi : Option Int} (h : HT.sIx xs.length 0 lo = 0 ∧ HT.sIx xs.length xs.length hi = xs.length) : cutV xs lo hi = xs := by
  unfold cutV
  rw [h.1, h.2]
  simp
def rSlU : V → Option Int → Option Int → Hp → VK → Prop := fun x lo hi H Q => ∃ a xs, x = .ref a ∧ H a = some (.tup xs) ∧ ∀ r H', Same H H' → H' r = some (.tup (cutV xs lo hi)) → Q (.ref r) H'
theorem sl_tupU : SlR X rSlU := by
  intro pins s σ H x v vl vu lo hi sl Q I rx hs pl pu h
  obtain ⟨a, xs, rfl, hx, q⟩ := h
  refine sl_tupA pins s σ H _ v vl vu lo hi sl Q I rx hs pl pu ⟨a, xs, rfl, SqT.of hx, fun hw => ?_, fun _ p np => ?_⟩
  · exact q a H (Same.refl H) (by rw [cutV_whole hw]; exact hx)
  · exact q p _ (same_new np) upd_same
def rCatU : R2 := fun x y H Q => ∃ a b xs ys, x = .ref a ∧ y = .ref b ∧ H a = some (.tup xs) ∧ H b = some (.tup ys) ∧ xs.length + ys.length ≤ 100000 ∧ ∀ r H', Same H H' → H' r = some (.tup (xs ++ ys)) → Q (.ref r) H'
theorem op_catU : OpR X (binaryOp .Add) rCatU := by
  intro pins s σ H x y v u Q I rx ry h
  obtain ⟨a, b, xs, ys, rfl, rfl, ha, hb, hz, q⟩ := h
  refine op_catA pins s σ H _ _ v u Q I rx ry ⟨a, b, xs, ys, rfl, rfl, SqT.of ha, SqT.of hb, Evl.sz_of hz, fun e => ?_, fun _ e => ?_, fun _ _ p np => ?_⟩
  · subst e
    exact q b H (Same.refl H) hb
  · subst e
    exact q a H (Same.refl H) (by rw [List.append_nil]; exact ha)
  · exact q p _ (same_new np) upd_same
end
/-! ### things of any kind -/
/-- its kind is known -/
def Kn (H : Hp) : V → Prop
  | .non => True
  | .bl _ => True
  | .int _ => True
  | .str _ => True
  | .ref a => (∃ xs, H a = some (.lst xs)) ∨ (∃ xs, H a = some (.tup xs)) ∨ ∃ kvs, H a = some (.dK kvs)
  | _ => False
def isI : V → Bool
  | .int _ => true
  | .bl _ => true
  | _ => false
def isB : V → Bool
  | .bl _ => true
  | _ => false
def isW : V → Bool
  | .int _ => true
  | _ => false
def isT (H : Hp) : V → Bool
  | .ref a => match H a with
    | some (.tup _) => true
    | _ => false
  | _ => false
section
variable {K : PySem.W.Frag} {H : Hp}
theorem kn_int {v : V} (h : Kn H v) : ∃ t, TyX K H v t ∧ PySem.W.kitOne K t (.type "int") = some (isI v) := by
  cases v with
  | non => exact ⟨_, .base .non, kit_ty (r := false) (by decide +kernel)⟩
  | bl b => exact ⟨_, .base (.bl b), kit_ty (r := true) (by decide +kernel)⟩
  | int i => exact ⟨_, .base (.int i), kit_ty (r := true) (by decide +kernel)⟩
  | str x => exact ⟨_, .base (.str x), kit_ty (r := false) (by decide +kernel)⟩
  | ref a =>
    rcases h with ⟨xs, h⟩ | ⟨xs, h⟩ | ⟨xs, h⟩
    · exact ⟨_, .base (.lst h), kit_ty (r := false) (by decide +kernel)⟩
    · exact ⟨_, .base (.tup h), kit_ty (r := false) (by decide +kernel)⟩
    · exact ⟨_, .base (.dK h), kit_ty (r := false) (by decide +kernel)⟩
  | byt b => exact h.elim
  | flt b => exact h.elim
  | ty n => exact h.elim
theorem kn_bool {v : V} (h : Kn H v) : ∃ t, TyX K H v t ∧ PySem.W.kitOne K t (.type "bool") = some (isB v) := by
  cases v with
  | non => exact ⟨_, .base .non, kit_ty (r := false) (by decide +kernel)⟩
  | bl b => exact ⟨_, .base (.bl b), kit_ty (r := true) (by decide +kernel)⟩
  | int i => exact ⟨_, .base (.int i), kit_ty (r := false) (by decide +kernel)⟩
  | str x => exact ⟨_, .base (.str x), kit_ty (r := false) (by decide +kernel)⟩
  | ref a =>
    rcases h with ⟨xs, h⟩ | ⟨xs, h⟩ | ⟨xs, h⟩
    · exact ⟨_, .base (.lst h), kit_ty (r := false) (by decide +kernel)⟩
    · exact ⟨_, .base (.tup h), kit_ty (r := false) (by decide +kernel)⟩
    · exact ⟨_, .base (.dK h), kit_ty (r := false) (by decide +kernel)⟩
  | byt b => exact h.elim
  | flt b => exact h.elim
  | ty n => exact h.elim
theorem kn_tup {v : V} (h : Kn H v) : ∃ t, TyX K H v t ∧ PySem.W.kitOne K t (.type "tuple") = some (isT H v) := by
  cases v with
  | non => exact ⟨_, .base .non, kit_ty (r := false) (by decide +kernel)⟩
  | bl b => exact ⟨_, .base (.bl b), kit_ty (r := false) (by decide +kernel)⟩
  | int i => exact ⟨_, .base (.int i), kit_ty (r := false) (by decide +kernel)⟩
  | str x => exact ⟨_, .base (.str x), kit_ty (r := false) (by decide +kernel)⟩
  | ref a =>
    unfold isT
    rcases h with ⟨xs, h⟩ | ⟨xs, h⟩ | ⟨xs, h⟩
    · exact ⟨_, .base (.lst h), by simp only [h]; exact kit_ty (r := false) (by decide +kernel)⟩
    · exact ⟨_, .base (.tup h), by simp only [h]; exact kit_ty (r := true) (by decide +kernel)⟩
    · exact ⟨_, .base (.dK h), by simp only [h]; exact kit_ty (r := false) (by decide +kernel)⟩
  | byt b => exact h.elim
  | flt b => exact h.elim
  | ty n => exact h.elim
theorem isT_at {v : V} (h : isT H v = true) : ∃ a xs, v = .ref a ∧ H a = some (.tup xs) := by
  cases v with
  | ref a =>
    unfold isT at h
    cases e : H a with
    | none => simp only [e] at h; cases h
    | some o =>
      cases o with
      | tup xs => exact ⟨a, xs, rfl, e⟩
      | _ => simp only [e] at h; cases h
  | _ => cases h
theorem isT_of {a : Addr} {xs : List V} (h : H a = some (.tup xs)) : isT H (.ref a) = true := by
  unfold isT
  simp only [h]
end
section
variable {P : Program} {w : World} {K : PySem.W.Frag} {mg : Str → Option Value} {base : Heap}
def spWhole : Sp := fun vs H Q _ => ∃ v, vs = [v] ∧ Kn H v ∧ Q (.bl (isW v)) H
theorem and_whole {v : V} : (isI v && !isB v) = isW v := by cases v <;> rfl
end
/-! ### ties, walks, parts: the mathematics -/
def Adj (ts : List Tie) (a b : Int) (foe : Bool) : Prop := ∃ t ∈ ts, t.foe = foe ∧ ((t.one = a ∧ t.other = b) ∨ (t.one = b ∧ t.other = a))
theorem Adj.symm {ts : List Tie} {a b : Int} {k : Bool} (h : Adj ts a b k) : Adj ts b a k := by
  obtain ⟨t, ht, e, h⟩ := h
  exact ⟨t, ht, e, h.symm⟩
/-- a walk with so many foes, even or odd -/
inductive RP (ts : List Tie) (a : Int) : Int → Bool → Prop
  | nil : RP ts a a false
  | step {b c : Int} {p k : Bool} : RP ts a b p → Adj ts b c k → RP ts a c (p ^^ k)
def Rch (ts : List Tie) (a b : Int) : Prop := ∃ p, RP ts a b p
theorem RP.trans {ts : List Tie} {a b c : Int} {p q : Bool} (h : RP ts a b p) (g : RP ts b c q) : RP ts a c (p ^^ q) := by
  induction g with
  | nil =>
    rw [Bool.xor_false]
    exact h
  | step _ k ih =>
    rw [← Bool.xor_assoc]
    exact ih.step k
theorem RP.one {ts : List Tie} {a b : Int} {k : Bool} (h : Adj ts a b k) : RP ts a b k := by
  have q := RP.nil.step h
  rw [Bool.false_xor] at q
  exact q
theorem RP.symm {ts : List Tie} {a b : Int} {p : Bool} (h : RP ts a b p) : RP ts b a p := by
  induction h with
  | nil => exact .nil
  | step _ k ih =>
    have q := (RP.one k.symm).trans ih
    rw [Bool.xor_comm] at q
    exact q
theorem Rch.refl {ts : List Tie} {a : Int} : Rch ts a a := ⟨_, .nil⟩
theorem Rch.symm {ts : List Tie} {a b : Int} (h : Rch ts a b) : Rch ts b a := by
  obtain ⟨p, h⟩ := h
  exact ⟨p, h.symm⟩
theorem Rch.trans {ts : List Tie} {a b c : Int} (h : Rch ts a b) (g : Rch ts b c) : Rch ts a c := by
  obtain ⟨p, h⟩ := h
  obtain ⟨q, g⟩ := g
  exact ⟨_, h.trans g⟩
theorem Rch.adj {ts : List Tie} {a b : Int} {k : Bool} (h : Adj ts a b k) : Rch ts a b := ⟨_, RP.one h⟩
theorem Rch.ind {ts : List Tie} {a b : Int} (C : Int → Prop) (h : Rch ts a b) (h0 : C a) (hs : ∀ x y k, C x → Adj ts x y k → C y) : C b := by
  obtain ⟨p, h⟩ := h
  induction h with
  | nil => exact h0
  | step _ k ih => exact hs _ _ _ ih k
theorem Adj.rng {ts : List Tie} {n a b : Int} {k : Bool} (ok : ∀ t ∈ ts, TieOk n t) (h : Adj ts a b k) : 0 ≤ b ∧ b < n := by
  obtain ⟨t, ht, _, h⟩ := h
  obtain ⟨h1, h2, h3, h4, _⟩ := ok t ht
  rcases h with ⟨e1, e2⟩ | ⟨e1, e2⟩
  · omega
  · omega
theorem Rch.rng {ts : List Tie} {n a b : Int} (ok : ∀ t ∈ ts, TieOk n t) (ha : 0 ≤ a ∧ a < n) (h : Rch ts a b) : 0 ≤ b ∧ b < n := h.ind (fun x => 0 ≤ x ∧ x < n) ha fun _ _ _ _ k => k.rng ok
def leader (ts : List Tie) (s : Int) : Prop := ∀ q, Rch ts s q → s ≤ q
/-- rising lists of the same numbers are one -/
theorem rising_ext : ∀ {xs ys : List Int}, xs.Pairwise (· < ·) → ys.Pairwise (· < ·) → (∀ z, z ∈ xs ↔ z ∈ ys) → xs = ys
  | [], [], _, _, _ => rfl
  | [], y :: ys, _, _, h => by have := (h y).mpr (by simp); simp at this
  | x :: xs, [], _, _, h => by have := (h x).mp (by simp); simp at this
  | x :: xs, y :: ys, hx, hy, h => by
    rw [List.pairwise_cons] at hx hy
    have e : x = y := by
      have h1 := (h x).mp (by simp)
      have h2 := (h y).mpr (by simp)
      rcases List.mem_cons.mp h1 with e | e
      · exact e
      · rcases List.mem_cons.mp h2 with e' | e'
        · exact e'.symm
        · have := hx.1 y e'
          have := hy.1 x e
          omega
    subst e
    rw [rising_ext hx.2 hy.2 fun z => ?_]
    constructor
    · intro hz
      rcases List.mem_cons.mp ((h z).mp (List.mem_cons_of_mem _ hz)) with e | e
      · have := hx.1 z hz
        omega
      · exact e
    · intro hz
      rcases List.mem_cons.mp ((h z).mpr (List.mem_cons_of_mem _ hz)) with e | e
      · have := hy.1 z hz
        omega
      · exact e
/-- 0, 1, .., n - 1 -/
def rng (n : Nat) : List Int := (List.range n).map fun (i : Nat) => (i : Int)
theorem mem_rng {n : Nat} {z : Int} : z ∈ rng n ↔ 0 ≤ z ∧ z < n := by
  unfold rng
  rw [List.mem_map]
  constructor
  · rintro ⟨i, hi, rfl⟩
    have := List.mem_range.mp hi
    omega
  · rintro ⟨h1, h2⟩
    exact ⟨z.toNat, List.mem_range.mpr (by omega), by omega⟩
theorem rng_rising (n : Nat) : (rng n).Pairwise (· < ·) := by
  unfold rng
  rw [List.pairwise_map]
  exact List.pairwise_lt_range.imp (by intro a b h; omega)
theorem rng_succ (n : Nat) : rng (n + 1) = rng n ++ [(n : Int)] := by
  unfold rng
  rw [List.range_succ, List.map_append]
  rfl
theorem rng_length (n : Nat) : (rng n).length = n := by
  unfold rng
  rw [List.length_map, List.length_range]
open Classical in
/-- the part of s -/
noncomputable def partOf (ts : List Tie) (n : Nat) (s : Int) : List Int := (rng n).filter fun p => decide (Rch ts s p)
open Classical in
/-- the parts by their first places, below i -/
noncomputable def partsTo (ts : List Tie) (n i : Nat) : List (List Int) := ((rng i).filter fun s => decide (leader ts s)).map (partOf ts n)
open Classical in
theorem partsTo_succ (ts : List Tie) (n i : Nat) : partsTo ts n (i + 1) = partsTo ts n i ++ (if leader ts i then [partOf ts n i] else []) := by
  unfold partsTo
  rw [rng_succ, List.filter_append, List.map_append]
  congr 1
  by_cases h : leader ts (i : Int)
  · rw [if_pos h, List.filter_cons, if_pos (decide_eq_true h)]
    rfl
  · rw [if_neg h, List.filter_cons, if_neg (by simpa using h)]
    rfl
theorem part_rising (ts : List Tie) (n : Nat) (s : Int) : (partOf ts n s).Pairwise (· < ·) := (rng_rising n).filter _
theorem mem_part {ts : List Tie} {n : Nat} {s z : Int} : z ∈ partOf ts n s ↔ (0 ≤ z ∧ z < n) ∧ Rch ts s z := by
  unfold partOf
  rw [List.mem_filter, mem_rng]
  simp
/-! ### the least place that each comes to, gone over again and again -/
def relax (f : Int → Int) (t : Tie) : Int → Int := fun x => if x = t.one ∨ x = t.other then min (f t.one) (f t.other) else f x
def rounds (ts : List Tie) : Nat → Int → Int
  | 0 => fun x => x
  | r + 1 => ts.foldl relax (rounds ts r)
theorem relax_le (f : Int → Int) (t : Tie) (x : Int) : relax f t x ≤ f x := by
  unfold relax
  split
  · rename_i h
    rcases h with rfl | rfl <;> omega
  · exact Int.le_refl _
theorem fold_le : ∀ (l : List Tie) (f : Int → Int) (x : Int), l.foldl relax f x ≤ f x
  | [], _, _ => Int.le_refl _
  | t :: l, f, x => Int.le_trans (fold_le l (relax f t) x) (relax_le f t x)
theorem fold_tie : ∀ (l : List Tie) (f : Int → Int) (t : Tie), t ∈ l → l.foldl relax f t.one ≤ min (f t.one) (f t.other) ∧ l.foldl relax f t.other ≤ min (f t.one) (f t.other)
  | t' :: l, f, t, h => by
    rcases List.mem_cons.mp h with e | e
    · subst e
      have h1 := fold_le l (relax f t) t.one
      have h2 := fold_le l (relax f t) t.other
      have e1 : relax f t t.one = min (f t.one) (f t.other) := by unfold relax; rw [if_pos (.inl rfl)]
      have e2 : relax f t t.other = min (f t.one) (f t.other) := by unfold relax; rw [if_pos (.inr rfl)]
      rw [e1] at h1
      rw [e2] at h2
      exact ⟨h1, h2⟩
    · have ih := fold_tie l (relax f t') t e
      have h1 := relax_le f t' t.one
      have h2 := relax_le f t' t.other
      exact ⟨Int.le_trans ih.1 (by omega), Int.le_trans ih.2 (by omega)⟩
theorem fold_rch {ts : List Tie} : ∀ (l : List Tie) (f : Int → Int), (∀ t ∈ l, t ∈ ts) → (∀ x, Rch ts x (f x)) → ∀ x, Rch ts x (l.foldl relax f x)
  | [], _, _, h => h
  | t :: l, f, hl, h => fold_rch l (relax f t) (fun t' ht => hl t' (List.mem_cons_of_mem _ ht)) fun x => by
    have ad : Rch ts t.one t.other := Rch.adj (k := t.foe) ⟨t, hl t (by simp), rfl, .inl ⟨rfl, rfl⟩⟩
    unfold relax
    split
    · rename_i hx
      have key : Rch ts x t.one ∧ Rch ts x t.other := by
        rcases hx with e | e <;> subst e
        · exact ⟨Rch.refl, ad⟩
        · exact ⟨ad.symm, Rch.refl⟩
      rcases Int.le_total (f t.one) (f t.other) with q | q
      · rw [Int.min_eq_left q]
        exact key.1.trans (h _)
      · rw [Int.min_eq_right q]
        exact key.2.trans (h _)
    · exact h x
theorem rounds_rch (ts : List Tie) : ∀ (r : Nat) (x : Int), Rch ts x (rounds ts r x)
  | 0, _ => Rch.refl
  | r + 1, x => fold_rch ts _ (fun _ h => h) (rounds_rch ts r) x
theorem filter_lt {p q : Int → Bool} : ∀ {l : List Int}, (∀ x ∈ l, q x = true → p x = true) → (∃ x ∈ l, p x = true ∧ q x = false) → (l.filter q).length < (l.filter p).length
  | [], _, ⟨x, hx, _⟩ => by simp at hx
  | y :: l, hi, ⟨x, hx, hp, hq⟩ => by
    have mono : (l.filter q).length ≤ (l.filter p).length := by
      have hi' : ∀ x ∈ l, q x = true → p x = true := fun x h => hi x (List.mem_cons_of_mem _ h)
      clear hi hx hp hq
      induction l with
      | nil => exact Nat.le_refl _
      | cons z l ih =>
        have ih := ih fun x h => hi' x (List.mem_cons_of_mem _ h)
        rw [List.filter_cons, List.filter_cons]
        have hz := hi' z (by simp)
        cases h1 : q z <;> cases h2 : p z <;> simp_all <;> omega
    rw [List.filter_cons, List.filter_cons]
    rcases List.mem_cons.mp hx with e | e
    · subst e
      rw [hq, hp]
      simp
      omega
    · have ih := filter_lt (l := l) (fun x h => hi x (List.mem_cons_of_mem _ h)) ⟨x, e, hp, hq⟩
      have hy := hi y (by simp)
      cases h1 : q y <;> cases h2 : p y <;> simp_all <;> omega
open Classical in
/-- behind as many rounds as there are places each has its part's least place -/
theorem rounds_least {ts : List Tie} {n : Nat} (ok : ∀ t ∈ ts, TieOk n t) {m p : Int} (hm : leader ts m) (h0 : 0 ≤ m ∧ m < n) (hp : Rch ts m p) : rounds ts n p = m := by
  have ge : ∀ r x, Rch ts m x → m ≤ rounds ts r x := fun r x hx => hm _ (hx.trans (rounds_rch ts r x))
  have mono : ∀ r x, rounds ts (r + 1) x ≤ rounds ts r x := fun r x => fold_le ts _ x
  have atm : ∀ r, rounds ts r m = m := fun r => by
    have h1 := ge r m Rch.refl
    have h2 : rounds ts r m ≤ m := by
      induction r with
      | zero => exact Int.le_refl _
      | succ r ih => exact Int.le_trans (mono r m) (ih (ge r m Rch.refl))
    omega
  have cnt : ∀ r, ((rng n).filter fun x => decide (Rch ts m x ∧ rounds ts r x ≠ m)).length ≤ n - r := fun r => by
    induction r with
    | zero =>
      refine Nat.le_trans (List.length_filter_le _ _) ?_
      rw [rng_length]
      omega
    | succ r ih =>
      by_cases hex : ∃ x, Rch ts m x ∧ rounds ts r x ≠ m
      · obtain ⟨x, hx, hne⟩ := hex
        -- an edge over which it comes
        have edge : ∃ a b k, Rch ts m a ∧ rounds ts r a = m ∧ Adj ts a b k ∧ rounds ts r b ≠ m := by
          by_cases hn : ∃ a b k, Rch ts m a ∧ rounds ts r a = m ∧ Adj ts a b k ∧ rounds ts r b ≠ m
          · exact hn
          · exfalso
            refine hne (hx.ind (fun y => Rch ts m y ∧ rounds ts r y = m) ⟨Rch.refl, atm r⟩ fun a b k ha k' => ⟨ha.1.trans (Rch.adj k'), ?_⟩).2
            by_cases hb : rounds ts r b = m
            · exact hb
            · exact absurd ⟨a, b, k, ha.1, ha.2, k', hb⟩ hn
        obtain ⟨a, b, k, ha, ha2, hab, hb⟩ := edge
        have hmb : Rch ts m b := ha.trans (Rch.adj hab)
        have hb' : rounds ts (r + 1) b = m := by
          have h1 := ge (r + 1) b hmb
          obtain ⟨t, ht, _, h⟩ := hab
          have ft := fold_tie ts (rounds ts r) t ht
          have h2 : rounds ts (r + 1) b ≤ m := by
            rcases h with ⟨e1, e2⟩ | ⟨e1, e2⟩
            · have q := ft.2
              rw [e1, e2, ha2] at q
              exact Int.le_trans q (by omega)
            · have q := ft.1
              rw [e1, e2, ha2] at q
              exact Int.le_trans q (by omega)
          omega
        have lt := filter_lt (p := fun x => decide (Rch ts m x ∧ rounds ts r x ≠ m)) (q := fun x => decide (Rch ts m x ∧ rounds ts (r + 1) x ≠ m)) (l := rng n) (fun x _ hq => by
          have hq := of_decide_eq_true hq
          refine decide_eq_true ⟨hq.1, fun z => hq.2 ?_⟩
          have h1 := ge (r + 1) x hq.1
          have h2 := mono r x
          omega) ⟨b, mem_rng.mpr (hmb.rng ok h0), decide_eq_true ⟨hmb, hb⟩, decide_eq_false fun z => z.2 hb'⟩
        omega
      · have e : (rng n).filter (fun x => decide (Rch ts m x ∧ rounds ts (r + 1) x ≠ m)) = [] := by
          rw [List.filter_eq_nil_iff]
          intro x _ hq
          have hq := of_decide_eq_true hq
          refine hex ⟨x, hq.1, fun z => hq.2 ?_⟩
          have h1 := ge (r + 1) x hq.1
          have h2 := mono r x
          omega
        rw [e]
        exact Nat.zero_le _
  have c := cnt n
  rw [Nat.sub_self] at c
  have e := List.eq_nil_of_length_eq_zero (Nat.le_zero.mp c)
  by_cases hne : rounds ts n p = m
  · exact hne
  · rw [List.filter_eq_nil_iff] at e
    exact absurd (decide_eq_true ⟨hp, hne⟩) (e p (mem_rng.mpr (hp.rng ok h0)))
open Classical in
/-- each has a least place -/
theorem has_leader {ts : List Tie} {n : Nat} (ok : ∀ t ∈ ts, TieOk n t) {p : Int} (h0 : 0 ≤ p ∧ p < n) : ∃ m, leader ts m ∧ (0 ≤ m ∧ m < n) ∧ Rch ts m p := by
  have key : ∀ (k : Nat) (x : Int), x = k → Rch ts p x → ∃ m, leader ts m ∧ (0 ≤ m ∧ m < n) ∧ Rch ts m p := by
    intro k
    induction k using Nat.strongRecOn with
    | ind k ih =>
      intro x hx hr
      have hxr := hr.rng ok h0
      by_cases hl : leader ts x
      · exact ⟨x, hl, hxr, hr.symm⟩
      · have hl' : ∃ q, Rch ts x q ∧ q < x := by
          by_cases h : ∃ q, Rch ts x q ∧ q < x
          · exact h
          · exfalso
            refine hl fun q hq => ?_
            by_cases h' : q < x
            · exact absurd ⟨q, hq, h'⟩ h
            · omega
        obtain ⟨q, hq, hlt⟩ := hl'
        have hqr := hq.rng ok hxr
        exact ih q.toNat (by omega) q (by omega) (hr.trans hq)
  exact key p.toNat p (by omega) Rch.refl
/-! ### rows of numbers as data -/
def IntsV (H : Hp) (v : V) (xs : List Int) : Prop := ∃ b, v = .ref b ∧ H b = some (.tup (xs.map V.int))
theorem IntsV.tk {H H' : Hp} (k : Tk H H') {v : V} {xs : List Int} (h : IntsV H v xs) : IntsV H' v xs := by
  obtain ⟨a, rfl, e⟩ := h
  exact ⟨a, rfl, k _ _ e⟩
def intsD (xs : List Int) : PyData := .tuple (xs.map PyData.int)
section
variable {K : PySem.W.Frag} {H : Hp}
theorem dp_ints : ∀ (xs : List Int), DpAll K H (xs.map V.int) (xs.map PyData.int)
  | [] => .nil
  | x :: xs => .cons (.int x) (dp_ints xs)
theorem IntsV.dp {v : V} {xs : List Int} (h : IntsV H v xs) : Dp K H v (intsD xs) := by
  obtain ⟨b, rfl, e⟩ := h
  exact .tup (SqT.of e) (dp_ints xs)
end
theorem lay_ints : ∀ xs : List Int, PyData.canLayAll0 (xs.map PyData.int) = true
  | [] => by simp [PyData.canLayAll0]
  | x :: xs => by simp [PyData.canLayAll0, PyData.canLay0, lay_ints xs]
theorem deep_ints : ∀ xs : List Int, PyData.depthAll (xs.map PyData.int) = 0
  | [] => by simp [PyData.depthAll]
  | x :: xs => by simp [PyData.depthAll, PyData.depth, deep_ints xs]
theorem lay_intsD (xs : List Int) : (intsD xs).canLay0 = true := by
  unfold intsD
  rw [PyData.canLay0]
  exact lay_ints xs
theorem deep_intsD (xs : List Int) : (intsD xs).depth = 1 := by
  unfold intsD
  rw [PyData.depth, deep_ints]
theorem shaped_intsD (xs : List Int) : SeqAt.shaped (intsD xs) = true := by
  unfold SeqAt.shaped
  rw [lay_intsD, deep_intsD]
  rfl
theorem eqv_nil (xs : List Int) : PyData.eqv (intsD xs) (intsD []) = xs.isEmpty := by
  unfold intsD
  rw [PyData.eqv]
  cases xs <;> rfl

/-! ### stems (mathematics) -/
theorem Rch.mono {ts ts' : List Tie} (h : ∀ t ∈ ts, t ∈ ts') {a b : Int} (r : Rch ts a b) : Rch ts' a b :=
  r.ind (fun x => Rch ts' a x) .refl fun x y k hx ad => by
    obtain ⟨t, ht, e⟩ := ad
    exact hx.trans (Rch.adj (k := k) ⟨t, h t ht, e⟩)
theorem rch_pq {ts : List Tie} {t : Tie} {p q : Int} (h : (p = t.one ∧ q = t.other) ∨ (p = t.other ∧ q = t.one)) : Rch (ts ++ [t]) p q := by
  refine Rch.adj (k := t.foe) ⟨t, List.mem_append_right _ (by simp), rfl, ?_⟩
  rcases h with ⟨h1, h2⟩ | ⟨h1, h2⟩
  · exact .inl ⟨h1.symm, h2.symm⟩
  · exact .inr ⟨h2.symm, h1.symm⟩
theorem rch_snoc {ts : List Tie} {t : Tie} {p q : Int} (h : (p = t.one ∧ q = t.other) ∨ (p = t.other ∧ q = t.one)) {a b : Int} : Rch (ts ++ [t]) a b ↔ Rch ts a b ∨ (Rch ts a p ∧ Rch ts q b) ∨ (Rch ts a q ∧ Rch ts p b) := by
  have up : ∀ {x y : Int}, Rch ts x y → Rch (ts ++ [t]) x y := fun r => r.mono fun t ht => List.mem_append_left _ ht
  constructor
  · intro r
    refine r.ind (fun x => Rch ts a x ∨ (Rch ts a p ∧ Rch ts q x) ∨ (Rch ts a q ∧ Rch ts p x)) (.inl .refl) fun x y k hx ad => ?_
    obtain ⟨t', ht, e1, e2⟩ := ad
    rcases List.mem_append.mp ht with ht | ht
    · have st : Rch ts x y := Rch.adj (k := k) ⟨t', ht, e1, e2⟩
      rcases hx with h1 | ⟨h1, h2⟩ | ⟨h1, h2⟩
      · exact .inl (h1.trans st)
      · exact .inr (.inl ⟨h1, h2.trans st⟩)
      · exact .inr (.inr ⟨h1, h2.trans st⟩)
    · rw [List.mem_singleton] at ht
      subst ht
      have xy : (x = p ∧ y = q) ∨ (x = q ∧ y = p) := by
        rcases e2 with ⟨e2, e3⟩ | ⟨e2, e3⟩ <;> rcases h with ⟨h1, h2⟩ | ⟨h1, h2⟩
        · exact .inl ⟨by omega, by omega⟩
        · exact .inr ⟨by omega, by omega⟩
        · exact .inr ⟨by omega, by omega⟩
        · exact .inl ⟨by omega, by omega⟩
      rcases xy with ⟨rfl, rfl⟩ | ⟨rfl, rfl⟩
      · rcases hx with h1 | ⟨h1, h2⟩ | ⟨h1, h2⟩
        · exact .inr (.inl ⟨h1, .refl⟩)
        · exact .inr (.inl ⟨h1, .refl⟩)
        · exact .inl h1
      · rcases hx with h1 | ⟨h1, h2⟩ | ⟨h1, h2⟩
        · exact .inr (.inr ⟨h1, .refl⟩)
        · exact .inl h1
        · exact .inr (.inr ⟨h1, .refl⟩)
  · rintro (h1 | ⟨h1, h2⟩ | ⟨h1, h2⟩)
    · exact up h1
    · exact (up h1).trans ((rch_pq h).trans (up h2))
    · exact (up h1).trans ((rch_pq h).symm.trans (up h2))
theorem rch_nil {a b : Int} (h : Rch [] a b) : a = b := h.ind (fun x => a = x) rfl fun x y k _ ad => by
  obtain ⟨t, ht, _⟩ := ad
  simp at ht
def tieN (ts : List Tie) (k : Nat) : Tie := ts.getD k ⟨0, 0, false⟩
theorem tieN_of {ts : List Tie} {k : Nat} {t : Tie} (h : ts[k]? = some t) : tieN ts k = t := by
  unfold tieN
  rw [List.getD_eq_getElem?_getD, h]
  rfl
open Classical in
noncomputable def stemB (ts : List Tie) (k : Nat) : Bool := decide (¬ Rch (ts.take k) (tieN ts k).one (tieN ts k).other)
noncomputable def stemsTo (ts : List Tie) (k : Nat) : List Int := (rng k).filter fun i => stemB ts i.toNat
theorem stemsTo_succ (ts : List Tie) (k : Nat) : stemsTo ts (k + 1) = stemsTo ts k ++ (if stemB ts k = true then [(k : Int)] else []) := by
  unfold stemsTo
  rw [rng_succ, List.filter_append, List.filter_cons, Int.toNat_natCast]
  rfl
theorem stemsTo_len (ts : List Tie) (k : Nat) : (stemsTo ts k).length ≤ k := by
  unfold stemsTo
  have := List.length_filter_le (fun i => stemB ts i.toNat) (rng k)
  rw [rng_length] at this
  exact this
open Classical in
theorem stem_iff {ts : List Tie} {k : Nat} {t : Tie} (h : ts[k]? = some t) : stemB ts k = true ↔ ¬ Rch (ts.take k) t.one t.other := by
  unfold stemB
  rw [tieN_of h]
  exact decide_eq_true_iff
theorem take_snoc {α : Type} {ts : List α} {k : Nat} {t : α} (h : ts[k]? = some t) : ts.take (k + 1) = ts.take k ++ [t] := by
  rw [List.take_add_one, h]
  rfl
/-- labels: alike just where ties lead -/
def Lab (ts : List Tie) (n : Nat) (g : Int → Int) : Prop := ∀ i j : Int, 0 ≤ i → i < n → 0 ≤ j → j < n → (g i = g j ↔ Rch ts i j)
def mrg (g : Int → Int) (old new : Int) : Int → Int := fun x => if g x = old then new else g x
theorem lab_nil (n : Nat) : Lab [] n (fun i => i) := fun i j _ _ _ _ => ⟨fun h => by rw [show i = j from h]; exact .refl, fun h => rch_nil h⟩
theorem lab_same {ts : List Tie} {n : Nat} {g : Int → Int} {t : Tie} (h : Lab ts n g) (ok : TieOk n t) (e : g t.one = g t.other) : Lab (ts ++ [t]) n g := fun i j i0 i1 j0 j1 => by
  obtain ⟨o1, o2, o3, o4, _⟩ := ok
  have r : Rch ts t.one t.other := (h _ _ o1 o2 o3 o4).mp e
  rw [rch_snoc (.inl ⟨rfl, rfl⟩), h i j i0 i1 j0 j1]
  constructor
  · exact .inl
  · rintro (h1 | ⟨h1, h2⟩ | ⟨h1, h2⟩)
    · exact h1
    · exact h1.trans (r.trans h2)
    · exact h1.trans (r.symm.trans h2)
theorem lab_step {ts : List Tie} {n : Nat} {g : Int → Int} {t : Tie} {p q : Int} (h : Lab ts n g) (ok : TieOk n t) (e : (p = t.one ∧ q = t.other) ∨ (p = t.other ∧ q = t.one)) : Lab (ts ++ [t]) n (mrg g (g p) (g q)) := fun i j i0 i1 j0 j1 => by
  have pr : (0 ≤ p ∧ p < n) ∧ (0 ≤ q ∧ q < n) := by
    obtain ⟨o1, o2, o3, o4, _⟩ := ok
    rcases e with ⟨rfl, rfl⟩ | ⟨rfl, rfl⟩
    · exact ⟨⟨o1, o2⟩, o3, o4⟩
    · exact ⟨⟨o3, o4⟩, o1, o2⟩
  obtain ⟨⟨p0, p1⟩, q0, q1⟩ := pr
  rw [rch_snoc e]
  unfold mrg
  have ip := h i p i0 i1 p0 p1
  have jp := h j p j0 j1 p0 p1
  have iq := h i q i0 i1 q0 q1
  have jq := h j q j0 j1 q0 q1
  have ij := h i j i0 i1 j0 j1
  by_cases hi : g i = g p <;> by_cases hj : g j = g p
  · rw [if_pos hi, if_pos hj]
    exact ⟨fun _ => .inl (ij.mp (hi.trans hj.symm)), fun _ => rfl⟩
  · rw [if_pos hi, if_neg hj]
    constructor
    · intro z
      exact .inr (.inl ⟨ip.mp hi, (jq.mp z.symm).symm⟩)
    · rintro (z | ⟨_, z⟩ | ⟨_, z⟩)
      · exact absurd ((ij.mpr z).symm.trans hi) hj
      · exact (jq.mpr z.symm).symm
      · exact absurd (jp.mpr z.symm) hj
  · rw [if_neg hi, if_pos hj]
    constructor
    · intro z
      exact .inr (.inr ⟨iq.mp z, (jp.mp hj).symm⟩)
    · rintro (z | ⟨z, _⟩ | ⟨z, _⟩)
      · exact absurd ((ij.mpr z).trans hj) hi
      · exact absurd (ip.mpr z) hi
      · exact iq.mpr z
  · rw [if_neg hi, if_neg hj]
    constructor
    · intro z
      exact .inl (ij.mp z)
    · rintro (z | ⟨z, _⟩ | ⟨_, z⟩)
      · exact ij.mpr z
      · exact absurd (ip.mpr z) hi
      · exact absurd (jp.mpr z.symm) hj
/-- heads: labels that are places of their own; how many -/
structure Heads (ts : List Tie) (n i : Nat) (g : Int → Int) : Prop where
  lab : Lab (ts.take i) n g
  rng : ∀ x : Int, 0 ≤ x → x < n → 0 ≤ g x ∧ g x < n
  idem : ∀ x : Int, 0 ≤ x → x < n → g (g x) = g x
  cnt : ((FF.rng n).filter fun x => decide (g x = x)).length + (stemsTo ts i).length = n
theorem heads_nil (ts : List Tie) (n : Nat) : Heads ts n 0 (fun i => i) := by
  refine ⟨by rw [List.take_zero]; exact lab_nil n, fun x h0 h1 => ⟨h0, h1⟩, fun x _ _ => rfl, ?_⟩
  have e : ((FF.rng n).filter fun x => decide (x = x)) = FF.rng n := by
    rw [List.filter_eq_self]
    intro x _
    exact decide_eq_true rfl
  show ((FF.rng n).filter fun x => decide (x = x)).length + 0 = n
  rw [e, rng_length, Nat.add_zero]
theorem filter_drop {p q : Int → Bool} {h : Int} : ∀ {l : List Int}, l.Nodup → h ∈ l → p h = true → (∀ x ∈ l, q x = (p x && decide (x ≠ h))) → (l.filter q).length + 1 = (l.filter p).length
  | x :: l, nd, hm, hp, hq => by
    rw [List.nodup_cons] at nd
    have hx := hq x (by simp)
    rw [List.filter_cons, List.filter_cons, hx]
    by_cases e : x = h
    · subst e
      have same : l.filter q = l.filter p := List.filter_congr fun y hy => by
        rw [hq y (List.mem_cons_of_mem _ hy), decide_eq_true (show y ≠ x from fun z => nd.1 (by rw [← z]; exact hy)), Bool.and_true]
      rw [same, hp]
      simp
    · have hm' : h ∈ l := (List.mem_cons.mp hm).elim (fun z => absurd z.symm e) id
      have ih := filter_drop (l := l) nd.2 hm' hp fun y hy => hq y (List.mem_cons_of_mem _ hy)
      rw [decide_eq_true (show x ≠ h from e), Bool.and_true]
      cases p x
      · simpa using ih
      · simp
        omega
theorem heads_same {ts : List Tie} {n i : Nat} {g : Int → Int} {t : Tie} (h : Heads ts n i g) (et : ts[i]? = some t) (ok : TieOk n t) (e : g t.one = g t.other) : Heads ts n (i + 1) g := by
  refine ⟨by rw [take_snoc et]; exact lab_same h.lab ok e, h.rng, h.idem, ?_⟩
  have no : ¬ stemB ts i = true := fun z => (stem_iff et).mp z ((h.lab _ _ ok.1 ok.2.1 ok.2.2.1 ok.2.2.2.1).mp e)
  rw [stemsTo_succ, if_neg no, List.append_nil]
  exact h.cnt
theorem heads_step {ts : List Tie} {n i : Nat} {g : Int → Int} {t : Tie} {p q : Int} (h : Heads ts n i g) (et : ts[i]? = some t) (ok : TieOk n t) (e : (p = t.one ∧ q = t.other) ∨ (p = t.other ∧ q = t.one)) (ne : g p ≠ g q) : Heads ts n (i + 1) (mrg g (g p) (g q)) := by
  have pr : (0 ≤ p ∧ p < n) ∧ (0 ≤ q ∧ q < n) := by
    obtain ⟨o1, o2, o3, o4, _⟩ := ok
    rcases e with ⟨rfl, rfl⟩ | ⟨rfl, rfl⟩
    · exact ⟨⟨o1, o2⟩, o3, o4⟩
    · exact ⟨⟨o3, o4⟩, o1, o2⟩
  obtain ⟨⟨p0, p1⟩, q0, q1⟩ := pr
  have gp := h.rng p p0 p1
  have gq := h.rng q q0 q1
  have ip := h.idem p p0 p1
  have iq := h.idem q q0 q1
  refine ⟨by rw [take_snoc et]; exact lab_step h.lab ok e, fun x x0 x1 => ?_, fun x x0 x1 => ?_, ?_⟩
  · unfold mrg
    split
    · exact gq
    · exact h.rng x x0 x1
  · have ix := h.idem x x0 x1
    by_cases hx : g x = g p
    · have e1 : mrg g (g p) (g q) x = g q := if_pos hx
      rw [e1]
      show (if g (g q) = g p then g q else g (g q)) = g q
      rw [iq, if_neg (Ne.symm ne)]
    · have e1 : mrg g (g p) (g q) x = g x := if_neg hx
      rw [e1]
      show (if g (g x) = g p then g q else g (g x)) = g x
      rw [ix, if_neg hx]
  · have yes : stemB ts i = true := (stem_iff et).mpr fun z => by
      have hl := (h.lab _ _ ok.1 ok.2.1 ok.2.2.1 ok.2.2.2.1).mpr z
      rcases e with ⟨rfl, rfl⟩ | ⟨rfl, rfl⟩
      · exact ne hl
      · exact ne hl.symm
    have drop := filter_drop (p := fun x => decide (g x = x)) (q := fun x => decide (mrg g (g p) (g q) x = x)) (h := g p) (l := FF.rng n) ((rng_rising n).imp fun h => by omega) (mem_rng.mpr gp) (decide_eq_true ip) (fun x hx => ?_)
    · rw [stemsTo_succ, if_pos yes, List.length_append]
      have := h.cnt
      simp only [List.length_cons, List.length_nil]
      omega
    · have xr := mem_rng.mp hx
      rw [Bool.eq_iff_iff, Bool.and_eq_true, decide_eq_true_iff, decide_eq_true_iff, decide_eq_true_iff]
      show (if g x = g p then g q else g x) = x ↔ _
      by_cases hx : g x = g p
      · rw [if_pos hx]
        constructor
        · intro z
          exact absurd (by rw [← z, iq] at hx; exact hx.symm) ne
        · rintro ⟨z1, z2⟩
          exact absurd (z1.symm.trans hx) z2
      · rw [if_neg hx]
        exact ⟨fun z => ⟨z, fun y => hx (by rw [y]; exact ip)⟩, fun z => z.1⟩
/-- stems are told by the places of the ties alone -/
theorem rch_frames : ∀ {ts us : List Tie}, ts.length = us.length → (∀ (i : Nat) t u, ts[i]? = some t → us[i]? = some u → (u.one = t.one ∧ u.other = t.other) ∨ (u.one = t.other ∧ u.other = t.one)) → ∀ {a b : Int}, Rch ts a b → Rch us a b := by
  intro ts us hl h a b r
  refine r.ind (fun x => Rch us a x) .refl fun x y k hx ad => ?_
  obtain ⟨t, ht, _, e⟩ := ad
  obtain ⟨i, hi, rfl⟩ := List.getElem_of_mem ht
  have hu : us[i]? = some us[i] := List.getElem?_eq_getElem (by omega)
  have w := h i _ _ (List.getElem?_eq_getElem hi) hu
  refine hx.trans (Rch.adj (k := us[i].foe) ⟨us[i], List.getElem_mem _, rfl, ?_⟩)
  rcases w with ⟨w1, w2⟩ | ⟨w1, w2⟩ <;> rcases e with ⟨e1, e2⟩ | ⟨e1, e2⟩
  · exact .inl ⟨by omega, by omega⟩
  · exact .inr ⟨by omega, by omega⟩
  · exact .inr ⟨by omega, by omega⟩
  · exact .inl ⟨by omega, by omega⟩
def Framed (ts us : List Tie) : Prop := ts.length = us.length ∧ ∀ (i : Nat) t u, ts[i]? = some t → us[i]? = some u → (u.one = t.one ∧ u.other = t.other) ∨ (u.one = t.other ∧ u.other = t.one)
theorem Framed.symm {ts us : List Tie} (h : Framed ts us) : Framed us ts := ⟨h.1.symm, fun i u t e1 e2 => by
  rcases h.2 i t u e2 e1 with ⟨w1, w2⟩ | ⟨w1, w2⟩
  · exact .inl ⟨w1.symm, w2.symm⟩
  · exact .inr ⟨w2.symm, w1.symm⟩⟩
theorem Framed.take {ts us : List Tie} (h : Framed ts us) (k : Nat) : Framed (ts.take k) (us.take k) := by
  refine ⟨by rw [List.length_take, List.length_take, h.1], fun i t u e1 e2 => ?_⟩
  by_cases hk : i < k
  · rw [List.getElem?_take_of_lt hk] at e1 e2
    exact h.2 i t u e1 e2
  · rw [List.getElem?_take] at e1
    rw [if_neg hk] at e1
    cases e1
theorem Framed.map {ts : List Tie} {f : Tie → Tie} (h : ∀ t ∈ ts, ((f t).one = t.one ∧ (f t).other = t.other) ∨ ((f t).one = t.other ∧ (f t).other = t.one)) : Framed ts (ts.map f) := by
  refine ⟨by rw [List.length_map], fun i t u e1 e2 => ?_⟩
  rw [List.getElem?_map, e1] at e2
  cases e2
  exact h t (List.mem_of_getElem? e1)
theorem stems_framed {ts us : List Tie} (h : Framed ts us) : stemsTo us us.length = stemsTo ts ts.length := by
  unfold stemsTo
  rw [← h.1]
  refine List.filter_congr fun i hi => ?_
  have ir := mem_rng.mp hi
  have e1 : ts[i.toNat]? = some ts[i.toNat] := List.getElem?_eq_getElem (by omega)
  have l := h.1
  have e2 : us[i.toNat]? = some us[i.toNat] := List.getElem?_eq_getElem (by omega)
  have ht := h.take i.toNat
  rw [Bool.eq_iff_iff, stem_iff e1, stem_iff e2]
  have both : ∀ a b : Int, Rch (ts.take i.toNat) a b ↔ Rch (us.take i.toNat) a b := fun a b => ⟨fun r => rch_frames ht.1 ht.2 r, fun r => rch_frames ht.symm.1 ht.symm.2 r⟩
  rcases h.2 _ _ _ e1 e2 with ⟨w1, w2⟩ | ⟨w1, w2⟩
  · rw [w1, w2, both]
  · rw [w1, w2, both]
    exact ⟨fun z y => z y.symm, fun z y => z y.symm⟩
theorem stemsTo_rising (ts : List Tie) (k : Nat) : (stemsTo ts k).Pairwise (· < ·) := (rng_rising k).filter _
theorem stemsTo_mem {ts : List Tie} {k : Nat} {i : Int} : i ∈ stemsTo ts k ↔ (0 ≤ i ∧ i < k) ∧ stemB ts i.toNat = true := by
  unfold stemsTo
  rw [List.mem_filter, mem_rng]
theorem stems_own (ts : List Tie) : stemsTo ((stemsTo ts ts.length).map fun i => tieN ts i.toNat) (stemsTo ts ts.length).length = rng (stemsTo ts ts.length).length := by
  generalize hS : stemsTo ts ts.length = S
  unfold stemsTo
  rw [List.filter_eq_self]
  intro j hj
  have jr := mem_rng.mp hj
  have hjl : j.toNat < S.length := by omega
  have ej : (S.map fun i => tieN ts i.toNat)[j.toNat]? = some (tieN ts S[j.toNat].toNat) := by
    rw [List.getElem?_map, List.getElem?_eq_getElem hjl]
    rfl
  have hm : S[j.toNat] ∈ stemsTo ts ts.length := by rw [hS]; exact List.getElem_mem _
  obtain ⟨⟨m0, m1⟩, mb⟩ := stemsTo_mem.mp hm
  have et : ts[S[j.toNat].toNat]? = some (tieN ts S[j.toNat].toNat) := by
    have h : S[j.toNat].toNat < ts.length := by omega
    rw [List.getElem?_eq_getElem h, tieN_of (List.getElem?_eq_getElem h)]
  rw [stem_iff ej]
  rw [stem_iff et] at mb
  refine fun r => mb (r.mono fun t ht => ?_)
  rw [← List.map_take, List.mem_map] at ht
  obtain ⟨x, hx, rfl⟩ := ht
  obtain ⟨a, ha, rfl⟩ := List.getElem_of_mem hx
  rw [List.length_take] at ha
  rw [List.getElem_take]
  have hx' : S[a] ∈ stemsTo ts ts.length := by rw [hS]; exact List.getElem_mem _
  obtain ⟨⟨x0, x1⟩, _⟩ := stemsTo_mem.mp hx'
  have rise : S.Pairwise (· < ·) := by rw [← hS]; exact stemsTo_rising _ _
  have lt : S[a] < S[j.toNat] := List.pairwise_iff_getElem.mp rise a j.toNat (by omega) hjl (by omega)
  have h : S[a].toNat < ts.length := by omega
  rw [tieN_of (List.getElem?_eq_getElem h)]
  rw [List.mem_iff_getElem]
  exact ⟨S[a].toNat, by rw [List.length_take]; omega, by rw [List.getElem_take]⟩
/-! ### the law: the least place that each comes to -/
def lf (f : Int → Int) (n : Nat) : List V := (rng n).map fun i => V.int (f i)
theorem lf_len (f : Int → Int) (n : Nat) : (lf f n).length = n := by unfold lf; rw [List.length_map, rng_length]
theorem lf_get? (f : Int → Int) {n j : Nat} (h : j < n) : (lf f n)[j]? = some (.int (f j)) := by
  unfold lf rng
  rw [List.map_map, List.getElem?_map, List.getElem?_range h]
  rfl
theorem lf_at (f : Int → Int) {n : Nat} {i : Int} (h0 : 0 ≤ i) (h1 : i < n) : atI (lf f n) i = some (.int (f i)) := by
  have e : ((i.toNat : Nat) : Int) = i := by omega
  refine atI_of h0 ?_
  rw [lf_get? f (by omega), e]
theorem lf_set (f : Int → Int) {n : Nat} {i y : Int} (h0 : 0 ≤ i) (h1 : i < n) : (lf f n).set i.toNat (.int y) = lf (fun x => if x = i then y else f x) n := by
  refine List.ext_getElem? fun j => ?_
  rw [List.getElem?_set]
  by_cases hj : j < n
  · by_cases e : i.toNat = j
    · rw [if_pos e, if_pos (by rw [lf_len]; omega), lf_get? _ hj, if_pos (by omega)]
    · rw [if_neg e, lf_get? _ hj, lf_get? _ hj, if_neg (by omega)]
  · have e : i.toNat ≠ j := by omega
    rw [if_neg e, List.getElem?_eq_none (by rw [lf_len]; omega), List.getElem?_eq_none (by rw [lf_len]; omega)]
theorem ixN_of {n : Nat} {i : Int} (h0 : 0 ≤ i) (h1 : i < n) : ixN n i = some i.toNat := by
  unfold ixN
  rw [if_pos (by omega), if_pos (by omega)]
/-! ### enumerate of a tuple -/
set_option maxHeartbeats 1000000 in
theorem meets_enumOne {v : Value} {o : Obj} {S : Heap → Prop} (B : Begins v o S) : Meets (Builtin.«enumerate.__new__» ⟨[.type "enumerate", v], []⟩) (fun _ R s => S s.heap ∧
      R (.ok (.ret (.ref (s.heap.push o).objs.size))) { s with heap := (s.heap.push o).push { cls := .type "enumerate", data := .fields #[.none, .bool false, .ref s.heap.objs.size, rawInt 0, .none, .none] } }) :=
  .of_wp fun prog w A R s h => by
    obtain ⟨hp, g, d, tk, os⟩ := s
    obtain ⟨h1, h⟩ := h
    have sub0 := sub_enumerate
    have begun : ∀ {A' : PySem.Around} {E : Value → Shared → Prop} {Q : Value → Shared → Prop}, Q (.ref hp.objs.size) ⟨hp.push o, g, d, tk, os⟩ → wpAny (model prog w) A' (pyIter v) Q E ⟨hp, g, d, tk, os⟩ := fun q => B.iter prog w _ _ ⟨hp, g, d, tk, os⟩ _ h1 q
    wp_walk using begun
    refine wpAny_stack_any fun st => wpAny_pure ?_
    split
    · rename_i c _ _ _ _ _
      cases (c == Value.type "enumerate")
      all_goals
        wp_walk using begun
        exact ⟨_, rfl, h⟩
    · wp_walk using begun
      exact ⟨_, rfl, h⟩
theorem call_enumT {P : Program} {w : World} {A : PySem.Around} {E : Value → Shared → Prop} {s : Shared} {t : Addr} {items : Array Value} {Q : Value → Shared → Prop} (ht : s.heap.IsTuple t items)
    (h : ∀ h', IsEnum h' (s.heap.objs.size + 1) s.heap.objs.size 0 .none → h'.IsTupleIter s.heap.objs.size t 0 → (∀ b o, s.heap.get? b = some o → h'.get? b = some o) → Q (.ref (s.heap.objs.size + 1)) { s with heap := h' }) : wpAny (model P w) A (call (.type "enumerate") [.ref t]) Q E s := by
  refine callType_new PySem.F.called_enumerate (by decide) (PySem.F.typeCall_enumerate_1 _) (PySem.F.newCall_enumerate_1 _) (fun ob => PySem.F.args_object_init_2 ob _) PySem.F.entry_enumerate_new (meets_enumOne (begins_tuple t items)) ⟨ht, ?_⟩
  have size1 := Heap.size_push s.heap { cls := .type "tuple_iterator", data := .fields #[.ref t, .int 0 0] }
  have en := Heap.get?_push_size (s.heap.push { cls := .type "tuple_iterator", data := .fields #[.ref t, .int 0 0] }) (o := { cls := .type "enumerate", data := .fields #[.none, .bool false, .ref s.heap.objs.size, rawInt 0, .none, .none] }) rfl
  rw [size1] at en
  show _ ∧ _
  rw [size1]
  exact ⟨⟨_, en, rfl⟩, h _ en ⟨_, Heap.get?_push_of_some _ (Heap.get?_push_size _ rfl), rfl, rfl⟩ fun b o e => Heap.get?_push_of_some _ (Heap.get?_push_of_some _ e)⟩
/-- the turns: a new pair each, of the number and the part -/
def ItN (K : PySem.W.Frag) (a : Addr) : It where
  go := fun i H => ∃ (xs : List V) (x : V), SqT K H a xs ∧ xs[i]? = some x
  yld := fun i H v H' => ∃ T x, v = .ref T ∧ H T = none ∧ H' = upd H T (.tup [.int (i : Nat), x]) ∧ ∀ xs, SqT K H a xs → xs[i]? = some x
  stop := fun i H => ∃ xs : List V, SqT K H a xs ∧ xs.length ≤ i
theorem turn_enumT {P : Program} {w : World} {K : PySem.W.Frag} {elts : List Expr} {kk : Nat} {tpos : Pos} (a e it : Addr) (n1 : e ≠ it) (n2 : a ≠ it) (n3 : e ≠ a) :
    Turn P w K (.Tuple elts kk tpos) (ItN K a) [e, it] e (fun i h => (∃ old, IsEnum h e it ((i : Nat) : Int) old) ∧ h.IsTupleIter it a i) where
  mem := List.mem_cons_self
  obj := by
    rintro i h ⟨⟨old, he⟩, o, ho, hc, hd⟩ b hb
    rcases List.mem_cons.mp hb with rfl | hb
    · exact ⟨_, he, fun v q => nomatch q⟩
    · rw [List.mem_singleton.mp hb]
      exact ⟨o, ho, fun v q => by rw [hd] at q; cases q⟩
  keep := by
    rintro i h h' ⟨⟨old, he⟩, hit⟩ kp
    exact ⟨⟨old, kp e (by simp) _ he⟩, hit.at fun o q => kp it (by simp) o q⟩
  item := by
    intro X hP hw hK hc i pins s σ H E I hf st hg
    subst hP hw hK
    obtain ⟨⟨old, he⟩, hit⟩ := st
    obtain ⟨xs, x, hq, hx⟩ := hg
    obtain ⟨its, rv, tup, _⟩ := I.tuple hq
    obtain ⟨u, hu, ru⟩ := rv.get hx
    have le := Heap.lt_size he
    have li : it < s.heap.objs.size := let ⟨_, q, _⟩ := hit; Heap.lt_size q
    have lt : i < its.toArray.size := by simpa using (List.getElem?_eq_some_iff.mp hu).1
    refine wpAny_pyNext_enum_itemD (Draws.tuple (A := X.A.in1) (I.ok.hd hc) it a n2 its.toArray) he ⟨hit, tup⟩ lt n1 (by simp [n1, n3]) fun x' h' tk ex out st' new _ kp => ?_
    obtain rfl : u = x' := Option.some.inj (((by simpa using hu) : its.toArray[i]? = some u).symm.trans ex)
    refine ⟨_, rfl, wpAny_letOwnedTupleGo_enum (s := { s with heap := h', toks := tk + 1 }) out fun h2 he2 sb => ?_⟩
    have new2 : h2.get? s.heap.objs.size = some { cls := .type "tuple", data := .seq #[.int i tk, u] } := (sb.2 _ (Nat.ne_of_gt le)).trans new
    have objT : ObjOk X.prog X.w (upd H s.heap.objs.size (.tup [.int (i : Nat), x])) h2 s.heap.objs.size (.tup [.int (i : Nat), x]) := ⟨by show 2 ≤ sizeLine; decide, [.int i tk, u], .cons ⟨_, rfl⟩ (.cons ru .nil), ⟨_, new2, rfl, _, rfl⟩⟩
    have J : Inv X pins σ (upd H s.heap.objs.size (.tup [.int (i : Nat), x])) { s with heap := h2, toks := tk + 1 } := I.turnedNew (ch := [e, it]) (fun b ob hb q => by
      simp only [List.mem_cons, List.not_mem_nil, or_false, not_or] at hb
      exact (sb.2 b hb.1).trans (kp b ob hb.1 hb.2 q)) hf (Nat.le_refl _) objT
    refine ⟨.ref s.heap.objs.size, _, J, rfl, ⟨_, x, rfl, I.hok.fresh (Nat.le_refl _), rfl, fun ys hy => by rw [I.tuple_inj hy hq]; exact hx⟩, ⟨⟨u, ?_⟩, st'.1.at fun o q => (sb.2 it (Ne.symm n1)).trans q⟩, fun b hb => ?_⟩
    · rw [show ((i + 1 : Nat) : Int) = (i : Int) + 1 from by omega]
      exact he2
    · have lb : b < s.heap.objs.size := by
        rcases List.mem_cons.mp hb with rfl | hb
        · exact le
        · rw [List.mem_singleton.mp hb]
          exact li
      rw [upd_ne (Nat.ne_of_lt lb)]
      exact (hf b hb).1
  done := by
    intro X hP hw hK hc i pins s σ H E I hf st hg
    subst hP hw hK
    obtain ⟨⟨old, he⟩, hit⟩ := st
    obtain ⟨xs, hq, hx⟩ := hg
    obtain ⟨its, rv, tup, _⟩ := I.tuple hq
    have hl := rv.length
    obtain ⟨f0, f1, f2, f3, f4, f5⟩ := hf it (by simp)
    have D : Draws X.prog X.w X.A.in1 it [it, a] i (fun _ _ => False) (fun j h => j = i ∧ h.IsTupleIter it a i ∧ h.IsTuple a its.toArray) := {
      live := fun j h z => let ⟨_, ⟨o, q, _⟩, _⟩ := z; ⟨o, q⟩
      frame := fun j h h' z kp => ⟨z.1, z.2.1.at fun o q => kp it (by simp) o q, z.2.2.at fun o q => kp a (by simp) o q⟩
      item := fun j s' Q E' hj z => absurd z.1 (Nat.ne_of_lt hj)
      done := fun s' Q E' z fin => wpAny_nextOf_tuple_end (I.ok.hd hc) z.2.1 z.2.2 (by simp; omega) fin }
    exact wpAny_pyNext_enum_endD D he ⟨rfl, hit, tup⟩ fun h' eb => ⟨rfl, I.turned (t' := s.toks) (fun b o hb q => eb b o hb q) f0 f1 f3 f4 f5⟩
  self := fun A i s Q E st h => let ⟨⟨_, he⟩, _⟩ := st; wpAny_pyIter_enum he h
def iEnT (K : PySem.W.Frag) (ta : TA) : TI := fun σ H R => ta σ H fun vs H1 => ∃ a xs, vs = [.ref a] ∧ SqT K H1 a xs ∧ R (ItN K a) H1
theorem pi_enumT {X : Cx} {e : Expr} {ta : TA} {p pos tpos : Pos} {elts : List Expr} {kk : Nat} (hg : Gl X "enumerate") (hm : X.mg "enumerate" = none) (ha : PA X [e] ta) (hs : starEach [e] X.env = [(false, eval e X.env)] := by rfl) :
    PI X (.Tuple elts kk tpos) (.Call (.Name "enumerate" p) [e] [] pos) (iEnT X.K ta) := by
  refine ⟨fun pins s σ H R I want => Call_ (ld_blt I hg hm boot_enumerate (PyProof.Rows.callWith_type1 (thn (ha.run pos pins s σ H _ I want) fun us s1 got => ?_) hs rfl))⟩
  obtain ⟨vs, H1, J, rel, a, xs, ex, hq, q⟩ := got
  subst ex
  obtain ⟨u, eu, r1⟩ := vals1 rel
  subst eu
  obtain rfl : u = Value.ref a := r1
  obtain ⟨its, rv, tup, _⟩ := J.tuple hq
  have la : a < s1.heap.objs.size := let ⟨_, q, _⟩ := tup; Heap.lt_size q
  refine call_enumT (items := its.toArray) tup fun h' he hit kp => wpAny_pyIter_enum he ?_
  have J2 : Inv X pins σ H1 { s1 with heap := h' } := J.kept (t' := s1.toks) kp
  refine ⟨s1.heap.objs.size + 1, [s1.heap.objs.size + 1, s1.heap.objs.size], _, _, H1, rfl, J2, turn_enumT a (s1.heap.objs.size + 1) s1.heap.objs.size (Nat.succ_ne_self _) (Nat.ne_of_lt la) (Nat.ne_of_gt (Nat.lt_succ_of_lt la)), ⟨⟨.none, he⟩, hit⟩, fun b hb => ?_, q⟩
  have lb : s1.heap.objs.size ≤ b := by
    rcases List.mem_cons.mp hb with rfl | hb
    · exact Nat.le_succ _
    · rw [List.mem_singleton.mp hb]
      exact Nat.le_refl _
  exact J.fpOk lb (J.hok.fresh lb)
theorem walk_enumT {K : PySem.W.Frag} {a : Addr} {xs : List V} : Walk (ItN K a) xs.length (fun H => SqT K H a xs) (YPair (fun i => some (.int (i : Nat))) (fun i => xs[i]?)) :=
  ⟨fun i H hi h => ⟨xs, xs[i], h, List.getElem?_eq_getElem hi⟩, fun H h => ⟨xs, h, Nat.le_refl _⟩, fun i H x H' hi h y => by
    obtain ⟨T, z, e1, e2, e3, e4⟩ := y
    exact ⟨T, _, z, e1, e2, e3, rfl, e4 xs h⟩⟩
/-! ### ties that sides break -/
def sd (ss : List Int) (i : Int) : Int := ss.getD i.toNat 0
def tieAt (ts : List Tie) (i : Int) : Tie := ts.getD i.toNat ⟨0, 0, false⟩
def brk (ss : List Int) (t : Tie) : Bool := decide (sd ss t.one = sd ss t.other) == t.foe
def badTo (ss : List Int) (ts : List Tie) (k : Nat) : List Int := (rng k).filter fun i => brk ss (tieAt ts i)
def bad (ss : List Int) (ts : List Tie) : List Int := badTo ss ts ts.length
theorem badTo_succ (ss : List Int) (ts : List Tie) (k : Nat) : badTo ss ts (k + 1) = badTo ss ts k ++ (if brk ss (tieAt ts k) = true then [(k : Int)] else []) := by
  unfold badTo
  rw [rng_succ, List.filter_append, List.filter_cons]
  rfl
theorem badTo_len (ss : List Int) (ts : List Tie) (k : Nat) : (badTo ss ts k).length ≤ k := by
  unfold badTo
  have := List.length_filter_le (fun i => brk ss (tieAt ts i)) (rng k)
  rw [rng_length] at this
  exact this
theorem atI_sd {ss : List Int} {i : Int} (h0 : 0 ≤ i) (h1 : i < ss.length) : atI (ss.map V.int) i = some (.int (sd ss i)) := by
  have h : i.toNat < ss.length := by omega
  refine atI_of h0 ?_
  unfold sd
  rw [List.getElem?_map, List.getElem?_eq_getElem h, List.getD_eq_getElem?_getD, List.getElem?_eq_getElem h]
  rfl
theorem tieAt_of {ts : List Tie} {i : Nat} {t : Tie} (h : ts[i]? = some t) : tieAt ts i = t := by
  unfold tieAt
  rw [Int.toNat_natCast, List.getD_eq_getElem?_getD, h]
  rfl
theorem eq_brk (x y : Int) (f : Bool) : decide (V.bl (decide (V.int x = V.int y)) = V.bl (decide (V.str (kindS f) = V.str "foe"))) = (decide (x = y) == f) := by
  have e : decide (V.int x = V.int y) = decide (x = y) := by
    by_cases h : x = y
    · rw [decide_eq_true h, decide_eq_true (by rw [h])]
    · rw [decide_eq_false h, decide_eq_false (fun z => h (V.int.inj z))]
  rw [e]
  cases decide (x = y) <;> cases f <;> rfl
theorem ne_brk (x y : Int) (f : Bool) : (!decide (V.bl (!decide (V.int x = V.int y)) = V.bl (decide (V.str (kindS f) = V.str "foe")))) = (decide (x = y) == f) := by
  have e : decide (V.int x = V.int y) = decide (x = y) := by
    by_cases h : x = y
    · rw [decide_eq_true h, decide_eq_true (by rw [h])]
    · rw [decide_eq_false h, decide_eq_false (fun z => h (V.int.inj z))]
  rw [e]
  cases decide (x = y) <;> cases f <;> rfl
def spBreaks : Sp := fun vs H Q _ => ∃ (a b : Addr) (ss : List Int) (t : Tie), vs = [.ref a, .ref b] ∧ H a = some (.tup (ss.map V.int)) ∧ H b = some (.tup [.int t.one, .int t.other, .str (kindS t.foe)]) ∧ TieOk ss.length t ∧ Q (.bl (brk ss t)) H
def spBroken : Sp := fun vs H Q _ => ∃ (v : V) (a : Addr) (n : Int) (ts : List Tie) (ss : List Int), vs = [v, .ref a] ∧ WebAt H v n ts ∧ WebOk n ts ∧ H a = some (.tup (ss.map V.int)) ∧ (ss.length : Int) = n ∧
  ∀ r H', Same H H' → H' r = some (.tup ((bad ss ts).map V.int)) → Q (.ref r) H'
section
variable {P : Program} {w : World} {K : PySem.W.Frag} {mg : Str → Option Value} {base : Heap}
theorem ok_breaks {f : Addr} {fd : FuncData} (F : Fun K "breaks" "breaks" s_breaks f fd) : FnOk P w K mg base CX0 1 f fd ["sides", "tie"] spBreaks := by
  refine F.ok sc_breaks (fun vs H Q E h => ?_) (fun cdv A outer s H vs Q E hr h => ?_)
  · obtain ⟨a, b, ss, t, rfl, _⟩ := h
    rfl
  · obtain ⟨a, b, ss, t, rfl, ha, hb, ok, q⟩ := h
    refine ⟨_, (pss_cons (ps_asg (pv 1) (pg_tup rfl (pgs_cons (pg_name (i := 2) sc_breaks.nd rfl (.inl rfl)) (pgs_cons (pg_name (i := 3) sc_breaks.nd rfl (.inl rfl)) (pgs_cons (pg_name (i := 4) sc_breaks.nd rfl (.inl rfl)) pgs_nil)))))
      (pss_one (ps_ret (pe_cmpR op_eq (pe_cmpR op_eq (pe_ix ix_tup (pv 0) (pv 2) (fun _ _ => rfl)) (pe_ix ix_tup (pv 0) (pv 3) (fun _ _ => rfl)) (nomark _)) (pe_cmpR op_eq (pv 4) pe_str (nomark _)) (nomark _))))), ?_⟩
    refine ⟨.ref b, rfl, b, _, rfl, SqT.of hb, rfl, _, _, rfl, _, _, rfl, _, _, rfl, rfl, ?_⟩
    refine ⟨.ref a, rfl, .int t.one, rfl, a, _, t.one, _, rfl, rfl, SqT.of ha, atI_sd ok.1 ok.2.1, .ref a, rfl, .int t.other, rfl, a, _, t.other, _, rfl, rfl, SqT.of ha, atI_sd ok.2.2.1 ok.2.2.2.1, rfl, .str (kindS t.foe), rfl, rfl, rfl, ?_⟩
    rw [eq_brk]
    exact q
theorem ok_broken_by {f : Addr} {fd : FuncData} (F : Fun K "broken_by" "broken_by" s_broken_by f fd) (M : Free mg) (me : mg "enumerate" = none) (D1 : Df P w K mg base 1 "breaks" ["sides", "tie"] spBreaks) : FnOk P w K mg base CX0 2 f fd ["web", "sides"] spBroken := by
  obtain ⟨f1, fd1, G1, g1, k1, b1⟩ := D1
  refine F.ok sc_broken_by (fun vs H Q E h => ?_) (fun cdv A outer s H vs Q E hr h => ?_)
  · obtain ⟨v, a, n, ts, ss, rfl, _⟩ := h
    rfl
  · obtain ⟨v, a, n, ts, ss, rfl, ⟨wa, wb, us, rfl, hwa, hwb, hp⟩, ok, ha, hl, q⟩ := h
    refine ⟨_, (pss_one (ps_ret (pe_callTy call_tuple_of (by rfl) M.tuple (by decide +kernel) (pa_cons (pe_lc (own := [("number", 2), ("tie", 3)]) (g := gTup K 2 (gCons (gName 2) (gCons (gName 3) gNil))) (te := tVar 2) rfl sc_broken_by.nd (pi_enumT (by rfl) me (pa_cons (pe_ix ix_tup (pv 0) pe_int (fun _ _ => rfl)) pa_nil)) (blkOk_by (N := N_broken_by) (sc := defScope s_broken_by) (own := [("number", 2), ("tie", 3)]) (by decide +kernel)) (fun _ _ _ _ _ => (pg_tup rfl (pgs_cons (pg_name (i := 2) sc_broken_by.nd rfl (.inl rfl)) (pgs_cons (pg_name (i := 3) sc_broken_by.nd rfl (.inl rfl)) pgs_nil)))) (fun _ _ _ _ _ => (pts_one (pt_val (pe_call G1 hr (by rfl) g1 k1 b1 .nil pass0 (pa_cons (pv 1) (pa_cons (pv 3) pa_nil)))))) (fun _ _ _ _ _ => (pv 2))) pa_nil)))), ?_⟩
    have hlen : us.length = ts.length := Paired.length hp
    have few := ok.few
    refine ⟨.ref wa, rfl, wa, _, 1, .ref wb, rfl, rfl, SqT.of hwa, rfl, wb, us, rfl, SqT.of hwb, fun Z nZ => ?_⟩
    refine lc_it (walk_enumT (xs := us)) (fun i H' => H' Z = some (.lst ((badTo ss ts i).map V.int)) ∧ Same H H') ⟨upd_same, same_new nZ⟩ (fun i H' _ h => SqT.of (h.2 _ _ hwb)) ?_ ?_
    · rintro i x H1 H2 hi ⟨hZ, s1⟩ ⟨T, x1, y, rfl, nT, rfl, e1, e2⟩
      obtain rfl : V.int (i : Nat) = x1 := Option.some.inj e1
      obtain ⟨t, et, c, rfl, hc⟩ := Paired.at hp e2
      have okt := ok.ok t (List.mem_of_getElem? et)
      have s2 := s1.trans (same_new (o := .tup [.int (i : Nat), .ref c]) nT)
      have hZ2 := same_new (o := .tup [.int (i : Nat), .ref c]) nT _ _ hZ
      refine ⟨T, _, rfl, SqT.of upd_same, rfl, _, _, rfl, _, _, rfl, rfl, rfl, .ref a, rfl, .ref c, rfl, a, c, ss, t, rfl, s2 _ _ ha, s2 _ _ hc, by rw [hl]; exact okt, _, rfl, ?_⟩
      have et2 := tieAt_of et
      have lb := badTo_len ss ts i
      rw [badTo_succ, et2, List.map_append]
      by_cases hb : brk ss t = true
      · rw [hb]
        exact ⟨.int i, rfl, _, hZ2, by rw [List.length_map]; exact small1000 (by omega), upd_same, fun b o e => by rw [upd_ne (ne_of_none e nZ)]; exact s2 b o e⟩
      · rw [Bool.not_eq_true] at hb
        rw [hb]
        simp only [Bool.false_eq_true, if_false, List.map_nil, List.append_nil]
        exact ⟨hZ2, s2⟩
    · rintro H1 ⟨hZ, s1⟩
      rw [hlen] at hZ
      refine ⟨Z, _, rfl, .inl ⟨SqL.of hZ, fun r nr => ?_⟩⟩
      exact q r _ (s1.trans (same_new nr)) upd_same
end
/-! ### sides put over -/
def Bin (ss : List Int) : Prop := ∀ x ∈ ss, x = 0 ∨ x = 1
theorem sd_get {ss : List Int} {i : Int} (h0 : 0 ≤ i) (h1 : i < ss.length) : ∃ h : i.toNat < ss.length, sd ss i = ss[i.toNat] := by
  have h : i.toNat < ss.length := by omega
  refine ⟨h, ?_⟩
  unfold sd
  rw [List.getD_eq_getElem?_getD, List.getElem?_eq_getElem h]
  rfl
theorem sd_bin {ss : List Int} (b : Bin ss) {i : Int} (h0 : 0 ≤ i) (h1 : i < ss.length) : sd ss i = 0 ∨ sd ss i = 1 := by
  obtain ⟨h, e⟩ := sd_get h0 h1
  rw [e]
  exact b _ (List.getElem_mem h)
def over (ss : List Int) : List Int := ss.map fun s => 1 - s
theorem sd_over {ss : List Int} {i : Int} (h0 : 0 ≤ i) (h1 : i < ss.length) : sd (over ss) i = 1 - sd ss i := by
  obtain ⟨h, e⟩ := sd_get h0 h1
  obtain ⟨h', e'⟩ := sd_get (ss := over ss) h0 (by unfold over; rw [List.length_map]; exact h1)
  rw [e, e']
  simp [over]
theorem brk_over {ss : List Int} {t : Tie} (ok : TieOk ss.length t) : brk (over ss) t = brk ss t := by
  unfold brk
  rw [sd_over ok.1 ok.2.1, sd_over ok.2.2.1 ok.2.2.2.1]
  congr 1
  rw [decide_eq_decide]
  omega
theorem tieAt_mem {ts : List Tie} {i : Int} (h : i ∈ rng ts.length) : tieAt ts i ∈ ts := by
  rw [mem_rng] at h
  have h' : i.toNat < ts.length := by omega
  unfold tieAt
  rw [List.getD_eq_getElem?_getD, List.getElem?_eq_getElem h']
  exact List.getElem_mem h'
theorem bad_over {ss : List Int} {ts : List Tie} (ok : ∀ t ∈ ts, TieOk ss.length t) : bad (over ss) ts = bad ss ts := by
  unfold bad badTo
  exact List.filter_congr fun i hi => brk_over (ok _ (tieAt_mem hi))
def moved (ss : List Int) (p : Int) : List Int := ss.set p.toNat (1 - sd ss p)
theorem moved_len (ss : List Int) (p : Int) : (moved ss p).length = ss.length := by unfold moved; rw [List.length_set]
theorem sd_moved {ss : List Int} {p i : Int} (p0 : 0 ≤ p) (p1 : p < ss.length) (h0 : 0 ≤ i) (h1 : i < ss.length) : sd (moved ss p) i = if i = p then 1 - sd ss p else sd ss i := by
  show (ss.set p.toNat (1 - sd ss p)).getD i.toNat 0 = _
  rw [List.getD_eq_getElem?_getD, List.getElem?_set]
  by_cases hp : i = p
  · subst hp
    rw [if_pos rfl, if_pos (by omega), if_pos rfl]
    rfl
  · rw [if_neg (by omega), if_neg hp]
    unfold sd
    rw [List.getD_eq_getElem?_getD]
theorem brk_moved {ss : List Int} (b : Bin ss) {t : Tie} {p : Int} (ok : TieOk ss.length t) (p0 : 0 ≤ p) (p1 : p < ss.length) : brk (moved ss p) t = (brk ss t != (t.one == p || t.other == p)) := by
  unfold brk
  rw [sd_moved p0 p1 ok.1 ok.2.1, sd_moved p0 p1 ok.2.2.1 ok.2.2.2.1]
  have b1 := sd_bin b ok.1 ok.2.1
  have b2 := sd_bin b ok.2.2.1 ok.2.2.2.1
  have ne := ok.2.2.2.2
  by_cases h1 : t.one = p
  · have h2 : t.other ≠ p := fun z => ne (h1.trans z.symm)
    rw [if_pos h1, if_neg h2, ← h1]
    have e1 : (t.one == t.one) = true := by simp
    rw [e1, Bool.true_or]
    rcases b1 with e | e <;> rcases b2 with e' | e' <;> rw [e, e'] <;> cases t.foe <;> rfl
  · rw [if_neg h1]
    have e1 : (t.one == p) = false := by simp [h1]
    rw [e1, Bool.false_or]
    by_cases h2 : t.other = p
    · rw [if_pos h2, ← h2]
      have e2 : (t.other == t.other) = true := by simp
      rw [e2]
      rcases b1 with e | e <;> rcases b2 with e' | e' <;> rw [e, e'] <;> cases t.foe <;> rfl
    · rw [if_neg h2]
      have e2 : (t.other == p) = false := by simp [h2]
      rw [e2, Bool.bne_false]
theorem moved_cut {ss : List Int} {p : Int} (p0 : 0 ≤ p) (p1 : p < ss.length) : cutV (ss.map V.int) none (some p) ++ [V.int (1 - sd ss p)] ++ cutV (ss.map V.int) (some (p + 1)) none = (moved ss p).map V.int := by
  obtain ⟨k, rfl⟩ : ∃ k : Nat, p = k := ⟨p.toNat, by omega⟩
  have hk : k < ss.length := by omega
  have e1 : cutV (ss.map V.int) none (some (k : Int)) = (ss.take k).map V.int := by
    unfold cutV
    rw [HT.sIx_none, HT.sIx_nat, List.length_map, Nat.min_eq_left (by omega), List.drop_zero, List.map_take]
    rfl
  have e2 : cutV (ss.map V.int) (some ((k : Int) + 1)) none = (ss.drop (k + 1)).map V.int := by
    unfold cutV
    rw [HT.sIx_none, show ((k : Int) + 1) = ((k + 1 : Nat) : Int) from by omega, HT.sIx_nat, List.length_map, Nat.min_eq_left (by omega), List.map_drop]
    exact List.take_of_length_le (by rw [List.length_drop, List.length_map]; omega)
  rw [e1, e2]
  unfold moved
  rw [Int.toNat_natCast, List.set_eq_take_append_cons_drop, if_pos hk]
  simp
theorem in_bad {ss : List Int} {ts : List Tie} {i : Nat} (hi : i < ts.length) : inV (.int (i : Int)) ((bad ss ts).map V.int) = brk ss (tieAt ts i) := by
  rw [Bool.eq_iff_iff]
  unfold inV
  rw [List.any_map, List.any_eq_true]
  unfold bad badTo
  constructor
  · rintro ⟨x, hx, e⟩
    have e' : (x == (i : Int)) = true := e
    rw [beq_iff_eq] at e'
    subst e'
    exact (List.mem_filter.mp hx).2
  · intro h
    exact ⟨i, List.mem_filter.mpr ⟨mem_rng.mpr (by omega), h⟩, by show ((i : Int) == (i : Int)) = true; simp⟩
theorem flat_ints (xs : List Int) : (xs.map V.int).all flatV = true := by
  rw [List.all_map, List.all_eq_true]
  intro x _
  rfl
theorem in_two (p x y : Int) : inV (.int p) [.int x, .int y] = (x == p || y == p) := by
  show ((x == p) || ((y == p) || false)) = _
  rw [Bool.or_false]
theorem ne_bl (a b : Bool) : (!decide (V.bl a = V.bl b)) = (a != b) := by cases a <;> cases b <;> rfl
/-! ### the fixed choice: the mathematics -/
def Cons (ss : List Int) (ts : List Tie) : Prop := ∀ t ∈ ts, brk ss t = false
def Odd (ts : List Tie) (n : Nat) : Prop := ∃ x : Int, (0 ≤ x ∧ x < n) ∧ RP ts x x true
def one? (ss : List Int) (i : Int) : Bool := decide (sd ss i = 1)
structure Told (ts : List Tie) (n : Nat) (ss : List Int) : Prop where
  len : ss.length = n
  bin : Bin ss
  each : ∀ i : Int, 0 ≤ i → i < n → ∃ m, leader ts m ∧ RP ts m i (one? ss i)
theorem brk_one {ss : List Int} (b : Bin ss) {t : Tie} (ok : TieOk ss.length t) : brk ss t = ((one? ss t.one ^^ one? ss t.other) ^^ t.foe) := by
  unfold brk one?
  have b1 := sd_bin b ok.1 ok.2.1
  have b2 := sd_bin b ok.2.2.1 ok.2.2.2.1
  rcases b1 with e | e <;> rcases b2 with e' | e' <;> rw [e, e'] <;> cases t.foe <;> decide
theorem cons_adj {ss : List Int} {ts : List Tie} (b : Bin ss) (ok : ∀ t ∈ ts, TieOk ss.length t) (h : Cons ss ts) {x y : Int} {k : Bool} (ad : Adj ts x y k) : (one? ss x ^^ one? ss y) = k := by
  obtain ⟨t, ht, rfl, h1⟩ := ad
  have e := h t ht
  rw [brk_one b (ok t ht)] at e
  rcases h1 with ⟨rfl, rfl⟩ | ⟨rfl, rfl⟩
  · revert e
    cases one? ss t.one <;> cases one? ss t.other <;> cases t.foe <;> simp
  · revert e
    cases one? ss t.one <;> cases one? ss t.other <;> cases t.foe <;> simp
theorem cons_walk {ss : List Int} {ts : List Tie} (b : Bin ss) (ok : ∀ t ∈ ts, TieOk ss.length t) (h : Cons ss ts) {x y : Int} {p : Bool} (r : RP ts x y p) : (one? ss x ^^ one? ss y) = p := by
  induction r with
  | nil => rw [Bool.xor_self]
  | step _ ad ih =>
    rw [← ih, ← cons_adj b ok h ad]
    rename_i u v p k _
    cases one? ss x <;> cases one? ss u <;> cases one? ss v <;> rfl
theorem cons_no_odd {ss : List Int} {ts : List Tie} {n : Nat} (b : Bin ss) (ok : ∀ t ∈ ts, TieOk ss.length t) (h : Cons ss ts) : ¬ Odd ts n := by
  rintro ⟨x, _, r⟩
  have := cons_walk b ok h r
  rw [Bool.xor_self] at this
  cases this
theorem leader_one {ts : List Tie} {m m' i : Int} (h : leader ts m) (h' : leader ts m') (r : Rch ts m i) (r' : Rch ts m' i) : m = m' := by
  have h1 := h m' (r.trans r'.symm)
  have h2 := h' m (r'.trans r.symm)
  omega
theorem told_unique {ts : List Tie} {n : Nat} {ss zs : List Int} (ok : ∀ t ∈ ts, TieOk n t) (h : Told ts n ss) (g : Told ts n zs) (c : Cons ss ts) : ss = zs := by
  refine List.ext_getElem? fun j => ?_
  by_cases hj : j < n
  · obtain ⟨m, l1, r1⟩ := h.each j (by omega) (by omega)
    obtain ⟨m', l2, r2⟩ := g.each j (by omega) (by omega)
    obtain rfl := leader_one l1 l2 ⟨_, r1⟩ ⟨_, r2⟩
    have w := cons_walk h.bin (by rw [h.len]; exact ok) c (r1.trans r2.symm)
    rw [Bool.xor_self] at w
    have e : one? ss j = one? zs j := by
      revert w
      cases one? ss (j : Int) <;> cases one? zs (j : Int) <;> simp
    have b1 := sd_bin h.bin (i := j) (by omega) (by rw [h.len]; omega)
    have b2 := sd_bin g.bin (i := j) (by omega) (by rw [g.len]; omega)
    obtain ⟨h1, e1⟩ := sd_get (ss := ss) (i := j) (by omega) (by rw [h.len]; omega)
    obtain ⟨h2, e2⟩ := sd_get (ss := zs) (i := j) (by omega) (by rw [g.len]; omega)
    have es : sd ss j = sd zs j := by
      unfold one? at e
      rcases b1 with x | x <;> rcases b2 with y | y <;> rw [x, y] at e ⊢ <;> revert e <;> decide
    rw [Int.toNat_natCast] at h1 h2
    rw [List.getElem?_eq_getElem h1, List.getElem?_eq_getElem h2]
    have : ss[j] = zs[j] := by
      have q1 : sd ss j = ss[j] := e1
      have q2 : sd zs j = zs[j] := e2
      rw [← q1, ← q2, es]
    rw [this]
  · rw [List.getElem?_eq_none (by rw [h.len]; omega), List.getElem?_eq_none (by rw [g.len]; omega)]
theorem told_odd {ts : List Tie} {n : Nat} {ss : List Int} (ok : ∀ t ∈ ts, TieOk n t) (h : Told ts n ss) {t : Tie} (ht : t ∈ ts) (hb : brk ss t = true) : Odd ts n := by
  have okt := ok t ht
  obtain ⟨m, l1, r1⟩ := h.each t.one okt.1 okt.2.1
  obtain ⟨m', l2, r2⟩ := h.each t.other okt.2.2.1 okt.2.2.2.1
  have ad : Adj ts t.one t.other t.foe := ⟨t, ht, rfl, .inl ⟨rfl, rfl⟩⟩
  obtain rfl := leader_one l1 l2 (Rch.trans ⟨_, r1⟩ (Rch.adj ad)) ⟨_, r2⟩
  have w := (r1.step ad).trans r2.symm
  refine ⟨m, Rch.rng ok ⟨okt.1, okt.2.1⟩ ⟨_, r1.symm⟩, ?_⟩
  have e : ((one? ss t.one ^^ t.foe) ^^ one? ss t.other) = true := by
    rw [brk_one h.bin (by rw [h.len]; exact okt)] at hb
    revert hb
    cases one? ss t.one <;> cases one? ss t.other <;> cases t.foe <;> simp
  rw [← e]
  exact w
theorem bad_nil {ss : List Int} {ts : List Tie} : bad ss ts = [] ↔ Cons ss ts := by
  unfold bad badTo Cons
  rw [List.filter_eq_nil_iff]
  constructor
  · intro h t ht
    obtain ⟨j, hj⟩ := List.getElem?_of_mem ht
    have hl := (List.getElem?_eq_some_iff.mp hj).1
    have := h j (mem_rng.mpr (by omega))
    rw [tieAt_of hj] at this
    simpa using this
  · intro h i hi
    rw [h _ (tieAt_mem hi)]
    decide
/-! ### groups by their least places, sides along the ties -/
theorem RP.mono {ts ts' : List Tie} (h : ∀ t ∈ ts, t ∈ ts') {a b : Int} {p : Bool} (r : RP ts a b p) : RP ts' a b p := by
  induction r with
  | nil => exact .nil
  | step _ ad ih =>
    obtain ⟨t, ht, e, q⟩ := ad
    exact ih.step ⟨t, h t ht, e, q⟩
def bit (x : Int) : Bool := decide (x = 1)
structure GS (ts : List Tie) (n : Nat) (g s : Int → Int) (good : Bool) : Prop where
  rp : ∀ i : Int, 0 ≤ i → i < n → RP ts (g i) i (bit (s i))
  le : ∀ i : Int, 0 ≤ i → i < n → 0 ≤ g i ∧ g i ≤ i
  bn : ∀ i : Int, 0 ≤ i → i < n → s i = 0 ∨ s i = 1
  eq : ∀ t ∈ ts, g t.one = g t.other
  yes : good = true → ∀ t ∈ ts, (bit (s t.one) ^^ bit (s t.other)) = t.foe
  no : good = false → Odd ts n
theorem GS.nil (n : Nat) : GS [] n (fun i => i) (fun _ => 0) true :=
  ⟨fun i _ _ => .nil, fun i h _ => ⟨h, Int.le_refl _⟩, fun _ _ _ => .inl rfl, fun t h => by simp at h, fun _ t h => by simp at h, fun h => by cases h⟩
theorem GS.same {ts : List Tie} {n : Nat} {g s : Int → Int} {good : Bool} (h : GS ts n g s good) {a b : Int} (r : Rch ts a b) : g a = g b :=
  r.ind (fun x => g a = g x) rfl fun x y k e ad => by
    obtain ⟨t, ht, _, q⟩ := ad
    have := h.eq t ht
    rcases q with ⟨rfl, rfl⟩ | ⟨rfl, rfl⟩
    · rw [e, this]
    · rw [e, this]
theorem GS.lead {ts : List Tie} {n : Nat} {g s : Int → Int} {good : Bool} (ok : ∀ t ∈ ts, TieOk n t) (h : GS ts n g s good) {i : Int} (h0 : 0 ≤ i) (h1 : i < n) : leader ts (g i) := fun q hq => by
  have e1 := h.same hq
  have e2 := h.same (⟨_, h.rp i h0 h1⟩ : Rch ts (g i) i)
  have r := hq.rng ok ⟨(h.le i h0 h1).1, by have := (h.le i h0 h1).2; omega⟩
  have := (h.le q r.1 r.2).2
  omega
def gNew (g : Int → Int) (low high : Int) : Int → Int := fun x => if low < high ∧ g x = high then low else g x
def sNew (g s : Int → Int) (low high turn : Int) : Int → Int := fun x => if low < high ∧ g x = high then (s x + turn) % 2 else s x
theorem bit_add {a b : Int} (ha : a = 0 ∨ a = 1) (hb : b = 0 ∨ b = 1) : bit ((a + b) % 2) = (bit a ^^ bit b) ∧ ((a + b) % 2 = 0 ∨ (a + b) % 2 = 1) := by
  rcases ha with rfl | rfl <;> rcases hb with rfl | rfl <;> decide
theorem GS.step {ts : List Tie} {n : Nat} {g s : Int → Int} {good : Bool} (h : GS ts n g s good) (okts : ∀ t ∈ ts, TieOk n t) {t : Tie} (ok : TieOk n t) {low high turn : Int} (hlow : low = min (g t.one) (g t.other)) (hhigh : high = max (g t.one) (g t.other)) (ht : turn = (s t.one + s t.other + (if t.foe = true then 1 else 0)) % 2) :
    GS (ts ++ [t]) n (gNew g low high) (sNew g s low high turn) (if low = high then good && decide (turn = 0) else good) := by
  have mono : ∀ x ∈ ts, x ∈ ts ++ [t] := fun x hx => List.mem_append_left _ hx
  have ad : Adj (ts ++ [t]) t.one t.other t.foe := ⟨t, by simp, rfl, .inl ⟨rfl, rfl⟩⟩
  have r1 := (h.rp t.one ok.1 ok.2.1).mono mono
  have r2 := (h.rp t.other ok.2.2.1 ok.2.2.2.1).mono mono
  have b1 := h.bn t.one ok.1 ok.2.1
  have b2 := h.bn t.other ok.2.2.1 ok.2.2.2.1
  have bt : bit turn = ((bit (s t.one) ^^ bit (s t.other)) ^^ t.foe) ∧ (turn = 0 ∨ turn = 1) := by
    rw [ht]
    rcases b1 with e | e <;> rcases b2 with e' | e' <;> rw [e, e'] <;> cases t.foe <;> decide
  have cross : low < high → RP (ts ++ [t]) low high (bit turn) := fun hl => by
    by_cases hc : g t.one ≤ g t.other
    · have e1 : low = g t.one := by omega
      have e2 : high = g t.other := by omega
      have w := (r1.step ad).trans r2.symm
      rw [e1, e2, bt.1]
      rw [show ((bit (s t.one) ^^ bit (s t.other)) ^^ t.foe) = ((bit (s t.one) ^^ t.foe) ^^ bit (s t.other)) from by cases bit (s t.one) <;> cases bit (s t.other) <;> cases t.foe <;> rfl]
      exact w
    · have e1 : low = g t.other := by omega
      have e2 : high = g t.one := by omega
      have w := (r2.step ad.symm).trans r1.symm
      rw [e1, e2, bt.1]
      rw [show ((bit (s t.one) ^^ bit (s t.other)) ^^ t.foe) = ((bit (s t.other) ^^ t.foe) ^^ bit (s t.one)) from by cases bit (s t.one) <;> cases bit (s t.other) <;> cases t.foe <;> rfl]
      exact w
  refine ⟨fun i h0 h1 => ?_, fun i h0 h1 => ?_, fun i h0 h1 => ?_, fun x hx => ?_, fun hg x hx => ?_, fun hg => ?_⟩
  · unfold gNew sNew
    by_cases hc : low < high ∧ g i = high
    · rw [if_pos hc, if_pos hc, (bit_add (h.bn i h0 h1) bt.2).1, Bool.xor_comm]
      have w := (h.rp i h0 h1).mono mono
      rw [hc.2] at w
      exact (cross hc.1).trans w
    · rw [if_neg hc, if_neg hc]
      exact (h.rp i h0 h1).mono mono
  · unfold gNew
    have l := h.le i h0 h1
    have l1 := h.le t.one ok.1 ok.2.1
    have l2 := h.le t.other ok.2.2.1 ok.2.2.2.1
    split
    · omega
    · exact l
  · unfold sNew
    split
    · exact (bit_add (h.bn i h0 h1) bt.2).2
    · exact h.bn i h0 h1
  · unfold gNew
    rcases List.mem_append.mp hx with hx | hx
    · rw [h.eq x hx]
    · rw [List.mem_singleton.mp hx]
      split <;> split <;> omega
  · rcases List.mem_append.mp hx with hx | hx
    · have hgood : good = true := by
        by_cases e : low = high
        · rw [if_pos e] at hg
          revert hg
          cases good <;> simp
        · rw [if_neg e] at hg
          exact hg
      have q := h.yes hgood x hx
      have e := h.eq x hx
      unfold sNew
      by_cases hc : low < high ∧ g x.one = high
      · have hc' : low < high ∧ g x.other = high := ⟨hc.1, by rw [← e]; exact hc.2⟩
        have okx := okts x hx
        rw [if_pos hc, if_pos hc', (bit_add (h.bn x.one okx.1 okx.2.1) bt.2).1, (bit_add (h.bn x.other okx.2.2.1 okx.2.2.2.1) bt.2).1, ← q]
        cases bit (s x.one) <;> cases bit (s x.other) <;> cases bit turn <;> rfl
      · have hc' : ¬ (low < high ∧ g x.other = high) := fun z => hc ⟨z.1, by rw [e]; exact z.2⟩
        rw [if_neg hc, if_neg hc']
        exact q
    · rw [List.mem_singleton.mp hx]
      unfold sNew
      by_cases e : low = high
      · rw [if_pos e] at hg
        have h0 : turn = 0 := by
          revert hg
          cases good <;> simp
        rw [if_neg (by omega), if_neg (by omega)]
        have z := bt.1
        rw [h0] at z
        revert z
        cases bit (s t.one) <;> cases bit (s t.other) <;> cases t.foe <;> decide
      · have hlt : low < high := by omega
        by_cases hc : g t.one ≤ g t.other
        · rw [if_neg (by omega), if_pos ⟨hlt, by omega⟩, (bit_add b2 bt.2).1, bt.1]
          cases bit (s t.one) <;> cases bit (s t.other) <;> cases t.foe <;> rfl
        · rw [if_pos ⟨hlt, by omega⟩, if_neg (by omega), (bit_add b1 bt.2).1, bt.1]
          cases bit (s t.one) <;> cases bit (s t.other) <;> cases t.foe <;> rfl
  · have old : good = false → Odd (ts ++ [t]) n := fun e => by
      obtain ⟨x, hx, r⟩ := h.no e
      exact ⟨x, hx, r.mono mono⟩
    by_cases e : low = high
    · rw [if_pos e] at hg
      cases hgood : good
      · exact old hgood
      · rw [hgood] at hg
        have h1 : turn = 1 := by
          rcases bt.2 with z | z
          · rw [z] at hg
            cases hg
          · exact z
        have eg : g t.one = g t.other := by omega
        have w := (r1.step ad).trans (eg ▸ r2).symm
        refine ⟨g t.one, ?_, ?_⟩
        · have := h.le t.one ok.1 ok.2.1
          have := ok.2.1
          omega
        · have z := bt.1
          rw [h1] at z
          rw [show ((bit (s t.one) ^^ t.foe) ^^ bit (s t.other)) = true from by
            revert z
            cases bit (s t.one) <;> cases bit (s t.other) <;> cases t.foe <;> decide] at w
          exact w
    · rw [if_neg e] at hg
      exact old hg
/-! ### d.update(e) -/
def rUpdate : V → List V → Hp → VK → Prop := fun x vs H Q => ∃ (a b : Addr) (kvs more : List (Key × V)), x = .ref a ∧ vs = [.ref b] ∧ H a = some (.dK kvs) ∧ H b = some (.dK more) ∧ a ≠ b ∧ kvs.length + more.length ≤ sizeLine ∧ Q .non (upd H a (.dK (mergeK kvs more)))
theorem mt_update {X : Cx} : MtR X "dict.update" rUpdate := by
  intro pins s σ H x vs v us Q I rx rv h
  obtain ⟨a, b, kvs, more, ex, ev, e1, e2, ne, hl, q⟩ := h
  subst ex
  subst ev
  obtain rfl : v = Value.ref a := rx
  obtain ⟨u, eu, r1⟩ := vals1 rv
  subst eu
  obtain rfl : u = Value.ref b := r1
  obtain ⟨z1, hd1, vs1, rel1, dd1⟩ := dk_of I.hok e1
  obtain ⟨z2, hd2, vs2, rel2, dd2⟩ := dk_of I.hok e2
  refine call_meetsIn PySem.F.slot_dict_update dd1.typeIs PySem.F.entry_dict_update (PySem.F.args_dict_update_2 _ _) (meets_dict_update (mixKind X.prog X.w) a b ne hd2) ⟨vs1, vs2, dd1, dd2, by rw [← rel1.length, ← rel2.length]; exact hl, fun h' dd' _ hs => ⟨.non, _, ?_, rfl, q⟩⟩
  have he : ∃ q, h'.get? a = some q := let ⟨q, _, _, hq, _⟩ := dd'; ⟨q, hq⟩
  exact d_write (t' := s.toks) I (by rw [e1]; exact True.intro) hs he (dk_new (Nat.le_trans (length_mergeK more kvs) hl) hd1 (rel2.merge rel1) dd')
/-! ### for each place its ties -/
theorem Same.mut {H H' : Hp} {a : Addr} {o : HO} (s : Same H H') (h : H a = none) : Same H (upd H' a o) := fun b x e => by
  rw [upd_ne (ne_of_none e h)]
  exact s b x e
abbrev Nb := Int × Bool
def NbV (H : Hp) (v : V) (p : Nb) : Prop := ∃ a, v = .ref a ∧ H a = some (.tup [.int p.1, .str (kindS p.2)])
theorem NbV.tk {H H' : Hp} (k : Tk H H') {v : V} {p : Nb} (h : NbV H v p) : NbV H' v p := by
  obtain ⟨a, rfl, e⟩ := h
  exact ⟨a, rfl, k _ _ e⟩
structure Around (H : Hp) (L : Addr) (As : List Addr) (N : Nat → List Nb) : Prop where
  at' : H L = some (.lst (As.map V.ref))
  nd : As.Nodup
  each : ∀ j a, As[j]? = some a → ∃ vs, H a = some (.lst vs) ∧ Paired (NbV H) vs (N j)
  out : L ∉ As
theorem Around.same {H H' : Hp} {L : Addr} {As : List Addr} {N : Nat → List Nb} (h : Around H L As N) (s : Same H H') : Around H' L As N :=
  ⟨s _ _ h.at', h.nd, fun j a e => by
    obtain ⟨vs, h1, h2⟩ := h.each j a e
    exact ⟨vs, s _ _ h1, Paired.mono (fun _ _ x => x.tk (Same.tk s)) h2⟩, h.out⟩
theorem Around.put {H : Hp} {L q : Addr} {As : List Addr} {N : Nat → List Nb} (h : Around H L As N) {j : Nat} {a : Addr} {vs : List V} {p : Nb} (ea : As[j]? = some a) (ev : H a = some (.lst vs)) (eq : NbV H (.ref q) p) :
    Around (upd H a (.lst (vs ++ [.ref q]))) L As (fun i => N i ++ if i = j then [p] else []) := by
  have k : Tk H (upd H a (.lst (vs ++ [.ref q]))) := tk_lst ev
  refine ⟨?_, h.nd, fun i b e => ?_, h.out⟩
  · have ne : L ≠ a := fun z => h.out (by rw [z]; exact List.mem_of_getElem? ea)
    rw [upd_ne ne]
    exact h.at'
  · obtain ⟨ws, h1, h2⟩ := h.each i b e
    by_cases hij : i = j
    · subst hij
      rw [ea] at e
      cases e
      rw [ev] at h1
      cases h1
      refine ⟨_, upd_same, ?_⟩
      rw [if_pos rfl]
      exact Paired.snoc (Paired.mono (fun _ _ x => x.tk k) h2) (eq.tk k)
    · have ne : b ≠ a := fun z => hij (by
        subst z
        exact (List.getElem?_inj (List.getElem?_eq_some_iff.mp e).1 h.nd).mp (e.trans ea.symm))
      refine ⟨ws, by rw [upd_ne ne]; exact h1, ?_⟩
      rw [if_neg hij, List.append_nil]
      exact Paired.mono (fun _ _ x => x.tk k) h2
def nb1 (t : Tie) (i : Int) : List Nb := (if i = t.one then [(t.other, t.foe)] else []) ++ (if i = t.other then [(t.one, t.foe)] else [])
def nbs (ts : List Tie) (i : Int) : List Nb := ts.flatMap fun t => nb1 t i
theorem nbs_snoc (ts : List Tie) (t : Tie) (i : Int) : nbs (ts ++ [t]) i = nbs ts i ++ nb1 t i := by
  unfold nbs
  rw [List.flatMap_append]
  simp
theorem nb1_len (t : Tie) (i : Int) : (nb1 t i).length ≤ 2 := by
  unfold nb1
  rw [List.length_append]
  split <;> split <;> simp
theorem nbs_len (ts : List Tie) (i : Int) : (nbs ts i).length ≤ 2 * ts.length := by
  induction ts with
  | nil => simp [nbs]
  | cons t ts ih =>
    have h := nb1_len t i
    unfold nbs at ih ⊢
    rw [List.flatMap_cons, List.length_append, List.length_cons]
    omega
theorem mem_nbs {ts : List Tie} {i : Int} {p : Nb} : p ∈ nbs ts i ↔ Adj ts i p.1 p.2 := by
  unfold nbs Adj nb1
  rw [List.mem_flatMap]
  constructor
  · rintro ⟨t, ht, h⟩
    refine ⟨t, ht, ?_⟩
    rcases List.mem_append.mp h with h | h
    · split at h
      · rename_i e
        rw [List.mem_singleton] at h
        subst h
        exact ⟨rfl, .inl ⟨e.symm, rfl⟩⟩
      · simp at h
    · split at h
      · rename_i e
        rw [List.mem_singleton] at h
        subst h
        exact ⟨rfl, .inr ⟨rfl, e.symm⟩⟩
      · simp at h
  · rintro ⟨t, ht, e, h⟩
    refine ⟨t, ht, List.mem_append.mpr ?_⟩
    obtain ⟨p1, p2⟩ := p
    simp only at e h
    rcases h with ⟨h1, h2⟩ | ⟨h1, h2⟩
    · left
      rw [if_pos h1.symm, List.mem_singleton, ← e, ← h2]
    · right
      rw [if_pos h2.symm, List.mem_singleton, ← e, ← h1]
/-- the list that neighbours tells -/
def AroundAt (H : Hp) (v : V) (n : Int) (ts : List Tie) : Prop := ∃ L As, v = .ref L ∧ (As.length : Int) = n ∧ Around H L As (fun j => nbs ts j)
theorem AroundAt.same {H H' : Hp} {v : V} {n : Int} {ts : List Tie} (h : AroundAt H v n ts) (s : Same H H') : AroundAt H' v n ts := by
  obtain ⟨L, As, rfl, h1, h2⟩ := h
  exact ⟨L, As, rfl, h1, h2.same s⟩
def spNeighbours : Sp := fun vs H Q _ => ∃ (v : V) (n : Int) (ts : List Tie), vs = [v] ∧ WebAt H v n ts ∧ WebOk n ts ∧
  ∀ v' H', AroundAt H' v' n ts → Same H H' → Q v' H'
section
variable {P : Program} {w : World} {K : PySem.W.Frag} {mg : Str → Option Value} {base : Heap}
theorem ok_neighbours {f : Addr} {fd : FuncData} (F : Fun K "neighbours" "neighbours" s_neighbours f fd) (M : Free mg) : FnOk P w K mg base CX0 1 f fd ["web"] spNeighbours := by
  refine F.ok sc_neighbours (fun vs H Q E h => ?_) (fun cdv A outer s H vs Q E hr h => ?_)
  · obtain ⟨v, n, ts, rfl, _⟩ := h
    rfl
  · obtain ⟨v, n, ts, rfl, ⟨a, b, us, rfl, ha, hb, hp⟩, ok, q⟩ := h
    refine ⟨_, (pss_cons (ps_asg (pv 0) (pg_tup rfl (pgs_cons (pg_name (i := 1) sc_neighbours.nd rfl (.inl rfl)) (pgs_cons (pg_name (i := 2) sc_neighbours.nd rfl (.inl rfl)) pgs_nil))))
      (pss_cons (ps_setLc (i := 3) (own := [("place", 4)]) (g := gName 4) (tt := tYes) rfl sc_neighbours.nd rfl rfl (sw_true rfl rfl rfl (by decide +kernel)) (pi_range1 (by rfl) M.range (pa_cons (pv 1) pa_nil)) (blkOk_by (N := N_neighbours) (sc := defScope s_neighbours) (own := [("place", 4)]) (by decide +kernel)) (fun _ _ _ _ _ => (pg_name (i := 4) sc_neighbours.nd rfl (.inl rfl))) (fun _ _ _ _ _ => pts_nil) (fun _ _ _ _ _ => (pe_lst pa_nil)))
      (pss_cons (ps_for PassesOwn.never rfl (pi_tup (pv 2)) (pg_tup rfl (pgs_cons (pg_name (i := 5) sc_neighbours.nd rfl (.inl rfl)) (pgs_cons (pg_name (i := 6) sc_neighbours.nd rfl (.inl rfl)) (pgs_cons (pg_name (i := 7) sc_neighbours.nd rfl (.inl rfl)) pgs_nil))))
        (pss_cons (ps_expr (pe_bm PySem.F.plainAttrs_list PySem.F.slot_list_append PySem.F.type_list_append mt_append (pe_ix ix_list (pv 3) (pv 5) (fun _ _ => rfl)) (pa_cons (pe_tup (pa_cons (pv 6) (pa_cons (pv 7) pa_nil))) pa_nil)))
        (pss_one (ps_expr (pe_bm PySem.F.plainAttrs_list PySem.F.slot_list_append PySem.F.type_list_append mt_append (pe_ix ix_list (pv 3) (pv 6) (fun _ _ => rfl)) (pa_cons (pe_tup (pa_cons (pv 5) (pa_cons (pv 7) pa_nil))) pa_nil))))))
      (pss_one (ps_ret (pv 3)))))), ?_⟩
    obtain ⟨k, rfl⟩ : ∃ k : Nat, n = k := ⟨n.toNat, by have := ok.lo; omega⟩
    have hk : k ≤ 40 := by have := ok.hi; omega
    -- many, ties = web
    refine ⟨.ref a, rfl, a, _, rfl, SqT.of ha, rfl, _, _, rfl, _, _, rfl, rfl, ?_⟩
    -- around
    refine ⟨.int k, rfl, k, rfl, by omega, by omega, fun L nL => ?_⟩
    rw [Int.toNat_natCast]
    refine lc_range (lo := 0) (n := k) (fun i H' => ∃ As : List Addr, As.length = i ∧ Around H' L As (fun _ => []) ∧ (∀ x ∈ As, H x = none) ∧ Same H H') ?_ ?_ ?_
    · exact ⟨[], rfl, ⟨upd_same, List.nodup_nil, fun j a e => by simp at e, by simp⟩, fun x hx => by simp at hx, same_new nL⟩
    · rintro i H1 hi ⟨As, hl, hA, hf, s1⟩
      refine ⟨rfl, Nat.zero_le _, fun p np => ?_⟩
      have hA2 := hA.same (same_new (o := .lst []) np)
      refine ⟨_, hA2.at', by rw [List.length_map]; exact small1000 (by omega), As ++ [p], by rw [List.length_append, hl]; rfl, ?_, fun x hx => ?_, Same.mut (s1.trans (same_new np)) nL⟩
      · have npA : p ∉ As := fun z => by
          obtain ⟨j, hj⟩ := List.getElem?_of_mem z
          obtain ⟨vs, h1, _⟩ := hA.each j p hj
          rw [np] at h1
          cases h1
        have npL : p ≠ L := fun z => by
          have h1 := hA.at'
          rw [← z, np] at h1
          cases h1
        refine ⟨by rw [upd_same, List.map_append]; rfl, ?_, fun j x e => ?_, ?_⟩
        · rw [List.nodup_append]
          refine ⟨hA.nd, by simp, fun x hx y hy z => ?_⟩
          rw [List.mem_singleton] at hy
          subst hy
          subst z
          exact npA hx
        · have hx : x ≠ L := fun z => by
            subst z
            rcases List.mem_append.mp (List.mem_of_getElem? e) with h | h
            · exact hA.out h
            · exact npL (List.mem_singleton.mp h).symm
          rcases List.mem_append.mp (List.mem_of_getElem? e) with h | h
          · obtain ⟨j2, e2⟩ := List.getElem?_of_mem h
            obtain ⟨vs, h1, h2⟩ := hA2.each j2 x e2
            cases h2
            exact ⟨[], by rw [upd_ne hx]; exact h1, .nil⟩
          · rw [List.mem_singleton] at h
            subst h
            exact ⟨[], by rw [upd_ne hx]; exact upd_same, .nil⟩
        · intro z
          rcases List.mem_append.mp z with h | h
          · exact hA.out h
          · exact npL (List.mem_singleton.mp h).symm
      · rcases List.mem_append.mp hx with h | h
        · exact hf x h
        · rw [List.mem_singleton.mp h]
          exact s1.free np
    rintro H0 ⟨As, hl, hA, hf, s0⟩
    have nLH : H L = none := nL
    -- the loop
    refine ⟨.ref b, rfl, b, rfl, ⟨_, SqT.of (s0 _ _ hb)⟩, ?_⟩
    have hlen : us.length = ts.length := Paired.length hp
    refine for_tup (xs := us) (fun i σ' H' => ∃ y5 y6 y7 : Option V, σ' = [some (.ref a), some (.int k), some (.ref b), some (.ref L), none, y5, y6, y7] ∧ Around H' L As (fun j => nbs (ts.take i) j) ∧ Same H H') ?_ ?_ ?_ ?_
    · exact ⟨none, none, none, rfl, hA, s0⟩
    · rintro i σ' H' _ ⟨y5, y6, y7, rfl, hA1, s1⟩
      exact SqT.of (s1 _ _ hb)
    · rintro i x σ' H1 ex ⟨y5, y6, y7, rfl, hA1, s1⟩
      obtain ⟨t, et, c, rfl, hc⟩ := Paired.at hp ex
      have okt := ok.ok t (List.mem_of_getElem? et)
      have hti := (List.getElem?_eq_some_iff.mp et).1
      have etk : ts.take (i + 1) = ts.take i ++ [t] := by
        rw [List.take_add_one, et]
        rfl
      have hts := ok.few
      refine ⟨c, _, rfl, SqT.of (s1 _ _ hc), rfl, _, _, rfl, _, _, rfl, _, _, rfl, rfl, ?_⟩
      obtain ⟨o1, o2, o3, o4, o5⟩ := okt
      -- the first
      obtain ⟨x1, e1, e1'⟩ := getI (xs := As) o1 (by omega)
      obtain ⟨vs1, g1, p1⟩ := hA1.each _ _ e1'
      have l1 := Paired.length p1
      have l1' := nbs_len (ts.take i) (t.one.toNat : Int)
      rw [List.length_take] at l1'
      refine ⟨.ref L, rfl, .int t.one, rfl, L, _, t.one, .ref x1, rfl, rfl, SqL.of hA1.at', ?_, .inl ⟨rfl, _, SqL.of g1⟩, .int t.other, rfl, .str (kindS t.foe), rfl, by show 2 ≤ sizeLine; decide, fun p np => ?_⟩
      · exact atI_of o1 (by rw [List.getElem?_map, e1']; rfl)
      have A2 := hA1.same (same_new (o := .tup [.int t.other, .str (kindS t.foe)]) np)
      refine ⟨x1, vs1, _, rfl, rfl, same_new np _ _ g1, small1000 (by omega), ?_⟩
      have A3 := A2.put e1' (same_new np _ _ g1) (q := p) (p := (t.other, t.foe)) ⟨p, rfl, upd_same⟩
      have s3 : Same H (upd (upd H1 p (.tup [.int t.other, .str (kindS t.foe)])) x1 (.lst (vs1 ++ [.ref p]))) := Same.mut (s1.trans (same_new np)) (hf _ (List.mem_of_getElem? e1'))
      generalize upd (upd H1 p (.tup [.int t.other, .str (kindS t.foe)])) x1 (.lst (vs1 ++ [.ref p])) = H3 at A3 s3
      -- the second
      obtain ⟨x2, e2, e2'⟩ := getI (xs := As) o3 (by omega)
      obtain ⟨vs2, g2, p2⟩ := A3.each _ _ e2'
      have l2 := Paired.length p2
      rw [List.length_append] at l2
      have l2' := nbs_len (ts.take i) (t.other.toNat : Int)
      rw [List.length_take] at l2'
      have l2'' : (if t.other.toNat = t.one.toNat then [(t.other, t.foe)] else []).length ≤ 1 := by split <;> simp
      refine ⟨.ref L, rfl, .int t.other, rfl, L, _, t.other, .ref x2, rfl, rfl, SqL.of A3.at', ?_, .inl ⟨rfl, _, SqL.of g2⟩, .int t.one, rfl, .str (kindS t.foe), rfl, by show 2 ≤ sizeLine; decide, fun p' np' => ?_⟩
      · exact atI_of o3 (by rw [List.getElem?_map, e2']; rfl)
      have A4 := A3.same (same_new (o := .tup [.int t.one, .str (kindS t.foe)]) np')
      refine ⟨x2, vs2, _, rfl, rfl, same_new np' _ _ g2, small1000 (by omega), ?_⟩
      have A5 := A4.put e2' (same_new np' _ _ g2) (q := p') (p := (t.one, t.foe)) ⟨p', rfl, upd_same⟩
      refine ⟨_, _, _, rfl, ?_, Same.mut (s3.trans (same_new np')) (hf _ (List.mem_of_getElem? e2'))⟩
      refine ⟨A5.at', A5.nd, fun j z ez => ?_, A5.out⟩
      obtain ⟨ws, w1, w2⟩ := A5.each j z ez
      refine ⟨ws, w1, ?_⟩
      rw [etk, nbs_snoc]
      have en : nb1 t j = (if j = t.one.toNat then [(t.other, t.foe)] else []) ++ (if j = t.other.toNat then [(t.one, t.foe)] else []) := by
        unfold nb1
        congr 1
        · by_cases h : j = t.one.toNat
          · rw [if_pos h, if_pos (by omega)]
          · rw [if_neg h, if_neg (by omega)]
        · by_cases h : j = t.other.toNat
          · rw [if_pos h, if_pos (by omega)]
          · rw [if_neg h, if_neg (by omega)]
      rw [en, ← List.append_assoc]
      exact w2
    · rintro σ' H1 ⟨y5, y6, y7, rfl, hA1, s1⟩
      rw [hlen, List.take_length] at hA1
      exact ⟨.ref L, rfl, q _ _ ⟨L, As, rfl, by rw [hl], hA1⟩ s1⟩
end
/-! ### the places that ties lead to -/
def sideI (b : Bool) : Int := if b then 1 else 0
def kvOf (ks : List Nb) : List (Key × V) := ks.map fun p => (Sum.inl p.1, V.int (sideI p.2))
theorem kvOf_none {z : Int} : ∀ {ks : List Nb}, z ∉ ks.map (·.1) → valV (kvOf ks) (Sum.inl z) = none
  | [], _ => rfl
  | p :: ks, h => by
    rw [List.map_cons, List.mem_cons, not_or] at h
    have e := kvOf_none (ks := ks) h.2
    have h1 := h.1
    unfold kvOf at e ⊢
    rw [List.map_cons, valV_neg (fun z => h1 (Sum.inl.inj z).symm)]
    exact e
theorem kvOf_some {z : Int} {b : Bool} : ∀ {ks : List Nb}, (ks.map (·.1)).Nodup → (z, b) ∈ ks → valV (kvOf ks) (Sum.inl z) = some (.int (sideI b))
  | p :: ks, nd, h => by
    rw [List.map_cons, List.nodup_cons] at nd
    rcases List.mem_cons.mp h with e | e
    · subst e
      unfold kvOf
      rw [List.map_cons, valV_pos rfl]
    · have q := kvOf_some (ks := ks) nd.2 e
      have ne : p.1 ≠ z := fun y => nd.1 (by rw [y]; exact List.mem_map.mpr ⟨_, e, rfl⟩)
      unfold kvOf at q ⊢
      rw [List.map_cons, valV_neg (fun y => ne (Sum.inl.inj y))]
      exact q
theorem kvOf_put {ks : List Nb} {z : Int} {b : Bool} (h : z ∉ ks.map (·.1)) : putK (kvOf ks) (Sum.inl z) (.int (sideI b)) = kvOf (ks ++ [(z, b)]) := by
  unfold putK
  rw [if_neg]
  · unfold kvOf
    rw [List.map_append]
    rfl
  · intro g
    rw [List.any_eq_true] at g
    obtain ⟨kv, h1, h2⟩ := g
    unfold kvOf at h1
    rw [List.mem_map] at h1
    obtain ⟨p, hp, rfl⟩ := h1
    exact h (List.mem_map.mpr ⟨p, hp, Sum.inl.inj (of_decide_eq_true h2)⟩)
theorem kvOf_len (ks : List Nb) : (kvOf ks).length = ks.length := by unfold kvOf; rw [List.length_map]
theorem pigeon : ∀ (n : Nat) (xs : List Int), xs.Nodup → (∀ x ∈ xs, 0 ≤ x ∧ x < n) → xs.length ≤ n
  | 0, xs, _, h => by
    cases xs with
    | nil => simp
    | cons x r =>
      have := h x (by simp)
      omega
  | n + 1, xs, nd, h => by
    have q := pigeon n (xs.erase (n : Int)) (nd.erase _) fun x hx => by
      have h1 := h x (List.mem_of_mem_erase hx)
      have h2 : x ≠ n := (List.Nodup.mem_erase_iff nd).mp hx |>.1
      omega
    have l := List.length_erase (a := (n : Int)) (l := xs)
    split at l
    · omega
    · omega
structure SF (ts : List Tie) (s : Int) (ks : List Nb) (wl ex : List Int) : Prop where
  nd : (ks.map (·.1)).Nodup
  rp : ∀ p ∈ ks, RP ts s p.1 p.2
  st : s ∈ ks.map (·.1)
  sub : ∀ x ∈ wl, x ∈ ks.map (·.1)
  le : wl.length ≤ ks.length
  cl : ∀ x ∈ ks.map (·.1), x ∉ wl → x ∉ ex → ∀ y k, Adj ts x y k → y ∈ ks.map (·.1)
theorem SF.keys {ts : List Tie} {s : Int} {ks : List Nb} {wl ex : List Int} (h : SF ts s ks wl ex) {x : Int} (hx : x ∈ ks.map (·.1)) : ∃ b, (x, b) ∈ ks ∧ RP ts s x b := by
  obtain ⟨p, hp, rfl⟩ := List.mem_map.mp hx
  exact ⟨p.2, hp, h.rp p hp⟩
theorem SF.few {ts : List Tie} {n : Nat} {s : Int} {ks : List Nb} {wl ex : List Int} (h : SF ts s ks wl ex) (ok : ∀ t ∈ ts, TieOk n t) (hs : 0 ≤ s ∧ s < n) : ks.length ≤ n := by
  have q := pigeon n (ks.map (·.1)) h.nd fun x hx => by
    obtain ⟨b, _, hb⟩ := h.keys hx
    exact Rch.rng ok hs ⟨b, hb⟩
  rw [List.length_map] at q
  exact q
theorem SF.all {ts : List Tie} {s : Int} {ks : List Nb} (h : SF ts s ks [] []) (z : Int) : z ∈ ks.map (·.1) ↔ Rch ts s z := by
  constructor
  · intro hz
    obtain ⟨b, _, hb⟩ := h.keys hz
    exact ⟨b, hb⟩
  · intro hz
    exact hz.ind (fun x => x ∈ ks.map (·.1)) h.st fun x y k hx ad => h.cl x hx (by simp) (by simp) y k ad
theorem SF.pop {ts : List Tie} {s p : Int} {ks : List Nb} {wl : List Int} (h : SF ts s ks (wl ++ [p]) []) : SF ts s ks wl [p] :=
  ⟨h.nd, h.rp, h.st, fun x hx => h.sub x (List.mem_append_left _ hx), by have := h.le; rw [List.length_append] at this; omega, fun x hx h1 h2 => h.cl x hx (fun z => by
    rcases List.mem_append.mp z with z | z
    · exact h1 z
    · exact h2 z) (by simp)⟩
theorem SF.push {ts : List Tie} {s p y : Int} {b f : Bool} {ks : List Nb} {wl : List Int} (h : SF ts s ks wl [p]) (hp : RP ts s p b) (ad : Adj ts p y f) (hy : y ∉ ks.map (·.1)) : SF ts s (ks ++ [(y, b ^^ f)]) (wl ++ [y]) [p] := by
  have em : (ks ++ [(y, b ^^ f)]).map (·.1) = ks.map (·.1) ++ [y] := by rw [List.map_append]; rfl
  refine ⟨?_, fun q hq => ?_, ?_, fun x hx => ?_, ?_, fun x hx h1 h2 z k hz => ?_⟩
  · rw [em, List.nodup_append]
    refine ⟨h.nd, by simp, fun x hx z hz e => ?_⟩
    rw [List.mem_singleton] at hz
    subst hz
    subst e
    exact hy hx
  · rcases List.mem_append.mp hq with q1 | q1
    · exact h.rp q q1
    · rw [List.mem_singleton] at q1
      subst q1
      exact hp.step ad
  · rw [em]
    exact List.mem_append_left _ h.st
  · rw [em]
    rcases List.mem_append.mp hx with q1 | q1
    · exact List.mem_append_left _ (h.sub x q1)
    · exact List.mem_append_right _ q1
  · rw [List.length_append, List.length_append]
    have := h.le
    simp
    omega
  · rw [em] at hx ⊢
    rcases List.mem_append.mp hx with q1 | q1
    · exact List.mem_append_left _ (h.cl x q1 (fun q2 => h1 (List.mem_append_left _ q2)) h2 z k hz)
    · exact absurd (List.mem_append_right _ q1) h1
theorem SF.done {ts : List Tie} {s p : Int} {ks : List Nb} {wl : List Int} (h : SF ts s ks wl [p]) (hp : ∀ q ∈ nbs ts p, q.1 ∈ ks.map (·.1)) : SF ts s ks wl [] :=
  ⟨h.nd, h.rp, h.st, h.sub, h.le, fun x hx h1 _ y k ad => by
    by_cases e : x = p
    · subst e
      exact hp (y, k) (mem_nbs.mpr ad)
    · exact h.cl x hx h1 (fun z => e (List.mem_singleton.mp z)) y k ad⟩
theorem side_xor (b f : Bool) : (if decide (V.str (kindS f) = V.str "friend") = true then sideI b else 1 - sideI b) = sideI (b ^^ f) := by
  cases f
  · cases b <;> rfl
  · cases b <;> rfl
theorem room1 {k : Nat} {A : PySem.Around} (r : Room k A) : A.units + 1 < cLine := by have := r.un; omega
structure SidesOf (ts : List Tie) (s : Int) (ks : List Nb) : Prop where
  nd : (ks.map (·.1)).Nodup
  rp : ∀ p ∈ ks, RP ts s p.1 p.2
  all : ∀ z, z ∈ ks.map (·.1) ↔ Rch ts s z
def spSidesFrom : Sp := fun vs H Q _ => ∃ (v : V) (n : Int) (s : Int) (ts : List Tie), vs = [.int s, v] ∧ AroundAt H v n ts ∧ WebOk n ts ∧ 0 ≤ s ∧ s < n ∧
  ∀ d ks H', H d = none → H' d = some (.dK (kvOf ks)) → Same H H' → SidesOf ts s ks → Q (.ref d) H'
section
variable {P : Program} {w : World} {K : PySem.W.Frag} {mg : Str → Option Value} {base : Heap}
theorem ok_sides_from {f : Addr} {fd : FuncData} (F : Fun K "sides_from" "sides_from" s_sides_from f fd) (M : Free mg) : FnOk P w K mg base CX0 1 f fd ["start", "around"] spSidesFrom := by
  refine F.ok sc_sides_from (fun vs H Q E h => ?_) (fun cdv A outer sh H vs Q E hr h => ?_)
  · obtain ⟨v, n, s, ts, rfl, _⟩ := h
    rfl
  · obtain ⟨v, n, s, ts, rfl, ⟨L, As, rfl, hl, hA⟩, ok, hs0, hs1, q⟩ := h
    have hu := room1 hr
    refine ⟨_, (pss_cons (ps_set (i := 2) sc_sides_from.nd rfl (.inl rfl) (pe_disp (pps_cons (pv 0) pe_int pps_nil) (by rfl) (by rfl) (fun z => by cases z) (by decide)))
      (pss_cons (ps_set (i := 3) sc_sides_from.nd rfl (.inl rfl) (pe_lst (pa_cons (pv 0) pa_nil)))
      (pss_cons (ps_while PassesOwn.never (pt_truth (pv 3) (by intro _; rfl))
        (pss_cons (ps_set (i := 4) sc_sides_from.nd rfl (.inl rfl) (pe_bm0 PySem.F.plainAttrs_list PySem.F.slot_list_pop PySem.F.type_list_pop mt_pop (pv 3)))
        (pss_one (ps_for PassesOwn.never rfl (pi_list (pe_ix ix_list (pv 1) (pv 4) (fun _ _ => rfl))) (pg_tup rfl (pgs_cons (pg_name (i := 5) sc_sides_from.nd rfl (.inl rfl)) (pgs_cons (pg_name (i := 6) sc_sides_from.nd rfl (.inl rfl)) pgs_nil)))
          (pss_one (ps_if (pt_cmp (pc_dnotin hu (pv 5) (pv 2)))
            (Evl.pss_cut (ps_dput hu (pv 2) (pv 5) (pe_ifExp (pt_cmpR op_eq (pv 6) pe_str (nomark _)) (pe_dget hu (pv 2) (pv 4) (fun _ _ => rfl)) (pe_op op_sub pe_int (pe_dget hu (pv 2) (pv 4) (fun _ _ => rfl)))) rfl)
            (pss_one (ps_expr (pe_bm PySem.F.plainAttrs_list PySem.F.slot_list_append PySem.F.type_list_append mt_append (pv 3) (pa_cons (pv 5) pa_nil)))))
            pss_nil))))))
      (pss_one (ps_ret (pv 2)))))), ?_⟩
    obtain ⟨k, rfl⟩ : ∃ k : Nat, n = k := ⟨n.toNat, by have := ok.lo; omega⟩
    have hk : k ≤ 40 := by have := ok.hi; omega
    have hts := ok.few
    -- sides
    refine fun d nd => ⟨.int s, rfl, upd_same, [(Sum.inl s, .int 0)], rfl, (by show 1 ≤ 15; decide), ?_⟩
    have eH : upd (upd H d (.dK [])) d (.dK (mergeK [] [(Sum.inl s, .int 0)])) = upd H d (.dK (kvOf [(s, false)])) := by
      funext b
      by_cases hb : b = d
      · subst hb
        rw [upd_same, upd_same]
        rfl
      · rw [upd_ne hb, upd_ne hb, upd_ne hb]
    rw [eH]
    -- waiting
    refine ⟨.int s, rfl, by show 1 ≤ sizeLine; decide, fun W nW => ?_⟩
    have hdW : W ≠ d := (ne_of_none upd_same nW).symm
    have nWH : H W = none := by rw [upd_ne hdW] at nW; exact nW
    refine ⟨fun m σ' H' => ∃ (y4 y5 y6 : Option V) (ks : List Nb) (wl : List Int), σ' = [some (.int s), some (.ref L), some (.ref d), some (.ref W), y4, y5, y6] ∧ H' d = some (.dK (kvOf ks)) ∧ H' W = some (.lst (wl.map V.int)) ∧ Same H H' ∧ SF ts s ks wl [] ∧ m = 2 * (k - ks.length) + wl.length, ⟨_, none, none, none, [(s, false)], [s], rfl, ?_, upd_same, Same.mut (same_new nd) nWH, ?_, rfl⟩, ?_⟩
    · rw [upd_ne (Ne.symm hdW)]
      exact upd_same
    · exact ⟨by simp, fun p hp => by rw [List.mem_singleton.mp hp]; exact .nil, by simp, fun x hx => hx, Nat.le_refl _, fun x hx h1 => absurd hx h1⟩
    · rintro m σ' H1 ⟨y4, y5, y6, ks, wl, rfl, hd, hW, s1, sf, hm⟩
      refine ⟨.ref W, rfl, _, .inl ⟨_, SqL.of hW, rfl⟩, ?_⟩
      refine ite2 (fun hb => ?_) (fun hb => ?_)
      · -- a place
        cases hwl : wl with
        | nil => rw [hwl] at hb; cases hb
        | cons z zs =>
        obtain ⟨ys, p, e⟩ : ∃ (ys : List Int) (p : Int), z :: zs = ys ++ [p] := ⟨(z :: zs).dropLast, (z :: zs).getLast (by simp), (List.dropLast_concat_getLast (by simp)).symm⟩
        rw [hwl, e] at hW sf hm
        have hpk := sf.sub p (by simp)
        obtain ⟨b, hb1, hb2⟩ := sf.keys hpk
        have hpr := Rch.rng ok.ok ⟨hs0, hs1⟩ ⟨b, hb2⟩
        have sp := sf.pop
        have e3 : ((ys ++ [p]).map V.int).dropLast = ys.map V.int := by simp
        refine ⟨fun σ' H' => ∃ m', m' < m ∧ ∃ (y4 y5 y6 : Option V) (ks : List Nb) (wl : List Int), σ' = [some (.int s), some (.ref L), some (.ref d), some (.ref W), y4, y5, y6] ∧ H' d = some (.dK (kvOf ks)) ∧ H' W = some (.lst (wl.map V.int)) ∧ Same H H' ∧ SF ts s ks wl [] ∧ m' = 2 * (k - ks.length) + wl.length, fun _ _ h => h, ?_⟩
        refine ⟨.ref W, rfl, .inl ⟨rfl, _, SqL.of hW⟩, W, _, .int p, rfl, rfl, hW, by simp, ?_⟩
        rw [e3]
        have hd2 : (upd H1 W (.lst (ys.map V.int))) d = some (.dK (kvOf ks)) := by rw [upd_ne (Ne.symm hdW)]; exact hd
        have hW2 : (upd H1 W (.lst (ys.map V.int))) W = some (.lst (ys.map V.int)) := upd_same
        have s2 : Same H (upd H1 W (.lst (ys.map V.int))) := Same.mut s1 nWH
        generalize upd H1 W (.lst (ys.map V.int)) = H2 at hd2 hW2 s2
        have A2 := hA.same s2
        obtain ⟨x, ex, ex'⟩ := getI (xs := As) hpr.1 (by omega)
        obtain ⟨us, g, pr⟩ := A2.each _ _ ex'
        have epk : ((p.toNat : Nat) : Int) = p := by omega
        rw [epk] at pr
        refine ⟨.ref L, rfl, .int p, rfl, L, _, p, .ref x, rfl, rfl, SqL.of A2.at', atI_of hpr.1 (by rw [List.getElem?_map, ex']; rfl), x, rfl, ⟨_, SqL.of g⟩, ?_⟩
        have gH : H x = some (.lst us) := by
          obtain ⟨us', g', _⟩ := hA.each _ _ ex'
          rw [s2 _ _ g'] at g
          cases g
          exact g'
        refine for_list (xs := us) (fun i σ' H' => ∃ (y5 y6 : Option V) (ks : List Nb) (wl : List Int), σ' = [some (.int s), some (.ref L), some (.ref d), some (.ref W), some (.int p), y5, y6] ∧ H' d = some (.dK (kvOf ks)) ∧ H' W = some (.lst (wl.map V.int)) ∧ Same H H' ∧ SF ts s ks wl [p] ∧ (p, b) ∈ ks ∧ (∀ q ∈ (nbs ts p).take i, q.1 ∈ ks.map (·.1)) ∧ 2 * (k - ks.length) + wl.length < m) ?_ ?_ ?_ ?_
        · exact ⟨y5, y6, ks, ys, rfl, hd2, hW2, s2, sp, hb1, fun q hq => by simp at hq, by rw [hm, List.length_append]; simp⟩
        · rintro i σ' H' _ ⟨y5, y6, ks, wl, rfl, _, _, s3, _⟩
          exact SqL.of (s3 _ _ gH)
        · rintro i u σ' H3 eu ⟨y5, y6, ks, wl, rfl, hd3, hW3, s3, sf3, hb3, hdn, hlt⟩
          have A3 := hA.same s3
          obtain ⟨us', g', pr'⟩ := A3.each _ _ ex'
          rw [s3 _ _ gH] at g'
          cases g'
          rw [epk] at pr'
          obtain ⟨⟨y, fo⟩, ey, c, rfl, hc⟩ := Paired.at pr' eu
          have ady := mem_nbs.mp (List.mem_of_getElem? ey)
          have few := sf3.few ok.ok ⟨hs0, hs1⟩
          have etk : (nbs ts p).take (i + 1) = (nbs ts p).take i ++ [(y, fo)] := by
            rw [List.take_add_one, ey]
            rfl
          refine ⟨c, _, rfl, SqT.of hc, rfl, _, _, rfl, _, _, rfl, rfl, ?_⟩
          refine ⟨.int y, rfl, .ref d, rfl, d, _, rfl, DGet.k (k := Sum.inl y) hd3, _, rfl, ?_⟩
          by_cases hy : y ∈ ks.map (·.1)
          · obtain ⟨yb, yb1, _⟩ := sf3.keys hy
            rw [kvOf_some sf3.nd yb1]
            refine ⟨_, _, ks, wl, rfl, hd3, hW3, s3, sf3, hb3, fun q hq => ?_, hlt⟩
            rw [etk] at hq
            rcases List.mem_append.mp hq with h | h
            · exact hdn q h
            · rw [List.mem_singleton.mp h]
              exact hy
          · rw [kvOf_none hy]
            have sfp := sf3.push (sf3.rp _ hb3) ady hy
            have few2 := sfp.few ok.ok ⟨hs0, hs1⟩
            have lks : (kvOf ks).length < sizeLine := by rw [kvOf_len]; exact small1000 (by omega)
            have vp := kvOf_some sf3.nd hb3
            have ep := kvOf_put (b := b ^^ fo) hy
            refine ⟨fun σ' H' => σ' = [some (.int s), some (.ref L), some (.ref d), some (.ref W), some (.int p), some (.int y), some (.str (kindS fo))] ∧ H' = upd H3 d (.dK (kvOf (ks ++ [(y, b ^^ fo)]))), ?_, ?_⟩
            · refine ⟨.str (kindS fo), rfl, rfl, _, rfl, ?_⟩
              rw [← ep]
              cases fo
              · refine ⟨.ref d, rfl, .int p, rfl, d, _, rfl, (by rw [← vp]; exact DGet.k (k := Sum.inl p) hd3), .ref d, rfl, .int y, rfl, d, _, rfl, DPut.k (k := Sum.inl y) hd3 lks, rfl, ?_⟩
                rw [Bool.xor_false]
              · refine ⟨.ref d, rfl, .int p, rfl, d, _, rfl, (by rw [← vp]; exact DGet.k (k := Sum.inl p) hd3), 1, sideI b, rfl, rfl, .ref d, rfl, .int y, rfl, d, _, rfl, DPut.k (k := Sum.inl y) hd3 lks, rfl, ?_⟩
                cases b <;> rfl
            · rintro σ' H4 ⟨rfl, rfl⟩
              have hW4 : (upd H3 d (.dK (kvOf (ks ++ [(y, b ^^ fo)])))) W = some (.lst (wl.map V.int)) := by rw [upd_ne hdW]; exact hW3
              have lw := sf3.le
              refine ⟨.ref W, rfl, .inl ⟨rfl, _, SqL.of hW4⟩, .int y, rfl, W, _, _, rfl, rfl, hW4, by rw [List.length_map]; exact small1000 (by omega), ?_⟩
              refine ⟨_, _, ks ++ [(y, b ^^ fo)], wl ++ [y], rfl, ?_, by rw [upd_same, List.map_append]; rfl, Same.mut (Same.mut s3 nd) nWH, sfp, List.mem_append_left _ hb3, fun q hq => ?_, ?_⟩
              · rw [upd_ne (Ne.symm hdW)]
                exact upd_same
              · rw [List.map_append]
                rw [etk] at hq
                rcases List.mem_append.mp hq with h | h
                · exact List.mem_append_left _ (hdn q h)
                · rw [List.mem_singleton.mp h]
                  exact List.mem_append_right _ (by simp)
              · rw [List.length_append] at few2 ⊢
                rw [List.length_append]
                simp only [List.length_cons, List.length_nil] at few2 ⊢
                omega
        · rintro σ' H3 ⟨y5, y6, ks, wl, rfl, hd3, hW3, s3, sf3, hb3, hdn, hlt⟩
          rw [Paired.length pr, List.take_length] at hdn
          exact ⟨_, hlt, _, _, _, ks, wl, rfl, hd3, hW3, s3, sf3.done hdn, rfl⟩
      · -- none is left
        have hwl : wl = [] := by
          cases wl with
          | nil => rfl
          | cons z zs => exact absurd rfl hb
        subst hwl
        exact ⟨.ref d, rfl, q d ks H1 nd hd s1 ⟨sf.nd, sf.rp, sf.all⟩⟩
end
theorem mem_putK {k z : Key} {v : V} {kvs : List (Key × V)} : z ∈ (putK kvs k v).map (·.1) ↔ z ∈ kvs.map (·.1) ∨ z = k := by
  unfold putK
  split
  · rename_i h
    rw [List.any_eq_true] at h
    obtain ⟨kv, h1, h2⟩ := h
    have h3 := of_decide_eq_true h2
    rw [List.map_map]
    have e : (Prod.fst ∘ fun kv : Key × V => if kv.1 = k then (kv.1, v) else kv) = Prod.fst := by
      funext p
      show (if p.1 = k then (p.1, v) else p).1 = p.1
      split <;> rfl
    rw [show ((fun x : Key × V => x.1) ∘ fun kv : Key × V => if kv.1 = k then (kv.1, v) else kv) = Prod.fst from e]
    constructor
    · exact .inl
    · rintro (h | h)
      · exact h
      · rw [h, ← h3]
        exact List.mem_map.mpr ⟨kv, h1, rfl⟩
  · rw [List.map_append, List.mem_append]
    simp
theorem mem_mergeK {z : Key} : ∀ {more kvs : List (Key × V)}, z ∈ (mergeK kvs more).map (·.1) ↔ z ∈ kvs.map (·.1) ∨ z ∈ more.map (·.1)
  | [], kvs => by
    show z ∈ kvs.map (·.1) ↔ _
    simp
  | p :: r, kvs => by
    have q := mem_mergeK (z := z) (more := r) (kvs := putK kvs p.1 p.2)
    rw [mem_putK] at q
    show z ∈ (mergeK (putK kvs p.1 p.2) r).map (·.1) ↔ _
    rw [q, List.map_cons, List.mem_cons, or_assoc]
theorem valV_isSome {k : Key} : ∀ {kvs : List (Key × V)}, (valV kvs k).isSome = true ↔ k ∈ kvs.map (·.1)
  | [] => by simp [valV_nil]
  | p :: r => by
    by_cases h : p.1 = k
    · rw [valV_pos h, List.map_cons, List.mem_cons]
      simp [h]
    · rw [valV_neg h, List.map_cons, List.mem_cons, valV_isSome]
      constructor
      · exact .inr
      · rintro (e | e)
        · exact absurd e.symm h
        · exact e
theorem kvOf_keys (ks : List Nb) : (kvOf ks).map (·.1) = (ks.map (·.1)).map Sum.inl := by
  unfold kvOf
  rw [List.map_map, List.map_map]
  rfl
theorem lead_iff {ts : List Tie} {n : Nat} (ok : ∀ t ∈ ts, TieOk n t) {i : Int} (h0 : 0 ≤ i ∧ i < n) : leader ts i ↔ ¬ ∃ x, 0 ≤ x ∧ x < i ∧ Rch ts x i := by
  constructor
  · rintro h ⟨x, h1, h2, h3⟩
    have := h x h3.symm
    omega
  · intro h q hq
    rcases Int.lt_or_le q i with l | l
    · exact absurd ⟨q, (hq.rng ok h0).1, l, hq.symm⟩ h
    · exact l
/-! ### the fixed choice, as it is told -/
def spFixed : Sp := fun vs H Q _ => ∃ (v : V) (n : Nat) (ts : List Tie), vs = [v] ∧ WebAt H v n ts ∧ WebOk n ts ∧
  (∀ ss r H', Told ts n ss → Cons ss ts → Same H H' → H' r = some (.tup (ss.map V.int)) → Q (.ref r) H') ∧ ∀ H', Odd ts n → Same H H' → Q .non H'
theorem valV_merge : ∀ {more kvs : List (Key × V)} {k : Key} {v : V}, valV (mergeK kvs more) k = some v → valV kvs k = some v ∨ (k, v) ∈ more
  | [], _, _, _, h => .inl h
  | p :: r, kvs, k, v, h => by
    have q := valV_merge (more := r) (kvs := putK kvs p.1 p.2) (k := k) (v := v) h
    rcases q with q | q
    · rw [valV_put] at q
      by_cases e : k = p.1
      · rw [if_pos e] at q
        obtain rfl := Option.some.inj q
        exact .inr (by rw [e]; simp)
      · rw [if_neg e] at q
        exact .inl q
    · exact .inr (List.mem_cons_of_mem _ q)
theorem told_of {ts : List Tie} {n : Nat} {ss : List Int} (hl : ss.length = n) (h : ∀ (i : Nat) (x : Int), ss[i]? = some x → ∃ m b, leader ts m ∧ RP ts m i b ∧ x = sideI b) : Told ts n ss := by
  refine ⟨hl, fun x hx => ?_, fun i h0 h1 => ?_⟩
  · obtain ⟨i, hi⟩ := List.getElem?_of_mem hx
    obtain ⟨m, b, _, _, rfl⟩ := h i x hi
    cases b
    · exact .inl rfl
    · exact .inr rfl
  · obtain ⟨h', e⟩ := sd_get (ss := ss) h0 (by rw [hl]; exact h1)
    obtain ⟨m, b, l, r, ex⟩ := h i.toNat _ (List.getElem?_eq_getElem h')
    refine ⟨m, l, ?_⟩
    have e2 : one? ss i = b := by
      unfold one?
      rw [e, ex]
      cases b <;> rfl
    rw [e2]
    rw [show ((i.toNat : Nat) : Int) = i from by omega] at r
    exact r
section
variable {P : Program} {w : World} {K : PySem.W.Frag} {mg : Str → Option Value} {base : Heap}
theorem ok_sides_of {f : Addr} {fd : FuncData} (F : Fun K "sides_of" "sides_of" s_sides_of f fd) (M : Free mg) (D1 : Df P w K mg base 1 "neighbours" ["web"] spNeighbours) (D2 : Df P w K mg base 1 "sides_from" ["start", "around"] spSidesFrom) (D3 : Df P w K mg base 2 "broken_by" ["web", "sides"] spBroken) : FnOk P w K mg base CX0 3 f fd ["web"] spFixed := by
  obtain ⟨f1, fd1, G1, g1, k1, b1⟩ := D1
  obtain ⟨f2, fd2, G2, g2, k2, b2⟩ := D2
  obtain ⟨f3, fd3, G3, g3, k3, b3⟩ := D3
  refine F.ok sc_sides_of (fun vs H Q E h => ?_) (fun cdv A outer sh H vs Q E hr h => ?_)
  · obtain ⟨v, n, ts, rfl, _⟩ := h
    rfl
  · obtain ⟨v, n, ts, rfl, hw, ok, q, qn⟩ := h
    have hu := room1 hr
    have hr1 : Room 1 _ := hr.mono (by decide : 1 ≤ 2)
    have hk : n ≤ 40 := by have := ok.hi; omega
    refine ⟨_, (pss_cons (ps_set (i := 1) sc_sides_of.nd rfl (.inl rfl) (pe_call G1 hr1 (by rfl) g1 k1 b1 .nil pass0 (pa_cons (pv 0) pa_nil)))
      (pss_cons (ps_set (i := 2) sc_sides_of.nd rfl (.inr rfl) pe_dnewK)
      (Evl.pss_cut (ps_for PassesOwn.never rfl (pi_range1 (by rfl) M.range (pa_cons (pe_ix ix_tup (pv 0) pe_int (fun _ _ => rfl)) pa_nil)) (pg_name (i := 3) sc_sides_of.nd rfl (.inl rfl))
        (pss_one (ps_if (pt_cmp (pc_dnotin hu (pv 3) (pv 2)))
          (pss_one (ps_expr (pe_bm PySem.F.plainAttrs_dict PySem.F.slot_dict_update PySem.F.type_dict_update mt_update (pv 2) (pa_cons (pe_call G2 hr1 (by rfl) g2 k2 b2 .nil pass0 (pa_cons (pv 3) (pa_cons (pv 1) pa_nil))) pa_nil))))
          pss_nil)))
      (pss_cons (ps_set (i := 4) sc_sides_of.nd rfl (.inl rfl) (pe_callTy call_tuple_of (by rfl) M.tuple (by decide +kernel) (pa_cons (pe_lc (own := [("place", 5)]) (g := gName 5) (tt := tYes) rfl sc_sides_of.nd (pi_range1 (by rfl) M.range (pa_cons (pe_ix ix_tup (pv 0) pe_int (fun _ _ => rfl)) pa_nil)) (blkOk_by (N := N_sides_of) (sc := defScope s_sides_of) (own := [("place", 5)]) (by decide +kernel)) (fun _ _ _ _ _ => (pg_name (i := 5) sc_sides_of.nd rfl (.inl rfl))) (fun _ _ _ _ _ => pts_nil) (fun _ _ _ _ _ => (pe_dget hu (pv 2) (pv 5) (fun _ _ => rfl)))) pa_nil)))
      (pss_cons (ps_if (pt_cmpR (op_neD hr.units) (pe_call G3 hr (by rfl) g3 k3 b3 .nil pass0 (pa_cons (pv 0) (pa_cons (pv 4) pa_nil))) (pe_tup pa_nil) (nomark _))
        (pss_one (ps_ret pe_non))
        pss_nil)
      (pss_one (ps_ret (pv 4)))))))), ?_⟩
    -- around, told
    refine ⟨v, rfl, v, n, ts, rfl, hw, ok, fun u H1 hA s1 pD nD => ?_⟩
    have nDH : H pD = none := s1.free nD
    have sA : Same H1 (upd H1 pD (.dK [])) := same_new nD
    have hw0 := hw
    obtain ⟨a, b, vs, rfl, ha, hb, hp⟩ := hw
    refine ⟨fun σ' H' => ∃ (y3 : Option V) (kvs : List (Key × V)), σ' = [some (.ref a), some u, some (.ref pD), y3, none, none] ∧ H' pD = some (.dK kvs) ∧ (∀ i : Nat, i < n → ∃ m b, leader ts m ∧ RP ts m i b ∧ valV kvs (Sum.inl (i : Int)) = some (.int (sideI b))) ∧ Same H1 H', ?_, ?_⟩
    · refine ⟨.ref a, rfl, a, _, 0, .int n, rfl, rfl, SqT.of (sA _ _ (s1 _ _ ha)), rfl, n, rfl, by omega, by omega, ?_⟩
      rw [Int.toNat_natCast]
      refine for_range (lo := 0) (n := n) (fun i σ' H' => ∃ (y3 : Option V) (kvs : List (Key × V)), σ' = [some (.ref a), some u, some (.ref pD), y3, none, none] ∧ H' pD = some (.dK kvs) ∧ kvs.length ≤ 40 * i ∧
        (∀ z, z ∈ kvs.map (·.1) ↔ ∃ y, z = Sum.inl y ∧ ∃ x, 0 ≤ x ∧ x < (i : Int) ∧ Rch ts x y) ∧ (∀ (y : Int) (v : V), valV kvs (Sum.inl y) = some v → ∃ m b, leader ts m ∧ RP ts m y b ∧ v = .int (sideI b)) ∧ Same H1 H') ?_ ?_ ?_
      · refine ⟨none, [], rfl, upd_same, by simp, fun z => ⟨fun h => by simp at h, ?_⟩, (fun y v h => by cases h), sA⟩
        rintro ⟨y, _, x, h1, h2, _⟩
        omega
      · rintro i σ' H2 hi ⟨y3, kvs, rfl, hD, hlen, hkeys, hvals, s2⟩
        rw [show (0 : Int) + (i : Nat) = i from by omega]
        have hir : 0 ≤ (i : Int) ∧ (i : Int) < n := by omega
        refine ⟨.int i, rfl, .ref pD, rfl, pD, _, rfl, DGet.k (k := Sum.inl (i : Int)) hD, _, rfl, ?_⟩
        have nx : ∀ y : Int, (∃ x, 0 ≤ x ∧ x < ((i + 1 : Nat) : Int) ∧ Rch ts x y) ↔ (∃ x, 0 ≤ x ∧ x < (i : Int) ∧ Rch ts x y) ∨ Rch ts i y := fun y => by
          constructor
          · rintro ⟨x, h1, h2, h3⟩
            by_cases e : x = i
            · subst e
              exact .inr h3
            · exact .inl ⟨x, h1, by omega, h3⟩
          · rintro (⟨x, h1, h2, h3⟩ | h)
            · exact ⟨x, h1, by omega, h3⟩
            · exact ⟨i, by omega, by omega, h⟩
        by_cases hin : (valV kvs (Sum.inl (i : Int))).isSome = true
        · rw [hin]
          obtain ⟨y, e, x, h1, h2, h3⟩ := (hkeys _).mp (valV_isSome.mp hin)
          cases e
          refine ⟨_, kvs, rfl, hD, by omega, fun z => ?_, hvals, s2⟩
          rw [hkeys]
          constructor
          · rintro ⟨y, e, h⟩
            exact ⟨y, e, (nx y).mpr (.inl h)⟩
          · rintro ⟨y, e, h⟩
            refine ⟨y, e, ?_⟩
            rcases (nx y).mp h with h | h
            · exact h
            · exact ⟨x, h1, h2, h3.trans h⟩
        · rw [Bool.not_eq_true] at hin
          rw [hin]
          have ld : leader ts (i : Int) := (lead_iff ok.ok hir).mpr fun ⟨x, h1, h2, h3⟩ => by
            have := valV_isSome.mpr ((hkeys (Sum.inl (i : Int))).mpr ⟨_, rfl, x, h1, h2, h3⟩)
            rw [hin] at this
            cases this
          refine ⟨.ref pD, rfl, .inr (.inr (.inl ⟨rfl, .inl ⟨_, hD⟩⟩)), .int i, rfl, u, rfl, u, n, i, ts, rfl, hA.same s2, ok, hir.1, hir.2, fun d ks H3 nd hd s3 so => ?_⟩
          have lks : ks.length ≤ n := by
            have q := pigeon n (ks.map (·.1)) so.nd fun x hx => Rch.rng ok.ok hir ((so.all x).mp hx)
            rw [List.length_map] at q
            exact q
          have hpd : pD ≠ d := ne_of_none hD nd
          refine ⟨pD, d, kvs, kvOf ks, rfl, rfl, s3 _ _ hD, hd, hpd, (by rw [kvOf_len, sizeLine_eq]; omega), ?_⟩
          refine ⟨_, mergeK kvs (kvOf ks), rfl, upd_same, ?_, fun z => ?_, fun y v hv => ?_, Same.mut (s2.trans s3) nD⟩
          · have := length_mergeK (kvOf ks) kvs
            rw [kvOf_len] at this
            omega
          · rw [mem_mergeK, hkeys, kvOf_keys]
            constructor
            · rintro (⟨y, e, h⟩ | h)
              · exact ⟨y, e, (nx y).mpr (.inl h)⟩
              · obtain ⟨y, hy, rfl⟩ := List.mem_map.mp h
                exact ⟨y, rfl, (nx y).mpr (.inr ((so.all y).mp hy))⟩
            · rintro ⟨y, rfl, h⟩
              rcases (nx y).mp h with h | h
              · exact .inl ⟨y, rfl, h⟩
              · exact .inr (List.mem_map.mpr ⟨y, (so.all y).mpr h, rfl⟩)
          · rcases valV_merge hv with h | h
            · exact hvals y v h
            · unfold kvOf at h
              obtain ⟨p, hp, e⟩ := List.mem_map.mp h
              cases e
              exact ⟨i, p.2, ld, so.rp p hp, rfl⟩
      · rintro σ' H2 ⟨y3, kvs, rfl, hD, hlen, hkeys, hvals, s2⟩
        refine ⟨_, kvs, rfl, hD, fun i hi => ?_, s2⟩
        obtain ⟨v, hv⟩ := Option.isSome_iff_exists.mp (valV_isSome.mpr ((hkeys (Sum.inl (i : Int))).mpr ⟨_, rfl, i, by omega, by omega, Rch.refl⟩))
        obtain ⟨m, b, l, r, rfl⟩ := hvals i v hv
        exact ⟨m, b, l, r, hv⟩
    rintro σ' H2 ⟨y3, kvs, rfl, hD, hvals, s2⟩
    have s12 := s1.trans s2
    -- sides
    refine ⟨.ref a, rfl, a, _, 0, .int n, rfl, rfl, SqT.of (s12 _ _ ha), rfl, n, rfl, by omega, by omega, fun Z nZ => ?_⟩
    rw [Int.toNat_natCast]
    refine lc_range (lo := 0) (n := n) (fun j H' => ∃ ss : List Int, H' Z = some (.lst (ss.map V.int)) ∧ ss.length = j ∧ (∀ (i : Nat) (x : Int), ss[i]? = some x → ∃ m b, leader ts m ∧ RP ts m i b ∧ x = sideI b) ∧ Same H2 H') ⟨[], upd_same, rfl, fun i x h => by simp at h, same_new nZ⟩ ?_ ?_
    · rintro j H3 hj ⟨ss, hZ, lj, hss, s3⟩
      rw [show (0 : Int) + (j : Nat) = j from by omega]
      obtain ⟨m, b, l, r, hv⟩ := hvals j hj
      refine ⟨rfl, .ref pD, rfl, .int j, rfl, pD, .int (sideI b), rfl, (by rw [← hv]; exact DGet.k (k := Sum.inl (j : Int)) (s3 _ _ hD)), _, hZ, by rw [List.length_map]; exact small1000 (by omega), ss ++ [sideI b], by rw [upd_same, List.map_append]; rfl, by rw [List.length_append, lj]; rfl, fun i x h => ?_, Same.mut s3 nZ⟩
      by_cases hi : i < ss.length
      · rw [List.getElem?_append_left hi] at h
        exact hss i x h
      · rw [List.getElem?_append_right (by omega)] at h
        have e : i = j := by
          have := (List.getElem?_eq_some_iff.mp h).1
          simp at this
          omega
        subst e
        rw [show i - ss.length = 0 from by omega] at h
        have hx : sideI b = x := Option.some.inj h
        exact ⟨m, b, l, r, hx.symm⟩
    · rintro H3 ⟨ss, hZ, lj, hss, s3⟩
      have told := told_of lj hss
      refine ⟨Z, _, rfl, .inl ⟨SqL.of hZ, fun t nt => ?_⟩⟩
      have s4 := (s12.trans s3).trans (same_new (o := .tup (ss.map V.int)) nt)
      have ht4 : (upd H3 t (.tup (ss.map V.int))) t = some (.tup (ss.map V.int)) := upd_same
      generalize upd H3 t (.tup (ss.map V.int)) = H4 at s4 ht4
      refine ⟨.ref a, rfl, .ref t, rfl, .ref a, t, n, ts, ss, rfl, hw0.tk (Same.tk s4), ok, ht4, by rw [lj], fun r H5 s5 h5 => ⟨Nat.zero_le _, fun z nz => ?_⟩⟩
      have s6 := same_new (o := .tup []) nz
      refine ⟨intsD (bad ss ts), intsD [], IntsV.dp ⟨r, rfl, s6 _ _ h5⟩, IntsV.dp ⟨z, rfl, upd_same⟩, shaped_intsD _, shaped_intsD _, _, rfl, ?_⟩
      rw [eqv_nil]
      have s46 := (s4.trans s5).trans s6
      have ht6 := s6 _ _ (s5 _ _ ht4)
      generalize upd H5 z (.tup []) = H6 at s46 ht6
      by_cases hbad : bad ss ts = []
      · rw [hbad]
        exact ⟨.ref t, rfl, q ss t H6 told (bad_nil.mp hbad) s46 ht6⟩
      · have hne : (bad ss ts).isEmpty = false := by
          cases e : bad ss ts with
          | nil => exact absurd e hbad
          | cons x y => rfl
        rw [hne]
        refine qn H6 ?_ s46
        obtain ⟨x, hx⟩ := List.exists_mem_of_ne_nil _ hbad
        unfold bad badTo at hx
        obtain ⟨h1, h2⟩ := List.mem_filter.mp hx
        exact told_odd ok.ok told (tieAt_mem h1) h2
end
/-! ### ties around places, by their numbers (mathematics) -/
def Jn (t : Tie) (a b : Int) : Prop := (t.one = a ∧ t.other = b) ∨ (t.one = b ∧ t.other = a)
theorem Jn.symm {t : Tie} {a b : Int} (h : Jn t a b) : Jn t b a := h.elim .inr .inl
abbrev Nu := Int × Int
def n1 (ts : List Tie) (m : Int) (p : Int) : List Nu := (if p = (tieN ts m.toNat).one then [((tieN ts m.toNat).other, m)] else []) ++ (if p = (tieN ts m.toNat).other then [((tieN ts m.toNat).one, m)] else [])
def nN (ts : List Tie) (ns : List Int) (p : Int) : List Nu := ns.flatMap fun m => n1 ts m p
theorem nN_snoc (ts : List Tie) (ns : List Int) (m p : Int) : nN ts (ns ++ [m]) p = nN ts ns p ++ n1 ts m p := by
  unfold nN
  rw [List.flatMap_append]
  simp
theorem n1_len (ts : List Tie) (m p : Int) : (n1 ts m p).length ≤ 2 := by
  unfold n1
  rw [List.length_append]
  split <;> split <;> simp
theorem nN_len (ts : List Tie) (ns : List Int) (p : Int) : (nN ts ns p).length ≤ 2 * ns.length := by
  induction ns with
  | nil => simp [nN]
  | cons m ns ih =>
    have h := n1_len ts m p
    unfold nN at ih ⊢
    rw [List.flatMap_cons, List.length_append, List.length_cons]
    omega
theorem mem_nN {ts : List Tie} {ns : List Int} {p : Int} {q : Nu} : q ∈ nN ts ns p ↔ q.2 ∈ ns ∧ Jn (tieN ts q.2.toNat) p q.1 := by
  unfold nN n1 Jn
  rw [List.mem_flatMap]
  constructor
  · rintro ⟨m, hm, h⟩
    rcases List.mem_append.mp h with h | h
    · split at h
      · rename_i e
        rw [List.mem_singleton] at h
        subst h
        exact ⟨hm, .inl ⟨e.symm, rfl⟩⟩
      · simp at h
    · split at h
      · rename_i e
        rw [List.mem_singleton] at h
        subst h
        exact ⟨hm, .inr ⟨rfl, e.symm⟩⟩
      · simp at h
  · rintro ⟨hm, h⟩
    refine ⟨q.2, hm, List.mem_append.mpr ?_⟩
    obtain ⟨q1, q2⟩ := q
    simp only at h
    rcases h with ⟨h1, h2⟩ | ⟨h1, h2⟩
    · left
      rw [if_pos h1.symm, List.mem_singleton, ← h2]
    · right
      rw [if_pos h2.symm, List.mem_singleton, ← h1]
def NuV (H : Hp) (v : V) (q : Nu) : Prop := ∃ a, v = .ref a ∧ H a = some (.tup [.int q.1, .int q.2])
theorem NuV.tk {H H' : Hp} (k : Tk H H') {v : V} {p : Nu} (h : NuV H v p) : NuV H' v p := by
  obtain ⟨a, rfl, e⟩ := h
  exact ⟨a, rfl, k _ _ e⟩
theorem nus_tk {H H' : Hp} (k : Tk H H') {vs : List V} {qs : List Nu} (h : Paired (NuV H) vs qs) : Paired (NuV H') vs qs := Paired.mono (fun _ _ x => x.tk k) h
def aKv (As : List (Int × Addr)) : List (Key × V) := As.map fun p => (Sum.inl p.1, V.ref p.2)
theorem aKv_none {z : Int} : ∀ {As : List (Int × Addr)}, z ∉ As.map (·.1) → valV (aKv As) (Sum.inl z) = none
  | [], _ => rfl
  | p :: As, h => by
    rw [List.map_cons, List.mem_cons, not_or] at h
    have e := aKv_none (As := As) h.2
    have h1 := h.1
    unfold aKv at e ⊢
    rw [List.map_cons, valV_neg (fun z => h1 (Sum.inl.inj z).symm)]
    exact e
theorem aKv_some {z : Int} {a : Addr} : ∀ {As : List (Int × Addr)}, (As.map (·.1)).Nodup → (z, a) ∈ As → valV (aKv As) (Sum.inl z) = some (.ref a)
  | p :: As, nd, h => by
    rw [List.map_cons, List.nodup_cons] at nd
    rcases List.mem_cons.mp h with e | e
    · subst e
      unfold aKv
      rw [List.map_cons, valV_pos rfl]
    · have q := aKv_some (As := As) nd.2 e
      have ne : p.1 ≠ z := fun y => nd.1 (by rw [y]; exact List.mem_map.mpr ⟨_, e, rfl⟩)
      unfold aKv at q ⊢
      rw [List.map_cons, valV_neg (fun y => ne (Sum.inl.inj y))]
      exact q
theorem aKv_put {As : List (Int × Addr)} {z : Int} {a : Addr} (h : z ∉ As.map (·.1)) : putK (aKv As) (Sum.inl z) (.ref a) = aKv (As ++ [(z, a)]) := by
  unfold putK
  rw [if_neg]
  · unfold aKv
    rw [List.map_append]
    rfl
  · intro g
    rw [List.any_eq_true] at g
    obtain ⟨kv, h1, h2⟩ := g
    unfold aKv at h1
    rw [List.mem_map] at h1
    obtain ⟨p, hp, rfl⟩ := h1
    exact h (List.mem_map.mpr ⟨p, hp, Sum.inl.inj (of_decide_eq_true h2)⟩)
theorem aKv_len (As : List (Int × Addr)) : (aKv As).length = As.length := by unfold aKv; rw [List.length_map]
theorem aKv_cases (As : List (Int × Addr)) (z : Int) (nd : (As.map (·.1)).Nodup) : (z ∉ As.map (·.1) ∧ valV (aKv As) (Sum.inl z) = none) ∨ ∃ a, (z, a) ∈ As ∧ valV (aKv As) (Sum.inl z) = some (.ref a) := by
  by_cases h : z ∈ As.map (·.1)
  · obtain ⟨p, hp, rfl⟩ := List.mem_map.mp h
    exact .inr ⟨p.2, hp, aKv_some nd hp⟩
  · exact .inl ⟨h, aKv_none h⟩
/-- a dict of lists of (place, number) -/
structure Aro (H : Hp) (D : Addr) (As : List (Int × Addr)) (N : Int → List Nu) : Prop where
  at' : H D = some (.dK (aKv As))
  nd : (As.map (·.1)).Nodup
  nd2 : (As.map (·.2)).Nodup
  each : ∀ p ∈ As, ∃ vs, H p.2 = some (.lst vs) ∧ Paired (NuV H) vs (N p.1)
  no : ∀ q, q ∉ As.map (·.1) → N q = []
theorem Aro.same {H H' : Hp} {D : Addr} {As : List (Int × Addr)} {N : Int → List Nu} (h : Aro H D As N) (s : Same H H') : Aro H' D As N :=
  ⟨s _ _ h.at', h.nd, h.nd2, fun p hp => by
    obtain ⟨vs, h1, h2⟩ := h.each p hp
    exact ⟨vs, s _ _ h1, nus_tk (Same.tk s) h2⟩, h.no⟩
theorem Aro.out {H : Hp} {D : Addr} {As : List (Int × Addr)} {N : Int → List Nu} (h : Aro H D As N) {p : Int × Addr} (hp : p ∈ As) : p.2 ≠ D := by
  obtain ⟨vs, h1, _⟩ := h.each p hp
  exact ne_of h1 h.at' (by intro z; cases z)
/-- a place more, with nothing yet -/
theorem Aro.more {H : Hp} {D a : Addr} {As : List (Int × Addr)} {N : Int → List Nu} {z : Int} (h : Aro H D As N) (hz : z ∉ As.map (·.1)) (ha : H a = some (.lst [])) (hn : a ∉ As.map (·.2)) : Aro (upd H D (.dK (aKv (As ++ [(z, a)])))) D (As ++ [(z, a)]) N := by
  have haD : a ≠ D := ne_of ha h.at' (by intro z; cases z)
  have k : Tk H (upd H D (.dK (aKv (As ++ [(z, a)])))) := fun b xs e => by
    rw [upd_ne (ne_of e h.at' (by intro z; cases z))]
    exact e
  refine ⟨upd_same, ?_, ?_, fun p hp => ?_, fun q hq => ?_⟩
  · rw [List.map_append, List.nodup_append]
    refine ⟨h.nd, by simp, fun x hx y hy e => ?_⟩
    simp only [List.map_cons, List.map_nil, List.mem_singleton] at hy
    subst hy
    subst e
    exact hz hx
  · rw [List.map_append, List.nodup_append]
    refine ⟨h.nd2, by simp, fun x hx y hy e => ?_⟩
    simp only [List.map_cons, List.map_nil, List.mem_singleton] at hy
    subst hy
    subst e
    exact hn hx
  · rcases List.mem_append.mp hp with hp | hp
    · obtain ⟨vs, h1, h2⟩ := h.each p hp
      exact ⟨vs, by rw [upd_ne (h.out hp)]; exact h1, nus_tk k h2⟩
    · rw [List.mem_singleton] at hp
      subst hp
      refine ⟨[], by rw [upd_ne haD]; exact ha, ?_⟩
      rw [show N (z, a).1 = [] from h.no z hz]
      exact .nil
  · rw [List.map_append, List.mem_append, not_or] at hq
    exact h.no q hq.1
theorem Aro.put {H : Hp} {D a c : Addr} {As : List (Int × Addr)} {N : Int → List Nu} {z : Int} {vs : List V} {q : Nu} (h : Aro H D As N) (hz : (z, a) ∈ As) (hv : H a = some (.lst vs)) (hc : NuV H (.ref c) q) : Aro (upd H a (.lst (vs ++ [.ref c]))) D As (fun p => N p ++ if p = z then [q] else []) := by
  have k : Tk H (upd H a (.lst (vs ++ [.ref c]))) := tk_lst hv
  refine ⟨by rw [upd_ne (Ne.symm (h.out hz))]; exact h.at', h.nd, h.nd2, fun p hp => ?_, fun y hy => ?_⟩
  · obtain ⟨us, h1, h2⟩ := h.each p hp
    by_cases e : p.1 = z
    · have e2 : p.2 = a := by
        obtain ⟨i, hi, rfl⟩ := List.getElem_of_mem hp
        obtain ⟨j, hj, ej⟩ := List.getElem_of_mem hz
        have w : i = j := by
          have e3 : (As.map (·.1))[i]? = (As.map (·.1))[j]? := by
            rw [List.getElem?_map, List.getElem?_map, List.getElem?_eq_getElem hi, List.getElem?_eq_getElem hj, ej]
            exact congrArg some e
          exact (List.getElem?_inj (by rw [List.length_map]; exact hi) h.nd).mp e3
        subst w
        rw [ej]
      rw [e2] at h1 ⊢
      rw [hv] at h1
      cases h1
      refine ⟨_, upd_same, ?_⟩
      rw [if_pos e]
      exact Paired.snoc (nus_tk k h2) (hc.tk k)
    · have e2 : p.2 ≠ a := fun y => e (by
        obtain ⟨i, hi, rfl⟩ := List.getElem_of_mem hp
        obtain ⟨j, hj, ej⟩ := List.getElem_of_mem hz
        have w : i = j := by
          have e3 : (As.map (·.2))[i]? = (As.map (·.2))[j]? := by
            rw [List.getElem?_map, List.getElem?_map, List.getElem?_eq_getElem hi, List.getElem?_eq_getElem hj, ej]
            exact congrArg some y
          exact (List.getElem?_inj (by rw [List.length_map]; exact hi) h.nd2).mp e3
        subst w
        rw [ej])
      refine ⟨us, by rw [upd_ne e2]; exact h1, ?_⟩
      rw [if_neg e, List.append_nil]
      exact nus_tk k h2
  · have ne : y ≠ z := fun e => hy (by rw [e]; exact List.mem_map.mpr ⟨_, hz, rfl⟩)
    rw [h.no y hy, if_neg ne]
    rfl
def AroAt (H : Hp) (v : V) (N : Int → List Nu) : Prop := ∃ D As, v = .ref D ∧ Aro H D As N
def spAround : Sp := fun vs H Q _ => ∃ (v : V) (b : Addr) (n : Int) (ts : List Tie) (ns : List Int), vs = [v, .ref b] ∧ WebAt H v n ts ∧ ts.length ≤ 130 ∧ H b = some (.lst (ns.map V.int)) ∧ ns.length ≤ 130 ∧ (∀ m ∈ ns, 0 ≤ m ∧ m < (ts.length : Int)) ∧
  ∀ u H', Same H H' → AroAt H' u (nN ts ns) → Q u H'
section
variable {P : Program} {w : World} {K : PySem.W.Frag} {mg : Str → Option Value} {base : Heap}
theorem ok_ties_around {f : Addr} {fd : FuncData} (F : Fun K "ties_around" "ties_around" s_ties_around f fd) : FnOk P w K mg base CX0 1 f fd ["web", "numbers"] spAround := by
  refine F.ok sc_ties_around (fun vs H Q E h => ?_) (fun cdv A outer s H vs Q E hr h => ?_)
  · obtain ⟨v, b, n, ts, ns, rfl, _⟩ := h
    rfl
  · obtain ⟨v, b, n, ts, ns, rfl, ⟨wa, wb, us, rfl, hwa, hwb, hp⟩, few, hb, fewn, okn, q⟩ := h
    refine ⟨_, (pss_cons (ps_set (i := 2) sc_ties_around.nd rfl (.inl rfl) pe_dnewK)
      (pss_cons (ps_for PassesOwn.never rfl (pi_list (pv 1)) (pg_name (i := 3) sc_ties_around.nd rfl (.inl rfl))
        (pss_cons (ps_asg (pe_ix ix_tup (pe_ix ix_tup (pv 0) pe_int (fun _ _ => rfl)) (pv 3) (fun _ _ => rfl)) (pg_tup rfl (pgs_cons (pg_name (i := 4) sc_ties_around.nd rfl (.inl rfl)) (pgs_cons (pg_name (i := 5) sc_ties_around.nd rfl (.inl rfl)) (pgs_cons (pg_name (i := 6) sc_ties_around.nd rfl (.inl rfl)) pgs_nil)))))
        (Evl.pss_cut (ps_expr (pe_bm PySem.F.plainAttrs_list PySem.F.slot_list_append PySem.F.type_list_append mt_append (pe_dsetd (pv 2) (pv 4) (pe_lst pa_nil) ⟨rfl, rfl, rfl, rfl⟩) (pa_cons (pe_tup (pa_cons (pv 5) (pa_cons (pv 3) pa_nil))) pa_nil)))
        (pss_one (ps_expr (pe_bm PySem.F.plainAttrs_list PySem.F.slot_list_append PySem.F.type_list_append mt_append (pe_dsetd (pv 2) (pv 5) (pe_lst pa_nil) ⟨rfl, rfl, rfl, rfl⟩) (pa_cons (pe_tup (pa_cons (pv 4) (pa_cons (pv 3) pa_nil))) pa_nil)))))))
      (pss_one (ps_ret (pv 2))))), ?_⟩
    have hlen : us.length = ts.length := Paired.length hp
    refine fun D nD => ⟨.ref b, rfl, b, rfl, ⟨_, SqL.of (same_new nD _ _ hb)⟩, ?_⟩
    -- a tie's one end
    have put : ∀ {H1 : Hp} {As : List (Int × Addr)} {N : Int → List Nu} {x y m : Int} (k : Hp → Prop), Same H H1 → Aro H1 D As N → (∀ p ∈ As, H p.2 = none) → As.length ≤ 500 → (∀ z, (N z).length ≤ 500) →
        (∀ H2 As2, Same H H2 → Aro H2 D As2 (fun p => N p ++ if p = x then [(y, m)] else []) → (∀ p ∈ As2, H p.2 = none) → As2.length ≤ As.length + 1 → k H2) →
        ∀ e, H1 e = none → ∃ (kvs : List (Key × V)) (kk : Key), (upd H1 e (.lst [])) D = some (.dK kvs) ∧ V.int x = kV kk ∧ kvs.length < sizeLine ∧ (∀ v, valV kvs kk = some v → (tyV K "list" v (upd H1 e (.lst [])) ∧ (2 ≤ sizeLine ∧ ∀ p, (upd H1 e (.lst [])) p = none → ∃ l xs z, v = .ref l ∧ [V.ref p] = [z] ∧ (upd (upd H1 e (.lst [])) p (.tup [.int y, .int m])) l = some (.lst xs) ∧ xs.length < sizeLine ∧ k (upd (upd (upd H1 e (.lst [])) p (.tup [.int y, .int m])) l (.lst (xs ++ [z])))))) ∧
          (valV kvs kk = none → (tyV K "list" (.ref e) (upd (upd H1 e (.lst [])) D (.dK (putK kvs kk (.ref e)))) ∧ (2 ≤ sizeLine ∧ ∀ p, (upd (upd H1 e (.lst [])) D (.dK (putK kvs kk (.ref e)))) p = none → ∃ l xs z, V.ref e = .ref l ∧ [V.ref p] = [z] ∧ (upd (upd (upd H1 e (.lst [])) D (.dK (putK kvs kk (.ref e)))) p (.tup [.int y, .int m])) l = some (.lst xs) ∧ xs.length < sizeLine ∧ k (upd (upd (upd (upd H1 e (.lst [])) D (.dK (putK kvs kk (.ref e)))) p (.tup [.int y, .int m])) l (.lst (xs ++ [z])))))) := by
      intro H1 As N x y m k s1 hA hf la ln fin e ne
      have sE := same_new (o := .lst []) ne
      have A1 := hA.same sE
      have ne0 : H e = none := s1.free ne
      have heA : e ∉ As.map (·.2) := fun z => by
        obtain ⟨p, hp, ep⟩ := List.mem_map.mp z
        obtain ⟨vs, h1, _⟩ := hA.each p hp
        rw [ep, ne] at h1
        cases h1
      have nD1 : H1 D = some (.dK (aKv As)) := hA.at'
      have heD : e ≠ D := (ne_of_none nD1 ne).symm
      refine ⟨aKv As, Sum.inl x, A1.at', rfl, by rw [aKv_len]; exact small1000 (by omega), fun v hv => ?_, fun hv => ?_⟩
      · rcases aKv_cases As x hA.nd with ⟨_, h⟩ | ⟨a, ha, h⟩
        · rw [h] at hv; cases hv
        · rw [h] at hv
          cases hv
          obtain ⟨vs, g1, g2⟩ := A1.each _ ha
          refine ⟨.inl ⟨rfl, _, SqL.of g1⟩, by decide, fun p np => ⟨a, vs, .ref p, rfl, rfl, same_new np _ _ g1, ?_, ?_⟩⟩
          · have : (N (x, a).1).length ≤ 500 := ln x
            rw [Paired.length g2]
            exact small1000 (by omega)
          · have sP := same_new (o := .tup [.int y, .int m]) np
            have A2 := A1.same sP
            refine fin _ As (Same.mut (s1.trans (sE.trans sP)) (hf _ ha)) (A2.put ha (sP _ _ g1) ⟨p, rfl, upd_same⟩) hf (Nat.le_succ _)
      · rcases aKv_cases As x hA.nd with ⟨hx, _⟩ | ⟨a, ha, h⟩
        · rw [aKv_put hx]
          have A2 := A1.more hx upd_same heA
          have hE : (upd (upd H1 e (.lst [])) D (.dK (aKv (As ++ [(x, e)])))) e = some (.lst []) := by rw [upd_ne heD]; exact upd_same
          refine ⟨.inl ⟨rfl, _, SqL.of hE⟩, by decide, fun p np => ⟨e, [], .ref p, rfl, rfl, same_new np _ _ hE, by decide, ?_⟩⟩
          have sP := same_new (o := .tup [.int y, .int m]) np
          have A3 := A2.same sP
          have nD0 : H D = none := nD
          refine fin _ (As ++ [(x, e)]) (Same.mut ((Same.mut (s1.trans sE) nD0).trans sP) ne0) (A3.put (List.mem_append_right _ (by simp)) (sP _ _ hE) ⟨p, rfl, upd_same⟩) (fun p hp => ?_) (by rw [List.length_append]; exact Nat.le_refl _)
          rcases List.mem_append.mp hp with h | h
          · exact hf p h
          · rw [List.mem_singleton.mp h]
            exact ne0
        · rw [h] at hv; cases hv
    refine for_list (xs := ns.map V.int) (fun i σ' H' => ∃ (y3 y4 y5 y6 : Option V) (As : List (Int × Addr)), σ' = [some (.ref wa), some (.ref b), some (.ref D), y3, y4, y5, y6] ∧ Aro H' D As (nN ts (ns.take i)) ∧ (∀ p ∈ As, H p.2 = none) ∧ As.length ≤ 2 * i ∧ Same H H') ⟨none, none, none, none, [], rfl, ⟨upd_same, List.nodup_nil, List.nodup_nil, fun p hp => by simp at hp, fun q _ => rfl⟩, fun p hp => by simp at hp, Nat.le_refl _, same_new nD⟩ (fun i σ' H' _ h => by
      obtain ⟨_, _, _, _, _, _, _, _, _, s⟩ := h
      exact SqL.of (s _ _ hb)) ?_ ?_
    · rintro i x σ' H1 ex ⟨y3, y4, y5, y6, As, rfl, hA, hf, la, s1⟩
      rw [List.getElem?_map] at ex
      obtain ⟨m, em, rfl⟩ := Option.map_eq_some_iff.mp ex
      have hi : i < ns.length := (List.getElem?_eq_some_iff.mp em).1
      have om := okn m (List.mem_of_getElem? em)
      obtain ⟨vv, e1, e2⟩ := getI (xs := us) om.1 (by omega)
      obtain ⟨t, et, c, rfl, hc⟩ := Paired.at hp e2
      have etn := tieN_of et
      refine ⟨.ref wa, rfl, wa, _, 1, .ref wb, rfl, rfl, SqT.of (s1 _ _ hwa), rfl, .int m, rfl, wb, us, m, .ref c, rfl, rfl, SqT.of (s1 _ _ hwb), e1, c, _, rfl, SqT.of (s1 _ _ hc), rfl, _, _, rfl, _, _, rfl, _, _, rfl, rfl, ?_⟩
      have lN : ∀ z, (nN ts (ns.take i) z).length ≤ 260 := fun z => by
        have := nN_len ts (ns.take i) z
        rw [List.length_take] at this
        omega
      refine ⟨fun σ' H' => ∃ As, σ' = [some (.ref wa), some (.ref b), some (.ref D), some (.int m), some (.int t.one), some (.int t.other), some (.str (kindS t.foe))] ∧ Aro H' D As (fun p => nN ts (ns.take i) p ++ if p = t.one then [(t.other, m)] else []) ∧ (∀ p ∈ As, H p.2 = none) ∧ As.length ≤ 2 * i + 1 ∧ Same H H', ?_, ?_⟩
      · refine ⟨.ref D, rfl, D, rfl, .inl ⟨_, .inl hA.at'⟩, .int t.one, rfl, Nat.zero_le _, fun e ne => ?_⟩
        obtain ⟨kvs, kk, w1, w2, w3, w4, w5⟩ := put (x := t.one) (y := t.other) (m := m) (fun H' => ∃ As, [some (V.ref wa), some (.ref b), some (.ref D), some (.int m), some (.int t.one), some (.int t.other), some (.str (kindS t.foe))] = [some (V.ref wa), some (.ref b), some (.ref D), some (.int m), some (.int t.one), some (.int t.other), some (.str (kindS t.foe))] ∧ Aro H' D As (fun p => nN ts (ns.take i) p ++ if p = t.one then [(t.other, m)] else []) ∧ (∀ p ∈ As, H p.2 = none) ∧ As.length ≤ 2 * i + 1 ∧ Same H H') s1 hA hf (by omega) (fun z => by have := lN z; omega) (fun H2 As2 s2 h2 f2 l2 => ⟨As2, rfl, h2, f2, by omega, s2⟩) e ne
        exact ⟨kvs, kk, w1, w2, w3, fun v hv => ⟨(w4 v hv).1, .int t.other, rfl, .int m, rfl, (w4 v hv).2⟩, fun hv => ⟨(w5 hv).1, .int t.other, rfl, .int m, rfl, (w5 hv).2⟩⟩
      · rintro σ' H2 ⟨As2, rfl, hA2, hf2, la2, s2⟩
        refine ⟨.ref D, rfl, D, rfl, .inl ⟨_, .inl hA2.at'⟩, .int t.other, rfl, Nat.zero_le _, fun e ne => ?_⟩
        have q1 : ∀ z, ((fun p => nN ts (ns.take i) p ++ if p = t.one then [(t.other, m)] else []) z).length ≤ 500 := fun z => by
          have := lN z
          rw [List.length_append]
          split <;> simp only [List.length_cons, List.length_nil] <;> omega
        have q2 : ∀ H3 As3, Same H H3 → Aro H3 D As3 (fun p => (nN ts (ns.take i) p ++ if p = t.one then [(t.other, m)] else []) ++ if p = t.other then [(t.one, m)] else []) → (∀ p ∈ As3, H p.2 = none) → As3.length ≤ As2.length + 1 → (fun H' => ∃ (y3 y4 y5 y6 : Option V) (As : List (Int × Addr)), [some (V.ref wa), some (.ref b), some (.ref D), some (.int m), some (.int t.one), some (.int t.other), some (.str (kindS t.foe))] = [some (.ref wa), some (.ref b), some (.ref D), y3, y4, y5, y6] ∧ Aro H' D As (nN ts (ns.take (i + 1))) ∧ (∀ p ∈ As, H p.2 = none) ∧ As.length ≤ 2 * (i + 1) ∧ Same H H') H3 := fun H3 As3 s3 h3 f3 l3 => by
          refine ⟨_, _, _, _, As3, rfl, ?_, f3, by omega, s3⟩
          have eN : nN ts (ns.take (i + 1)) = fun p => (nN ts (ns.take i) p ++ if p = t.one then [(t.other, m)] else []) ++ if p = t.other then [(t.one, m)] else [] := by
            funext p
            rw [take_snoc em, nN_snoc]
            unfold n1
            rw [etn, List.append_assoc]
          rw [eN]
          exact h3
        obtain ⟨kvs, kk, w1, w2, w3, w4, w5⟩ := put (x := t.other) (y := t.one) (m := m) (fun H' => ∃ (y3 y4 y5 y6 : Option V) (As : List (Int × Addr)), [some (V.ref wa), some (.ref b), some (.ref D), some (.int m), some (.int t.one), some (.int t.other), some (.str (kindS t.foe))] = [some (.ref wa), some (.ref b), some (.ref D), y3, y4, y5, y6] ∧ Aro H' D As (nN ts (ns.take (i + 1))) ∧ (∀ p ∈ As, H p.2 = none) ∧ As.length ≤ 2 * (i + 1) ∧ Same H H') s2 hA2 hf2 (by omega) q1 q2 e ne
        exact ⟨kvs, kk, w1, w2, w3, fun v hv => ⟨(w4 v hv).1, .int t.one, rfl, .int m, rfl, (w4 v hv).2⟩, fun hv => ⟨(w5 hv).1, .int t.one, rfl, .int m, rfl, (w5 hv).2⟩⟩
    · rintro σ' H1 ⟨y3, y4, y5, y6, As, rfl, hA, hf, la, s1⟩
      rw [List.length_map, List.take_length] at hA
      exact ⟨.ref D, rfl, q _ _ s1 ⟨D, As, rfl, hA⟩⟩
end
/-! ### ways: what is walked, level by level (mathematics) -/
abbrev We := Int × Nat × Option (Int × Int)
def weL (e : We) : List V := match e.2.2 with
  | none => [.int (e.2.1 : Nat), .non, .non]
  | some f => [.int (e.2.1 : Nat), .int f.1, .int f.2]
structure WF (N : Int → List Nu) (s : Int) (ws : List We) : Prop where
  nd : (ws.map (·.1)).Nodup
  root : (s, 0, none) ∈ ws
  non : ∀ y k, (y, k, none) ∈ ws → y = s ∧ k = 0
  par : ∀ y k p m, (y, k, some (p, m)) ∈ ws → ∃ j f, (p, j, f) ∈ ws ∧ k = j + 1 ∧ (y, m) ∈ N p
  cl : ∀ e ∈ ws, ∀ q ∈ N e.1, ∃ k f, (q.1, k, f) ∈ ws ∧ k ≤ e.2.1 + 1
structure BF (N : Int → List Nu) (s : Int) (ws : List We) (L : Nat) (todo fol : List Int) : Prop where
  nd : (ws.map (·.1)).Nodup
  root : (s, 0, none) ∈ ws
  non : ∀ y k, (y, k, none) ∈ ws → y = s ∧ k = 0
  par : ∀ y k p m, (y, k, some (p, m)) ∈ ws → ∃ j f, (p, j, f) ∈ ws ∧ k = j + 1 ∧ (y, m) ∈ N p
  lv : ∀ e ∈ ws, e.2.1 ≤ L + 1
  td : ∀ x ∈ todo, ∃ f, (x, L, f) ∈ ws
  dn : ∀ e ∈ ws, e.2.1 ≤ L → e.1 ∈ todo ∨ ∀ q ∈ N e.1, ∃ k f, (q.1, k, f) ∈ ws ∧ k ≤ e.2.1 + 1
  f1 : ∀ x ∈ fol, ∃ f, (x, L + 1, f) ∈ ws
  f2 : ∀ e ∈ ws, e.2.1 = L + 1 → e.1 ∈ fol
  fl : fol.length ≤ ws.length
theorem we_one {ws : List We} (nd : (ws.map (·.1)).Nodup) {x : Int} {k j : Nat} {f g : Option (Int × Int)} (h : (x, k, f) ∈ ws) (h' : (x, j, g) ∈ ws) : k = j ∧ f = g := by
  induction ws with
  | nil => cases h
  | cons e ws ih =>
    rw [List.map_cons, List.nodup_cons] at nd
    rcases List.mem_cons.mp h with a | a <;> rcases List.mem_cons.mp h' with b | b
    · rw [← a] at b
      cases b
      exact ⟨rfl, rfl⟩
    · exact absurd (List.mem_map.mpr ⟨_, b, rfl⟩) (by rw [← a] at nd; exact nd.1)
    · exact absurd (List.mem_map.mpr ⟨_, a, rfl⟩) (by rw [← b] at nd; exact nd.1)
    · exact ih nd.2 a b
theorem we_key {ws : List We} {x : Int} (h : x ∈ ws.map (·.1)) : ∃ k f, (x, k, f) ∈ ws := by
  obtain ⟨⟨y, k, f⟩, he, e⟩ := List.mem_map.mp h
  have e : y = x := e
  subst e
  exact ⟨k, f, he⟩
theorem WF.rg {N : Int → List Nu} {s : Int} {ws : List We} {n : Int} (h : WF N s ws) (hs : 0 ≤ s ∧ s < n) (hN : ∀ x q, q ∈ N x → 0 ≤ q.1 ∧ q.1 < n) {x : Int} (hx : x ∈ ws.map (·.1)) : 0 ≤ x ∧ x < n := by
  obtain ⟨k, f, he⟩ := we_key hx
  cases f with
  | none =>
    rw [(h.non _ _ he).1]
    exact hs
  | some pm =>
    obtain ⟨p, m⟩ := pm
    obtain ⟨j, g, _, _, hm⟩ := h.par _ _ _ _ he
    exact hN p _ hm
theorem BF.rg {N : Int → List Nu} {s : Int} {ws : List We} {L : Nat} {todo fol : List Int} {n : Int} (h : BF N s ws L todo fol) (hs : 0 ≤ s ∧ s < n) (hN : ∀ x q, q ∈ N x → 0 ≤ q.1 ∧ q.1 < n) (x : Int) (hx : x ∈ ws.map (·.1)) : 0 ≤ x ∧ x < n := by
  obtain ⟨k, f, he⟩ := we_key hx
  cases f with
  | none =>
    rw [(h.non _ _ he).1]
    exact hs
  | some pm =>
    obtain ⟨p, m⟩ := pm
    obtain ⟨j, g, _, _, hm⟩ := h.par _ _ _ _ he
    exact hN p _ hm
theorem BF.few {N : Int → List Nu} {s : Int} {ws : List We} {L : Nat} {todo fol : List Int} {n : Nat} (h : BF N s ws L todo fol) (hs : 0 ≤ s ∧ s < n) (hN : ∀ x q, q ∈ N x → 0 ≤ q.1 ∧ q.1 < n) : ws.length ≤ n := by
  have := pigeon n _ h.nd (h.rg hs hN)
  rw [List.length_map] at this
  exact this
theorem BF.start (N : Int → List Nu) (s : Int) : BF N s [(s, 0, none)] 0 [s] [] :=
  ⟨by simp, by simp, fun y k h => by simp at h; exact ⟨h.1, h.2⟩, fun y k p m h => by simp at h, fun e h => by rw [List.mem_singleton.mp h]; simp, fun x h => ⟨none, by rw [List.mem_singleton.mp h]; simp⟩, fun e h _ => .inl (by rw [List.mem_singleton.mp h]; simp), fun x h => by simp at h, fun e h z => by rw [List.mem_singleton.mp h] at z; simp at z, by simp⟩
theorem BF.stop {N : Int → List Nu} {s : Int} {ws : List We} {L : Nat} (h : BF N s ws L [] []) : WF N s ws :=
  ⟨h.nd, h.root, h.non, h.par, fun e he => by
    have h1 := h.lv e he
    have h2 : e.2.1 ≤ L := by
      by_cases z : e.2.1 = L + 1
      · exact absurd (h.f2 e he z) (by simp)
      · omega
    exact (h.dn e he h2).resolve_left (by simp)⟩
theorem BF.next {N : Int → List Nu} {s : Int} {ws : List We} {L : Nat} {fol : List Int} (h : BF N s ws L [] fol) : BF N s ws (L + 1) fol [] :=
  ⟨h.nd, h.root, h.non, h.par, fun e he => by have := h.lv e he; omega, h.f1, fun e he hl => by
    by_cases z : e.2.1 = L + 1
    · exact .inl (h.f2 e he z)
    · exact .inr ((h.dn e he (by omega)).resolve_left (by simp)), fun x hx => by simp at hx, fun e he z => by have := h.lv e he; omega, by simp⟩
theorem BF.push {N : Int → List Nu} {s p y m : Int} {ws : List We} {L : Nat} {todo fol : List Int} {f : Option (Int × Int)} (h : BF N s ws L todo fol) (hp : (p, L, f) ∈ ws) (hm : (y, m) ∈ N p) (hy : y ∉ ws.map (·.1)) : BF N s (ws ++ [(y, L + 1, some (p, m))]) L todo (fol ++ [y]) := by
  have sub : ∀ {e : We}, e ∈ ws → e ∈ ws ++ [(y, L + 1, some (p, m))] := fun he => List.mem_append_left _ he
  have cs : ∀ {e : We}, e ∈ ws ++ [(y, L + 1, some (p, m))] → e ∈ ws ∨ e = (y, L + 1, some (p, m)) := fun he => by
    rcases List.mem_append.mp he with z | z
    · exact .inl z
    · exact .inr (List.mem_singleton.mp z)
  refine ⟨?_, sub h.root, fun z k hz => ?_, fun z k p' m' hz => ?_, fun e he => ?_, fun x hx => ?_, fun e he hl => ?_, fun x hx => ?_, fun e he z => ?_, ?_⟩
  · rw [List.map_append, List.nodup_append]
    refine ⟨h.nd, by simp, fun x hx z hz e => ?_⟩
    have : z = y := by simpa using hz
    subst this
    subst e
    exact hy hx
  · rcases cs hz with z1 | z1
    · exact h.non _ _ z1
    · cases z1
  · rcases cs hz with z1 | z1
    · obtain ⟨j, g, h1, h2, h3⟩ := h.par _ _ _ _ z1
      exact ⟨j, g, sub h1, h2, h3⟩
    · cases z1
      exact ⟨L, f, sub hp, rfl, hm⟩
  · rcases cs he with z1 | z1
    · exact h.lv e z1
    · rw [z1]
      exact Nat.le_refl _
  · obtain ⟨g, hg⟩ := h.td x hx
    exact ⟨g, sub hg⟩
  · rcases cs he with z1 | z1
    · rcases h.dn e z1 hl with a | a
      · exact .inl a
      · refine .inr fun q hq => ?_
        obtain ⟨k, g, h1, h2⟩ := a q hq
        exact ⟨k, g, sub h1, h2⟩
    · rw [z1] at hl
      simp at hl
      omega
  · rcases List.mem_append.mp hx with z | z
    · obtain ⟨g, hg⟩ := h.f1 x z
      exact ⟨g, sub hg⟩
    · rw [List.mem_singleton.mp z]
      exact ⟨some (p, m), List.mem_append_right _ (by simp)⟩
  · rcases cs he with z1 | z1
    · exact List.mem_append_left _ (h.f2 e z1 z)
    · rw [z1]
      exact List.mem_append_right _ (by simp)
  · rw [List.length_append, List.length_append]
    have := h.fl
    simp
    omega
theorem BF.done {N : Int → List Nu} {s p : Int} {ws : List We} {L : Nat} {todo fol : List Int} {f : Option (Int × Int)} (h : BF N s ws L (p :: todo) fol) (hp : (p, L, f) ∈ ws) (hd : ∀ q ∈ N p, ∃ k f, (q.1, k, f) ∈ ws ∧ k ≤ L + 1) : BF N s ws L todo fol :=
  ⟨h.nd, h.root, h.non, h.par, h.lv, fun x hx => h.td x (List.mem_cons_of_mem _ hx), fun e he hl => by
    rcases h.dn e he hl with a | a
    · rcases List.mem_cons.mp a with b | b
      · obtain ⟨x, k, g⟩ := e
        have b : x = p := b
        subst b
        have := (we_one h.nd he hp).1
        subst this
        exact .inr hd
      · exact .inl b
    · exact .inr a, h.f1, h.f2, h.fl⟩
/-! ### as it lies in the heap -/
def WeV (H : Hp) (kv : Key × V) (e : We) : Prop := kv.1 = Sum.inl e.1 ∧ ∃ a, kv.2 = .ref a ∧ H a = some (.tup (weL e))
theorem WeV.tk {H H' : Hp} (k : Tk H H') {kv : Key × V} {e : We} (h : WeV H kv e) : WeV H' kv e := by
  obtain ⟨h1, a, h2, h3⟩ := h
  exact ⟨h1, a, h2, k _ _ h3⟩
theorem wes_tk {H H' : Hp} (k : Tk H H') {kvs : List (Key × V)} {ws : List We} (h : Paired (WeV H) kvs ws) : Paired (WeV H') kvs ws := Paired.mono (fun _ _ x => x.tk k) h
theorem wes_none {H : Hp} {x : Int} : ∀ {kvs : List (Key × V)} {ws : List We}, Paired (WeV H) kvs ws → x ∉ ws.map (·.1) → valV kvs (Sum.inl x) = none
  | _, _, .nil, _ => rfl
  | kv :: kvs, e :: ws, .cons h t, hx => by
    rw [List.map_cons, List.mem_cons, not_or] at hx
    obtain ⟨k, v⟩ := kv
    have h1 : k = Sum.inl e.1 := h.1
    rw [valV_neg (fun z => hx.1 (by rw [h1] at z; exact (Sum.inl.inj z).symm))]
    exact wes_none t hx.2
theorem wes_some {H : Hp} {x : Int} {k : Nat} {f : Option (Int × Int)} : ∀ {kvs : List (Key × V)} {ws : List We}, Paired (WeV H) kvs ws → (ws.map (·.1)).Nodup → (x, k, f) ∈ ws → ∃ a, valV kvs (Sum.inl x) = some (.ref a) ∧ H a = some (.tup (weL (x, k, f)))
  | _, _, .nil, _, hx => by cases hx
  | kv :: kvs, e :: ws, .cons h t, nd, hx => by
    rw [List.map_cons, List.nodup_cons] at nd
    obtain ⟨k', v⟩ := kv
    have h1 : k' = Sum.inl e.1 := h.1
    obtain ⟨a, h2, h3⟩ := h.2
    have h2 : v = .ref a := h2
    rcases List.mem_cons.mp hx with z | z
    · subst z
      exact ⟨a, by rw [valV_pos h1, h2], h3⟩
    · have ne : e.1 ≠ x := fun y => nd.1 (by rw [y]; exact List.mem_map.mpr ⟨_, z, rfl⟩)
      rw [valV_neg (fun y => ne (by rw [h1] at y; exact Sum.inl.inj y))]
      exact wes_some t nd.2 z
theorem putK_new {k : Key} {v : V} : ∀ {kvs : List (Key × V)}, valV kvs k = none → putK kvs k v = kvs ++ [(k, v)] := fun {kvs} h => by
  unfold putK
  rw [if_neg]
  intro g
  rw [List.any_eq_true] at g
  obtain ⟨kv, h1, h2⟩ := g
  have h2 := of_decide_eq_true h2
  induction kvs with
  | nil => cases h1
  | cons x kvs ih =>
    obtain ⟨k', v'⟩ := x
    by_cases e : k' = k
    · rw [valV_pos e] at h
      cases h
    · rw [valV_neg e] at h
      rcases List.mem_cons.mp h1 with z | z
      · rw [z] at h2
        exact e h2
      · exact ih h z
def WalkAt (H : Hp) (D : Addr) (ws : List We) : Prop := ∃ kvs, H D = some (.dK kvs) ∧ Paired (WeV H) kvs ws
theorem WalkAt.same {H H' : Hp} {D : Addr} {ws : List We} (h : WalkAt H D ws) (s : Same H H') : WalkAt H' D ws := by
  obtain ⟨kvs, h1, h2⟩ := h
  exact ⟨kvs, s _ _ h1, wes_tk (Same.tk s) h2⟩
/-- a list or a tuple, walked -/
def iSeq (K : PySem.W.Frag) (tl : TE) : TI := fun σ H R => tl σ H fun x H1 => ∃ a, x = .ref a ∧ (((∃ xs, SqL K H1 a xs) ∧ R (Itl K a) H1) ∨ ((∃ xs, SqT K H1 a xs) ∧ R (Itt K a) H1))
theorem pi_seq {X : Cx} {tg l : Expr} {tl : TE} (hl : PE X l tl) : PI X tg l (iSeq X.K tl) := by
  refine ⟨fun pins s σ H R I h => ?_⟩
  refine thn (hl.run pins s σ H _ I h) fun v s1 ⟨x, H1, I1, r1, q1⟩ => ?_
  obtain ⟨a, e, q1⟩ := q1
  subst e
  cases r1
  rcases q1 with ⟨⟨xs, hq⟩, q⟩ | ⟨⟨xs, hq⟩, q⟩
  · obtain ⟨its, rv, p, hz⟩ := I1.list hq
    refine wpAny_pyIter_list p.isList ?_
    refine ⟨s1.heap.objs.size, [s1.heap.objs.size], _, _, H1, rfl, I1.kept (t' := s1.toks) fun b o e => Heap.get?_push_of_some _ e, turn_list a _, ⟨_, Heap.get?_push_size _ rfl, rfl, rfl⟩, fun b hb => ?_, q⟩
    have e : b = s1.heap.objs.size := by simpa using hb
    subst e
    exact I1.fpOk (Nat.le_refl _) (I1.hok.fresh (Nat.le_refl _))
  · obtain ⟨its, rv, p, hz⟩ := I1.tuple hq
    refine wpAny_pyIter_tuple (show s1.heap.IsTuple a its.toArray from p) ?_
    refine ⟨s1.heap.objs.size, [s1.heap.objs.size], _, _, H1, rfl, I1.kept (t' := s1.toks) fun b o e => Heap.get?_push_of_some _ e, turn_tuple a _, ⟨_, Heap.get?_push_size _ rfl, rfl, rfl⟩, fun b hb => ?_, q⟩
    have e : b = s1.heap.objs.size := by simpa using hb
    subst e
    exact I1.fpOk (Nat.le_refl _) (I1.hok.fresh (Nat.le_refl _))
def spWalkFrom : Sp := fun vs H Q _ => ∃ (u : V) (n : Nat) (s : Int) (N : Int → List Nu), vs = [.int s, u] ∧ AroAt H u N ∧ 0 ≤ s ∧ s < n ∧ n ≤ 100 ∧ (∀ x q, q ∈ N x → 0 ≤ q.1 ∧ q.1 < n) ∧ ∀ D ws H', Same H H' → WalkAt H' D ws → WF N s ws → ws.length ≤ n → Q (.ref D) H'
section
variable {P : Program} {w : World} {K : PySem.W.Frag} {mg : Str → Option Value} {base : Heap}
theorem ok_walk_from {f : Addr} {fd : FuncData} (F : Fun K "walk_from" "walk_from" s_walk_from f fd) : FnOk P w K mg base CX0 1 f fd ["start", "around"] spWalkFrom := by
  refine F.ok sc_walk_from (fun vs H Q E h => ?_) (fun cdv A outer sh H vs Q E hr h => ?_)
  · obtain ⟨u, n, s, N, rfl, _⟩ := h
    rfl
  · obtain ⟨u, n, s, N, rfl, ⟨U, As, rfl, hU⟩, s0, s1, n100, hN, q⟩ := h
    have hu := room1 hr
    refine ⟨_, (pss_cons (ps_set (i := 2) sc_walk_from.nd rfl (.inl rfl) (pe_disp (pps_cons (pv 0) (pe_tup (pa_cons pe_int (pa_cons pe_non (pa_cons pe_non pa_nil)))) pps_nil) (by rfl) (by rfl) (fun z => by cases z) (by decide)))
      (pss_cons (ps_set (i := 3) sc_walk_from.nd rfl (.inl rfl) (pe_lst (pa_cons (pv 0) pa_nil)))
      (pss_cons (ps_set (i := 4) sc_walk_from.nd rfl (.inl rfl) pe_int)
      (pss_cons (ps_while PassesOwn.never (pt_truth (pv 3) (by intro _; rfl))
        (pss_cons (ps_aug (i := 4) sc_walk_from.nd rfl (.inl rfl) pe_int ip_add)
        (pss_cons (ps_set (i := 5) sc_walk_from.nd rfl (.inl rfl) (pe_lst pa_nil))
        (pss_cons (ps_for PassesOwn.never rfl (pi_list (pv 3)) (pg_name (i := 6) sc_walk_from.nd rfl (.inl rfl))
          (pss_one (ps_for PassesOwn.never rfl (pi_seq (pe_dget2 hu (pv 1) (pv 6) (pe_tup pa_nil) ⟨rfl, rfl, rfl, rfl⟩)) (pg_tup rfl (pgs_cons (pg_name (i := 7) sc_walk_from.nd rfl (.inl rfl)) (pgs_cons (pg_name (i := 8) sc_walk_from.nd rfl (.inl rfl)) pgs_nil)))
            (pss_one (ps_if (pt_cmp (pc_dnotin hu (pv 7) (pv 2)))
              (pss_cons (ps_dput hu (pv 2) (pv 7) (pe_tup (pa_cons (pv 4) (pa_cons (pv 6) (pa_cons (pv 8) pa_nil)))) rfl)
              (pss_one (ps_expr (pe_bm PySem.F.plainAttrs_list PySem.F.slot_list_append PySem.F.type_list_append mt_append (pv 5) (pa_cons (pv 7) pa_nil)))))
              pss_nil)))))
        (pss_one (ps_set (i := 3) sc_walk_from.nd rfl (.inl rfl) (pv 5)))))))
      (pss_one (ps_ret (pv 2))))))), ?_⟩
    -- walk
    refine fun D nD => ⟨.int s, rfl, by show 3 ≤ sizeLine; decide, fun T nT => ?_⟩
    have hTD : T ≠ D := (ne_of_none upd_same nT).symm
    have nTH : H T = none := by rw [upd_ne hTD] at nT; exact nT
    refine ⟨by rw [upd_ne (Ne.symm hTD)]; exact upd_same, [(Sum.inl s, .ref T)], rfl, (by show 1 ≤ 15; decide), ?_⟩
    have hw0 : WalkAt (upd (upd (upd H D (.dK [])) T (.tup [.int 0, .non, .non])) D (.dK (mergeK [] [(Sum.inl s, .ref T)]))) D [(s, 0, none)] := ⟨_, upd_same, .cons ⟨rfl, T, rfl, by rw [upd_ne hTD]; exact upd_same⟩ .nil⟩
    have s2 : Same H (upd (upd (upd H D (.dK [])) T (.tup [.int 0, .non, .non])) D (.dK (mergeK [] [(Sum.inl s, .ref T)]))) := Same.mut (Same.mut (same_new nD) nTH) nD
    generalize upd (upd (upd H D (.dK [])) T (.tup [.int 0, .non, .non])) D (.dK (mergeK [] [(Sum.inl s, .ref T)])) = H2 at hw0 s2
    -- reached
    refine ⟨.int s, rfl, by show 1 ≤ sizeLine; decide, fun R0 nR0 => ?_⟩
    refine ⟨fun k σ' H' => ∃ (y5 y6 y7 y8 : Option V) (R : Addr) (ws : List We) (L : Nat) (todo : List Int), σ' = [some (.int s), some (.ref U), some (.ref D), some (.ref R), some (.int (L : Nat)), y5, y6, y7, y8] ∧ WalkAt H' D ws ∧ H' R = some (.lst (todo.map V.int)) ∧ Same H H' ∧ BF N s ws L todo [] ∧ k = 2 * (n - ws.length) + (if todo.isEmpty = true then 0 else 1), ⟨_, none, none, none, none, R0, [(s, 0, none)], 0, [s], rfl, hw0.same (same_new nR0), upd_same, s2.trans (same_new nR0), BF.start N s, rfl⟩, ?_⟩
    clear hw0 s2 nR0 nT hTD nTH
    rintro k σ' H1 ⟨y5, y6, y7, y8, R, ws, L, todo, rfl, hw, hR, s3, bf, hk⟩
    refine ⟨.ref R, rfl, _, .inl ⟨_, SqL.of hR, rfl⟩, ?_⟩
    refine ite2 (fun hb => ?_) (fun hb => ?_)
    · have hne : todo.isEmpty = false := by
        cases todo with
        | nil => cases hb
        | cons a b => rfl
      rw [hne] at hk
      refine ⟨fun σ' H' => ∃ k', k' < k ∧ ∃ (y5 y6 y7 y8 : Option V) (R : Addr) (ws : List We) (L : Nat) (todo : List Int), σ' = [some (.int s), some (.ref U), some (.ref D), some (.ref R), some (.int (L : Nat)), y5, y6, y7, y8] ∧ WalkAt H' D ws ∧ H' R = some (.lst (todo.map V.int)) ∧ Same H H' ∧ BF N s ws L todo [] ∧ k' = 2 * (n - ws.length) + (if todo.isEmpty = true then 0 else 1), fun _ _ h => h, ?_⟩
      refine ⟨.int (L : Nat), rfl, L, 1, rfl, rfl, ?_⟩
      refine ⟨Nat.zero_le _, fun Fo nF => ?_⟩
      have hFD : Fo ≠ D := by
        obtain ⟨kvs, h1, _⟩ := hw
        exact (ne_of_none h1 nF).symm
      have hFR : Fo ≠ R := (ne_of_none hR nF).symm
      have nFH : H Fo = none := s3.free nF
      have few0 := bf.few ⟨s0, s1⟩ hN
      have hRs : (upd H1 Fo (.lst [])) R = some (.lst (todo.map V.int)) := same_new nF _ _ hR
      refine ⟨.ref R, rfl, R, rfl, ⟨_, SqL.of hRs⟩, ?_⟩
      refine for_list (xs := todo.map V.int) (fun i σ' H' => ∃ (y6 y7 y8 : Option V) (ws' : List We) (fol : List Int), σ' = [some (.int s), some (.ref U), some (.ref D), some (.ref R), some (.int ((L + 1 : Nat) : Int)), some (.ref Fo), y6, y7, y8] ∧ WalkAt H' D ws' ∧ H' R = some (.lst (todo.map V.int)) ∧ H' Fo = some (.lst (fol.map V.int)) ∧ Same H H' ∧ BF N s ws' L (todo.drop i) fol ∧ ws'.length = ws.length + fol.length) ⟨y6, y7, y8, ws, [], rfl, hw.same (same_new nF), hRs, upd_same, s3.trans (same_new nF), bf, rfl⟩ (fun i σ' H' _ h => by
        obtain ⟨_, _, _, _, _, _, _, h, _⟩ := h
        exact SqL.of h) ?_ ?_
      · clear hw hR s3 hRs nF
        rintro i x σ' H2 ex ⟨y6, y7, y8, ws', fol, rfl, hw, hR, hF, s3, bf', hl⟩
        rw [List.getElem?_map] at ex
        obtain ⟨p, hp, rfl⟩ := Option.map_eq_some_iff.mp ex
        have hi := (List.getElem?_eq_some_iff.mp hp).1
        have ed : todo.drop i = p :: todo.drop (i + 1) := by
          rw [List.drop_eq_getElem_cons hi]
          congr 1
          exact (List.getElem?_eq_some_iff.mp hp).2
        rw [ed] at bf'
        obtain ⟨f0, hf0⟩ := bf'.td p (by simp)
        have hU3 := hU.same s3
        refine ⟨.ref U, rfl, U, rfl, .inl ⟨_, .inl hU3.at'⟩, .int p, rfl, Nat.zero_le _, fun t nt => ⟨_, DGet.k (k := Sum.inl p) (same_new nt _ _ hU3.at'), ?_⟩⟩
        have sT := same_new (o := .tup []) nt
        -- what holds along the neighbours
        let Jv : Nat → L2.St → Hp → Prop := fun j σ' H' => ∃ (y7 y8 : Option V) (ws' : List We) (fol : List Int), σ' = [some (.int s), some (.ref U), some (.ref D), some (.ref R), some (.int ((L + 1 : Nat) : Int)), some (.ref Fo), some (.int p), y7, y8] ∧ WalkAt H' D ws' ∧ H' R = some (.lst (todo.map V.int)) ∧ H' Fo = some (.lst (fol.map V.int)) ∧ Same H H' ∧ Tk H2 H' ∧ BF N s ws' L (p :: todo.drop (i + 1)) fol ∧ (p, L, f0) ∈ ws' ∧ (∀ q ∈ (N p).take j, q.1 ∈ ws'.map (·.1)) ∧ ws'.length = ws.length + fol.length
        have J0 : Jv 0 [some (.int s), some (.ref U), some (.ref D), some (.ref R), some (.int ((L + 1 : Nat) : Int)), some (.ref Fo), some (.int p), y7, y8] (upd H2 t (.tup [])) := ⟨y7, y8, ws', fol, rfl, hw.same sT, sT _ _ hR, sT _ _ hF, s3.trans sT, Same.tk sT, bf', hf0, fun q hq => by simp at hq, hl⟩
        have Jend : ∀ σ' H', Jv (N p).length σ' H' → ∃ (y6 y7 y8 : Option V) (ws' : List We) (fol : List Int), σ' = [some (.int s), some (.ref U), some (.ref D), some (.ref R), some (.int ((L + 1 : Nat) : Int)), some (.ref Fo), y6, y7, y8] ∧ WalkAt H' D ws' ∧ H' R = some (.lst (todo.map V.int)) ∧ H' Fo = some (.lst (fol.map V.int)) ∧ Same H H' ∧ BF N s ws' L (todo.drop (i + 1)) fol ∧ ws'.length = ws.length + fol.length := by
          rintro σ' H' ⟨y7, y8, ws', fol, rfl, h1, h2, h3, h4, _, h5, h6, h7, h8⟩
          rw [List.take_length] at h7
          refine ⟨_, _, _, ws', fol, rfl, h1, h2, h3, h4, h5.done h6 fun q hq => ?_, h8⟩
          obtain ⟨kk, ff, he⟩ := we_key (h7 q hq)
          exact ⟨kk, ff, he, h5.lv _ he⟩
        rcases aKv_cases As p hU.nd with ⟨hno, e⟩ | ⟨a, ha, e⟩
        · rw [e]
          have eN : N p = [] := hU.no p hno
          refine ⟨t, rfl, .inr ⟨⟨_, SqT.of upd_same⟩, ?_⟩⟩
          refine for_tup (xs := []) (fun j σ' H' => Jv j σ' H' ∧ H' t = some (.tup [])) ⟨J0, upd_same⟩ (fun j σ' H' _ h => SqT.of h.2) (fun j x σ' H' ex => by simp at ex) (fun σ' H' h => Jend σ' H' (by rw [eN]; exact h.1))
        · rw [e]
          obtain ⟨us, hus, hpu⟩ := hU.each _ ha
          refine ⟨a, rfl, .inl ⟨⟨_, SqL.of (sT _ _ (s3 _ _ hus))⟩, ?_⟩⟩
          have lu : us.length = (N p).length := Paired.length hpu
          refine for_list (xs := us) Jv J0 (fun j σ' H' _ h => by
            obtain ⟨_, _, _, _, _, _, _, _, h, _⟩ := h
            exact SqL.of (h _ _ hus)) ?_ (by rw [lu]; exact Jend)
          clear J0 Jend hw hR hF s3 bf' hl hf0 sT nt hU3
          rintro j x σ' H3 ex ⟨y7, y8, ws', fol, rfl, hw, hR, hF, s3, tk, bf', hf, hdn, hl⟩
          obtain ⟨⟨y, m⟩, eq, c, rfl, hc⟩ := Paired.at hpu ex
          have hm : (y, m) ∈ N p := List.mem_of_getElem? eq
          have few := bf'.few ⟨s0, s1⟩ hN
          have etk : (N p).take (j + 1) = (N p).take j ++ [(y, m)] := by
            rw [List.take_add_one, eq]
            rfl
          obtain ⟨kvs, hD, hkv⟩ := id hw
          have lkv : kvs.length = ws'.length := Paired.length hkv
          refine ⟨c, _, rfl, SqT.of (s3 _ _ hc), rfl, _, _, rfl, _, _, rfl, rfl, ?_⟩
          refine ⟨.int y, rfl, .ref D, rfl, D, _, rfl, DGet.k (k := Sum.inl y) hD, _, rfl, ?_⟩
          by_cases hy : y ∈ ws'.map (·.1)
          · obtain ⟨ky, fy, hey⟩ := we_key hy
            obtain ⟨ay, ev, _⟩ := wes_some hkv bf'.nd hey
            rw [ev]
            refine ⟨_, _, ws', fol, rfl, hw, hR, hF, s3, tk, bf', hf, fun q hq => ?_, hl⟩
            rw [etk] at hq
            rcases List.mem_append.mp hq with z | z
            · exact hdn q z
            · rw [List.mem_singleton.mp z]
              exact hy
          · have ev := wes_none hkv hy
            rw [ev]
            refine ⟨.int ((L + 1 : Nat) : Int), rfl, .int p, rfl, .int m, rfl, by show 3 ≤ sizeLine; decide, fun Z nZ => ?_⟩
            have sZ := same_new (o := .tup [.int ((L + 1 : Nat) : Int), .int p, .int m]) nZ
            have hZD : Z ≠ D := (ne_of_none hD nZ).symm
            refine ⟨.ref D, rfl, .int y, rfl, D, _, rfl, DPut.k (k := Sum.inl y) (sZ _ _ hD) (small1000 (by omega)), ?_⟩
            rw [putK_new ev]
            have tkD : Tk H3 (upd (upd H3 Z (.tup [.int ((L + 1 : Nat) : Int), .int p, .int m])) D (.dK (kvs ++ [(Sum.inl y, .ref Z)]))) := fun b xs e => by
              rw [upd_ne (ne_of e hD (by intro z; cases z))]
              exact sZ _ _ e
            have hF4 : (upd (upd H3 Z (.tup [.int ((L + 1 : Nat) : Int), .int p, .int m])) D (.dK (kvs ++ [(Sum.inl y, .ref Z)]))) Fo = some (.lst (fol.map V.int)) := by rw [upd_ne hFD]; exact sZ _ _ hF
            have lf := bf'.fl
            have bfp := bf'.push hf hm hy
            have few2 := bfp.few ⟨s0, s1⟩ hN
            refine ⟨.ref Fo, rfl, .inl ⟨rfl, _, SqL.of hF4⟩, .int y, rfl, Fo, _, _, rfl, rfl, hF4, by rw [List.length_map]; exact small1000 (by omega), ?_⟩
            have tkF := tk_lst (ys := fol.map V.int ++ [.int y]) hF4
            refine ⟨_, _, ws' ++ [(y, L + 1, some (p, m))], fol ++ [y], rfl, ⟨kvs ++ [(Sum.inl y, .ref Z)], ?_, Paired.snoc (wes_tk (tkD.trans tkF) hkv) ⟨rfl, Z, rfl, tkF _ _ (by rw [upd_ne hZD]; exact upd_same)⟩⟩, ?_, by rw [upd_same, List.map_append]; rfl, Same.mut (Same.mut (s3.trans sZ) nD) nFH, tk.trans (tkD.trans tkF), bfp, List.mem_append_left _ hf, fun q hq => ?_, ?_⟩
            · rw [upd_ne (Ne.symm hFD)]
              exact upd_same
            · have hRD : R ≠ D := ne_of hR hD (by intro z; cases z)
              rw [upd_ne (Ne.symm hFR), upd_ne hRD]
              exact sZ _ _ hR
            · rw [List.map_append]
              rw [etk] at hq
              rcases List.mem_append.mp hq with z | z
              · exact List.mem_append_left _ (hdn q z)
              · rw [List.mem_singleton.mp z]
                exact List.mem_append_right _ (by simp)
            · rw [List.length_append, List.length_append, hl]
              rfl
      · clear hw hR s3 hRs nF
        rintro σ' H2 ⟨y6, y7, y8, ws', fol, rfl, hw, hR, hF, s3, bf', hl⟩
        rw [List.length_map, List.drop_length] at bf'
        have few := bf'.few ⟨s0, s1⟩ hN
        refine ⟨.ref Fo, rfl, _, ?_, _, _, _, _, Fo, ws', L + 1, fol, rfl, hw, hF, s3, bf'.next, rfl⟩
        cases fol with
        | nil =>
          rw [hk, hl]
          simp
        | cons a b =>
          rw [List.length_cons] at hl
          rw [hk]
          simp
          omega
    · have he : todo = [] := by
        cases todo with
        | nil => rfl
        | cons a b => exact absurd rfl hb
      subst he
      exact ⟨.ref D, rfl, q D ws H1 s3 hw bf.stop (bf.few ⟨s0, s1⟩ hN)⟩
end
/-! ### the way back -/
inductive Way (N : Int → List Nu) (e : Int) : Int → List Int → List Int → Prop
  | one : Way N e e [e] []
  | cons {c p m : Int} {qs ns : List Int} : Way N e c qs ns → (c, m) ∈ N p → p ∉ qs → Way N e p (p :: qs) (m :: ns)
theorem Way.len {N : Int → List Nu} {e c : Int} {qs ns : List Int} (h : Way N e c qs ns) : qs.length = ns.length + 1 := by
  induction h with
  | one => rfl
  | cons _ _ _ ih => rw [List.length_cons, List.length_cons, ih]
theorem Way.nodup {N : Int → List Nu} {e c : Int} {qs ns : List Int} (h : Way N e c qs ns) : qs.Nodup := by
  induction h with
  | one => simp
  | cons _ _ hp ih => exact List.nodup_cons.mpr ⟨hp, ih⟩
def spWayTo : Sp := fun vs H Q _ => ∃ (e s : Int) (D : Addr) (ws : List We) (N : Int → List Nu) (k : Nat) (f : Option (Int × Int)), vs = [.int e, .ref D] ∧ WalkAt H D ws ∧ WF N s ws ∧ (e, k, f) ∈ ws ∧ k ≤ 200 ∧ ∀ r a b qs ns H', Same H H' → H' r = some (.tup [.ref a, .ref b]) → H' a = some (.tup (qs.map V.int)) → H' b = some (.tup (ns.map V.int)) → Way N e s qs ns → ns.length = k → Q (.ref r) H'
section
variable {P : Program} {w : World} {K : PySem.W.Frag} {mg : Str → Option Value} {base : Heap}
theorem ok_way_to {f : Addr} {fd : FuncData} (F : Fun K "way_to" "way_to" s_way_to f fd) (M : Free mg) : FnOk P w K mg base CX0 1 f fd ["end", "walk"] spWayTo := by
  refine F.ok sc_way_to (fun vs H Q E h => ?_) (fun cdv A outer sh H vs Q E hr h => ?_)
  · obtain ⟨e, s, D, ws, N, k, f, rfl, _⟩ := h
    rfl
  · obtain ⟨e, s, D, ws, N, k, f, rfl, hw, wf, he, k2, q⟩ := h
    have hu := room1 hr
    refine ⟨_, (pss_cons (ps_set (i := 2) sc_way_to.nd rfl (.inl rfl) (pe_lst (pa_cons (pv 0) pa_nil)))
      (pss_cons (ps_set (i := 3) sc_way_to.nd rfl (.inl rfl) (pe_lst pa_nil))
      (pss_cons (ps_asg (pe_dget hu (pv 1) (pv 0) (fun _ _ => rfl)) (pg_tup rfl (pgs_cons (pg_name (i := 4) sc_way_to.nd rfl (.inl rfl)) (pgs_cons (pg_name (i := 5) sc_way_to.nd rfl (.inl rfl)) (pgs_cons (pg_name (i := 6) sc_way_to.nd rfl (.inl rfl)) pgs_nil)))))
      (pss_cons (ps_while PassesOwn.never (pt_cmpR op_notN (pv 5) pe_non (nomark _))
        (pss_cons (ps_expr (pe_bm PySem.F.plainAttrs_list PySem.F.slot_list_append PySem.F.type_list_append mt_append (pv 2) (pa_cons (pv 5) pa_nil)))
        (pss_cons (ps_expr (pe_bm PySem.F.plainAttrs_list PySem.F.slot_list_append PySem.F.type_list_append mt_append (pv 3) (pa_cons (pv 6) pa_nil)))
        (pss_one (ps_asg (pe_dget hu (pv 1) (pv 5) (fun _ _ => rfl)) (pg_tup rfl (pgs_cons (pg_name (i := 4) sc_way_to.nd rfl (.inl rfl)) (pgs_cons (pg_name (i := 5) sc_way_to.nd rfl (.inl rfl)) (pgs_cons (pg_name (i := 6) sc_way_to.nd rfl (.inl rfl)) pgs_nil)))))))))
      (pss_one (ps_ret (pe_tup (pa_cons (pe_callTy call_tuple_of (by rfl) M.tuple (by decide +kernel) (pa_cons (pe_revL (pv 2)) pa_nil)) (pa_cons (pe_callTy call_tuple_of (by rfl) M.tuple (by decide +kernel) (pa_cons (pe_revL (pv 3)) pa_nil)) pa_nil))))))))), ?_⟩
    refine ⟨.int e, rfl, by show 1 ≤ sizeLine; decide, fun A1 n1 => ⟨Nat.zero_le _, fun B n2 => ?_⟩⟩
    have s2 := (same_new (o := .lst [.int e]) n1).trans (same_new (o := .lst []) n2)
    have hAB : A1 ≠ B := ne_of_none upd_same n2
    have hA2 : (upd (upd H A1 (.lst [.int e])) B (.lst [])) A1 = some (.lst [.int e]) := by rw [upd_ne hAB]; exact upd_same
    have hB2 : (upd (upd H A1 (.lst [.int e])) B (.lst [])) B = some (.lst []) := upd_same
    have nBH : H B = none := (same_new n1).free n2
    generalize upd (upd H A1 (.lst [.int e])) B (.lst []) = H2 at s2 hA2 hB2
    -- an entry, read
    have get : ∀ (H' : Hp) (x : Int) (j : Nat) (g : Option (Int × Int)), Same H H' → (x, j, g) ∈ ws → ∃ a, DGet H' D (.int x) (some (.ref a)) ∧ H' a = some (.tup (weL (x, j, g))) := fun H' x j g s3 hx => by
      obtain ⟨kvs, h1, h2⟩ := hw.same s3
      obtain ⟨a, e1, e2⟩ := wes_some h2 wf.nd hx
      exact ⟨a, by rw [← e1]; exact DGet.k (k := Sum.inl x) h1, e2⟩
    let aV : Option (Int × Int) → V := fun g => match g with | none => .non | some z => .int z.1
    let nV : Option (Int × Int) → V := fun g => match g with | none => .non | some z => .int z.2
    have wl : ∀ (x : Int) (j : Nat) (g : Option (Int × Int)), weL (x, j, g) = [.int (j : Nat), aV g, nV g] := fun x j g => by cases g <;> rfl
    obtain ⟨a0, g0, h0⟩ := get H2 e k f s2 he
    rw [wl] at h0
    refine ⟨.ref D, rfl, .int e, rfl, D, _, rfl, g0, a0, _, rfl, SqT.of h0, rfl, _, _, rfl, _, _, rfl, _, _, rfl, rfl, ?_⟩
    refine ⟨fun j σ' H' => ∃ (c : Int) (g : Option (Int × Int)) (qs ns : List Int), σ' = [some (.int e), some (.ref D), some (.ref A1), some (.ref B), some (.int (j : Nat)), some (aV g), some (nV g)] ∧ (c, j, g) ∈ ws ∧ H' A1 = some (.lst (qs.reverse.map V.int)) ∧ H' B = some (.lst (ns.reverse.map V.int)) ∧ Same H H' ∧ Way N e c qs ns ∧ ns.length + j = k ∧ ∀ x ∈ qs, ∃ i g, (x, i, g) ∈ ws ∧ j ≤ i, ⟨k, e, f, [e], [], rfl, he, hA2, hB2, s2, .one, by simp, fun x hx => ⟨k, f, by rw [List.mem_singleton.mp hx]; exact he, Nat.le_refl _⟩⟩, ?_⟩
    clear hA2 hB2 s2 n2 h0 g0
    rintro j σ' H1 ⟨c, g, qs, ns, rfl, hc, hA, hB, s3, way, hl, lev⟩
    have lq := way.len
    refine ⟨aV g, rfl, rfl, _, rfl, ?_⟩
    cases g with
    | some z =>
      obtain ⟨p, m⟩ := z
      obtain ⟨i, g', hp, hj, hm⟩ := wf.par _ _ _ _ hc
      refine ⟨fun σ' H' => ∃ j', j' < j ∧ ∃ (c : Int) (g : Option (Int × Int)) (qs ns : List Int), σ' = [some (.int e), some (.ref D), some (.ref A1), some (.ref B), some (.int (j' : Nat)), some (aV g), some (nV g)] ∧ (c, j', g) ∈ ws ∧ H' A1 = some (.lst (qs.reverse.map V.int)) ∧ H' B = some (.lst (ns.reverse.map V.int)) ∧ Same H H' ∧ Way N e c qs ns ∧ ns.length + j' = k ∧ ∀ x ∈ qs, ∃ i g, (x, i, g) ∈ ws ∧ j' ≤ i, fun _ _ h => h, ?_⟩
      refine ⟨.ref A1, rfl, .inl ⟨rfl, _, SqL.of hA⟩, .int p, rfl, A1, _, _, rfl, rfl, hA, by rw [List.length_map, List.length_reverse]; exact small1000 (by omega), ?_⟩
      have hB2 : (upd H1 A1 (.lst (qs.reverse.map V.int ++ [.int p]))) B = some (.lst (ns.reverse.map V.int)) := by rw [upd_ne (Ne.symm hAB)]; exact hB
      refine ⟨.ref B, rfl, .inl ⟨rfl, _, SqL.of hB2⟩, .int m, rfl, B, _, _, rfl, rfl, hB2, by rw [List.length_map, List.length_reverse]; exact small1000 (by omega), ?_⟩
      have s4 : Same H (upd (upd H1 A1 (.lst (qs.reverse.map V.int ++ [.int p]))) B (.lst (ns.reverse.map V.int ++ [.int m]))) := Same.mut (Same.mut s3 n1) nBH
      obtain ⟨a1, g1, h1⟩ := get _ p i g' s4 hp
      rw [wl] at h1
      refine ⟨.ref D, rfl, .int p, rfl, D, _, rfl, g1, a1, _, rfl, SqT.of h1, rfl, _, _, rfl, _, _, rfl, _, _, rfl, rfl, ?_⟩
      refine ⟨i, by omega, p, g', p :: qs, m :: ns, rfl, hp, ?_, ?_, s4, .cons way hm (fun hin => ?_), by rw [List.length_cons]; omega, fun x hx => ?_⟩
      · rw [upd_ne hAB, upd_same, List.reverse_cons, List.map_append]
        rfl
      · rw [upd_same, List.reverse_cons, List.map_append]
        rfl
      · obtain ⟨i', g'', hx, hle⟩ := lev p hin
        have := (we_one wf.nd hp hx).1
        omega
      · rcases List.mem_cons.mp hx with z | z
        · exact ⟨i, g', by rw [z]; exact hp, Nat.le_refl _⟩
        · obtain ⟨i', g'', h2, h3⟩ := lev x z
          exact ⟨i', g'', h2, by omega⟩
    | none =>
      obtain ⟨rfl, rfl⟩ := wf.non _ _ hc
      refine ⟨.ref A1, rfl, A1, _, rfl, SqL.of hA, fun p1 m1 => ⟨p1, _, rfl, .inl ⟨SqL.of upd_same, fun r1 m2 => ?_⟩⟩⟩
      have e1 := (same_new (o := .lst (qs.reverse.map V.int).reverse) m1)
      have e2 := (same_new (o := .tup (qs.reverse.map V.int).reverse) m2)
      have hB2 := e2 _ _ (e1 _ _ hB)
      refine ⟨.ref B, rfl, B, _, rfl, SqL.of hB2, fun p3 m3 => ⟨p3, _, rfl, .inl ⟨SqL.of upd_same, fun r2 m4 => ⟨by show 2 ≤ sizeLine; decide, fun r m5 => ?_⟩⟩⟩⟩
      have e3 := (same_new (o := .lst (ns.reverse.map V.int).reverse) m3)
      have e4 := (same_new (o := .tup (ns.reverse.map V.int).reverse) m4)
      have e5 := (same_new (o := .tup [.ref r1, .ref r2]) m5)
      have rr : ∀ xs : List Int, (xs.reverse.map V.int).reverse = xs.map V.int := fun xs => by rw [List.map_reverse, List.reverse_reverse]
      refine q r r1 r2 qs ns _ ((((s3.trans e1).trans e2).trans e3).trans e4 |>.trans e5) upd_same ?_ ?_ way hl
      · rw [e5 _ _ (e4 _ _ (e3 _ _ upd_same)), rr]
      · rw [e5 _ _ upd_same, rr]
end
/-! ### a stand: what is kept, by flags (mathematics) -/
def kt : List Tie → List Bool → List Tie
  | t :: ts, b :: fl => if b = true then t :: kt ts fl else kt ts fl
  | _, _ => []
theorem kt_snoc {t : Tie} {b : Bool} : ∀ {ts : List Tie} {fl : List Bool}, ts.length = fl.length → kt (ts ++ [t]) (fl ++ [b]) = kt ts fl ++ (if b = true then [t] else [])
  | [], [], _ => by cases b <;> rfl
  | x :: ts, c :: fl, h => by
    have ih := kt_snoc (t := t) (b := b) (ts := ts) (fl := fl) (by simpa using h)
    show (if c = true then x :: kt (ts ++ [t]) (fl ++ [b]) else kt (ts ++ [t]) (fl ++ [b])) = (if c = true then x :: kt ts fl else kt ts fl) ++ _
    cases c
    · rw [if_neg (by simp), if_neg (by simp), ih]
    · rw [if_pos rfl, if_pos rfl, ih]
      rfl
theorem mem_kt {t : Tie} : ∀ {ts : List Tie} {fl : List Bool}, t ∈ kt ts fl ↔ ∃ i : Nat, ts[i]? = some t ∧ fl[i]? = some true
  | [], fl => by simp [kt]
  | _ :: _, [] => by simp [kt]
  | x :: ts, c :: fl => by
    have ih := mem_kt (t := t) (ts := ts) (fl := fl)
    show t ∈ (if c = true then x :: kt ts fl else kt ts fl) ↔ _
    constructor
    · intro h
      cases c
      · rw [if_neg (by simp)] at h
        obtain ⟨i, h1, h2⟩ := ih.mp h
        exact ⟨i + 1, by simpa using h1, by simpa using h2⟩
      · rw [if_pos rfl] at h
        rcases List.mem_cons.mp h with e | e
        · exact ⟨0, by simp [e], by simp⟩
        · obtain ⟨i, h1, h2⟩ := ih.mp e
          exact ⟨i + 1, by simpa using h1, by simpa using h2⟩
    · rintro ⟨i, h1, h2⟩
      cases i with
      | zero =>
        simp at h1 h2
        subst h1
        subst h2
        rw [if_pos rfl]
        simp
      | succ i =>
        have := ih.mpr ⟨i, by simpa using h1, by simpa using h2⟩
        cases c
        · rw [if_neg (by simp)]
          exact this
        · rw [if_pos rfl]
          exact List.mem_cons_of_mem _ this
theorem kt_sub {t : Tie} {ts : List Tie} {fl : List Bool} (h : t ∈ kt ts fl) : t ∈ ts := by
  obtain ⟨i, h1, _⟩ := mem_kt.mp h
  exact List.mem_of_getElem? h1
def knT (fl : List Bool) (v : Bool) : List Int := (rng fl.length).filter fun i => fl.getD i.toNat false == v
theorem knT_snoc (fl : List Bool) (b v : Bool) : knT (fl ++ [b]) v = knT fl v ++ (if b = v then [(fl.length : Int)] else []) := by
  unfold knT
  rw [List.length_append]
  show (rng (fl.length + 1)).filter _ = _
  rw [rng_succ, List.filter_append]
  congr 1
  · refine List.filter_congr fun i hi => ?_
    have := mem_rng.mp hi
    rw [List.getD_eq_getElem?_getD, List.getD_eq_getElem?_getD, List.getElem?_append_left (by omega)]
  · have e : (fl ++ [b]).getD (fl.length : Int).toNat false = b := by
      rw [List.getD_eq_getElem?_getD, Int.toNat_natCast, List.getElem?_append_right (Nat.le_refl _)]
      simp
    by_cases h : b = v
    · rw [if_pos h, List.filter_cons_of_pos (by rw [e, h]; simp)]
      rfl
    · rw [if_neg h, List.filter_cons_of_neg (by rw [e]; simpa using h)]
      rfl
theorem mem_knT {fl : List Bool} {v : Bool} {i : Int} : i ∈ knT fl v ↔ (0 ≤ i ∧ i < fl.length) ∧ fl[i.toNat]? = some v := by
  unfold knT
  rw [List.mem_filter, mem_rng]
  constructor
  · rintro ⟨h, e⟩
    refine ⟨h, ?_⟩
    have hl : i.toNat < fl.length := by omega
    rw [List.getD_eq_getElem?_getD, List.getElem?_eq_getElem hl] at e
    rw [List.getElem?_eq_getElem hl]
    have e : (fl[i.toNat] == v) = true := e
    rw [beq_iff_eq] at e
    rw [e]
  · rintro ⟨h, e⟩
    refine ⟨h, ?_⟩
    rw [List.getD_eq_getElem?_getD, e]
    simp
theorem knT_len (fl : List Bool) (v : Bool) : (knT fl v).length ≤ fl.length := by
  have := List.length_filter_le (fun i : Int => fl.getD i.toNat false == v) (rng fl.length)
  rw [rng_length] at this
  exact this
theorem adj_kt {ts : List Tie} {fl : List Bool} (hl : ts.length = fl.length) {x y : Int} {k : Bool} : Adj (kt ts fl) x y k ↔ ∃ m ∈ knT fl true, Jn (tieN ts m.toNat) x y ∧ (tieN ts m.toNat).foe = k := by
  unfold Adj Jn
  constructor
  · rintro ⟨t, ht, e, q⟩
    obtain ⟨i, h1, h2⟩ := mem_kt.mp ht
    have hi : i < fl.length := (List.getElem?_eq_some_iff.mp h2).1
    refine ⟨(i : Int), mem_knT.mpr ⟨by omega, by rw [Int.toNat_natCast]; exact h2⟩, ?_⟩
    rw [Int.toNat_natCast, tieN_of h1]
    exact ⟨q, e⟩
  · rintro ⟨m, hm, q, e⟩
    obtain ⟨⟨m0, m1⟩, h2⟩ := mem_knT.mp hm
    have hi : m.toNat < ts.length := by omega
    have h1 : ts[m.toNat]? = some (tieN ts m.toNat) := by
      unfold tieN
      rw [List.getD_eq_getElem?_getD, List.getElem?_eq_getElem hi]
      rfl
    exact ⟨tieN ts m.toNat, mem_kt.mpr ⟨_, h1, h2⟩, e, q⟩
def fpar (ts : List Tie) : List Int → Bool
  | [] => false
  | m :: ns => (tieN ts m.toNat).foe ^^ fpar ts ns
theorem way_rp {ts : List Tie} {fl : List Bool} (hl : ts.length = fl.length) {e s : Int} {qs ns : List Int} (h : Way (nN ts (knT fl true)) e s qs ns) : RP (kt ts fl) s e (fpar ts ns) := by
  induction h with
  | one => exact .nil
  | cons w hm _ ih =>
    obtain ⟨h1, h2⟩ := mem_nN.mp hm
    exact (RP.one ((adj_kt hl).mpr ⟨_, h1, h2, rfl⟩)).trans ih
def cntF (ts : List Tie) (ns : List Int) : Nat := (ns.filter fun m => (tieN ts m.toNat).foe).length
theorem cntF_par (ts : List Tie) : ∀ ns : List Int, decide (((cntF ts ns : Nat) : Int) % 2 = 1) = fpar ts ns
  | [] => rfl
  | m :: ns => by
    have ih := cntF_par ts ns
    show _ = ((tieN ts m.toNat).foe ^^ fpar ts ns)
    rw [← ih]
    unfold cntF
    cases h : (tieN ts m.toNat).foe
    · rw [List.filter_cons_of_neg (by simp [h])]
      simp
    · rw [List.filter_cons_of_pos (by simp [h]), List.length_cons]
      rw [show ((((ns.filter fun m => (tieN ts m.toNat).foe).length + 1 : Nat) : Int)) = (((ns.filter fun m => (tieN ts m.toNat).foe).length : Nat) : Int) + 1 from by omega]
      generalize (((ns.filter fun m => (tieN ts m.toNat).foe).length : Nat) : Int) = z
      rw [Bool.eq_iff_iff]
      simp only [decide_eq_true_eq, Bool.true_xor, Bool.not_eq_true', decide_eq_false_iff_not]
      omega
theorem fpar_snoc (ts : List Tie) (ns : List Int) (m : Int) : fpar ts (ns ++ [m]) = (fpar ts ns ^^ (tieN ts m.toNat).foe) := by
  induction ns with
  | nil =>
    show ((tieN ts m.toNat).foe ^^ false) = (false ^^ (tieN ts m.toNat).foe)
    cases (tieN ts m.toNat).foe <;> rfl
  | cons x ns ih =>
    show ((tieN ts x.toNat).foe ^^ fpar ts (ns ++ [m])) = (((tieN ts x.toNat).foe ^^ fpar ts ns) ^^ _)
    rw [ih, Bool.xor_assoc]
def Kps (kts : List Tie) (t : Tie) : Prop := ¬ Rch kts t.one t.other ∨ RP kts t.one t.other t.foe
theorem xor3 (a b c : Bool) : (a ^^ c) = ((a ^^ b) ^^ (b ^^ c)) := by cases a <;> cases b <;> cases c <;> rfl
theorem xor3' (a b c : Bool) : (a ^^ c) = ((a ^^ b) ^^ (c ^^ b)) := by cases a <;> cases b <;> cases c <;> rfl
/-- sides that hold -/
theorem GS.walk {ts : List Tie} {n : Nat} {g s : Int → Int} (h : GS ts n g s true) {x y : Int} {p : Bool} (r : RP ts x y p) : (bit (s x) ^^ bit (s y)) = p := by
  induction r with
  | nil => exact Bool.xor_self _
  | step r ad ih =>
    obtain ⟨t, ht, e, q⟩ := ad
    have hy := h.yes rfl t ht
    rw [← e, ← hy]
    rcases q with ⟨q1, q2⟩ | ⟨q1, q2⟩
    · rw [q1, q2, ← ih]
      exact xor3 _ _ _
    · rw [q1, q2, ← ih]
      exact xor3' _ _ _
theorem GS.calm {ts : List Tie} {n : Nat} {g s : Int → Int} (h : GS ts n g s true) : ¬ Odd ts n := by
  rintro ⟨x, _, r⟩
  have := h.walk r
  rw [Bool.xor_self] at this
  cases this
theorem rp_one {ts : List Tie} {n : Nat} (h : ¬ Odd ts n) {x y : Int} (hx : 0 ≤ x ∧ x < n) {p q : Bool} (r : RP ts x y p) (r' : RP ts x y q) : p = q := by
  by_cases e : p = q
  · exact e
  · refine absurd ⟨x, hx, ?_⟩ h
    have := r.trans r'.symm
    rw [show (p ^^ q) = true from by cases p <;> cases q <;> simp_all] at this
    exact this
theorem GS.keeps {ts : List Tie} {n : Nat} {g s : Int → Int} (h : GS ts n g s true) {t : Tie} (ok : TieOk n t) : Kps ts t ↔ (g t.one ≠ g t.other ∨ (bit (s t.one) ^^ bit (s t.other)) = t.foe) := by
  have back : g t.one = g t.other → Rch ts t.one t.other := fun e => by
    have r1 : Rch ts (g t.one) t.one := ⟨_, h.rp t.one ok.1 ok.2.1⟩
    have r2 : Rch ts (g t.other) t.other := ⟨_, h.rp t.other ok.2.2.1 ok.2.2.2.1⟩
    rw [← e] at r2
    exact r1.symm.trans r2
  constructor
  · rintro (h1 | h1)
    · exact .inl fun e => h1 (back e)
    · exact .inr (h.walk h1)
  · rintro (h1 | h1)
    · exact .inl fun r => h1 (h.same r)
    · by_cases r : Rch ts t.one t.other
      · obtain ⟨p, rp⟩ := r
        have := h.walk rp
        rw [h1] at this
        rw [← this] at rp
        exact .inr rp
      · exact .inl r
theorem Odd.mono {ts us : List Tie} {n : Nat} (h : ∀ t ∈ ts, t ∈ us) (o : Odd ts n) : Odd us n := by
  obtain ⟨x, hx, r⟩ := o
  exact ⟨x, hx, r.mono h⟩
theorem dec_int' (a b : Int) : decide (V.int a = V.int b) = decide (a = b) := by
  by_cases h : a = b
  · rw [decide_eq_true h, h, decide_eq_true rfl]
  · rw [decide_eq_false h, decide_eq_false (fun z => h (V.int.inj z))]
/-! ### the stand, as it lies in the heap -/
theorem ps_never {X : Cx} {st : Stmt} : PS X st (fun _ _ _ => False) := ⟨fun _ _ _ _ _ _ h => h.elim⟩
theorem sub_len : ∀ {ks ns : List Int}, ks.Nodup → (∀ x ∈ ks, x ∈ ns) → ks.length ≤ ns.length
  | [], _, _, _ => Nat.zero_le _
  | k :: ks, ns, nd, h => by
    rw [List.nodup_cons] at nd
    have hk := h k (by simp)
    have q := sub_len (ks := ks) (ns := ns.erase k) nd.2 fun x hx => (List.mem_erase_of_ne (fun z => nd.1 (by rw [← z]; exact hx))).mpr (h x (List.mem_cons_of_mem _ hx))
    rw [List.length_erase_of_mem hk] at q
    have : 0 < ns.length := List.length_pos_of_mem hk
    rw [List.length_cons]
    omega
theorem WF.lev {N : Int → List Nu} {s : Int} {ws : List We} (h : WF N s ws) : ∀ (k : Nat) (y : Int) (f : Option (Int × Int)), (y, k, f) ∈ ws → ∃ l : List Int, l.length = k + 1 ∧ l.Nodup ∧ ∀ x ∈ l, ∃ j g, (x, j, g) ∈ ws ∧ j ≤ k
  | 0, y, f, hy => ⟨[y], rfl, by simp, fun x hx => ⟨0, f, by rw [List.mem_singleton.mp hx]; exact hy, Nat.le_refl _⟩⟩
  | k + 1, y, none, hy => by
    have := (h.non _ _ hy).2
    omega
  | k + 1, y, some (p, m), hy => by
    obtain ⟨j, g, hp, e, _⟩ := h.par _ _ _ _ hy
    have : j = k := by omega
    subst this
    obtain ⟨l, l1, l2, l3⟩ := WF.lev h j p g hp
    refine ⟨y :: l, by rw [List.length_cons, l1], List.nodup_cons.mpr ⟨fun hin => ?_, l2⟩, fun x hx => ?_⟩
    · obtain ⟨i, g', h1, h2⟩ := l3 y hin
      have := (we_one h.nd hy h1).1
      omega
    · rcases List.mem_cons.mp hx with z | z
      · exact ⟨j + 1, _, by rw [z]; exact hy, Nat.le_refl _⟩
      · obtain ⟨i, g', h1, h2⟩ := l3 x z
        exact ⟨i, g', h1, by omega⟩
theorem WF.low {N : Int → List Nu} {s : Int} {ws : List We} (h : WF N s ws) {k : Nat} {y : Int} {f : Option (Int × Int)} (hy : (y, k, f) ∈ ws) : k < ws.length := by
  obtain ⟨l, l1, l2, l3⟩ := h.lev k y f hy
  have := sub_len (ns := ws.map (·.1)) l2 fun x hx => by
    obtain ⟨j, g, h1, _⟩ := l3 x hx
    exact List.mem_map.mpr ⟨_, h1, rfl⟩
  rw [List.length_map] at this
  omega
theorem WF.reach {ts : List Tie} {fl : List Bool} (hl : ts.length = fl.length) {s : Int} {ws : List We} (h : WF (nN ts (knT fl true)) s ws) (y : Int) : y ∈ ws.map (·.1) ↔ Rch (kt ts fl) s y := by
  constructor
  · intro hy
    obtain ⟨k, f, he⟩ := we_key hy
    induction k generalizing y f with
    | zero =>
      cases f with
      | none =>
        rw [(h.non _ _ he).1]
        exact Rch.refl
      | some pm =>
        obtain ⟨j, g, _, e, _⟩ := h.par y 0 pm.1 pm.2 he
        omega
    | succ k ih =>
      cases f with
      | none =>
        have := (h.non _ _ he).2
        omega
      | some pm =>
        obtain ⟨j, g, hp, e, hm⟩ := h.par y (k + 1) pm.1 pm.2 he
        have : j = k := by omega
        subst this
        have r := ih pm.1 (List.mem_map.mpr ⟨_, hp, rfl⟩) g hp
        obtain ⟨h1, h2⟩ := mem_nN.mp hm
        exact r.trans (Rch.adj ((adj_kt hl).mpr ⟨_, h1, h2, rfl⟩))
  · intro r
    refine r.ind (fun x => x ∈ ws.map (·.1)) (List.mem_map.mpr ⟨_, h.root, rfl⟩) fun x y k hx ad => ?_
    obtain ⟨k', f, he⟩ := we_key hx
    obtain ⟨m, hm, hj, _⟩ := (adj_kt hl).mp ad
    obtain ⟨kk, ff, h1, _⟩ := h.cl _ he (y, m) (mem_nN.mpr ⟨hm, hj⟩)
    exact List.mem_map.mpr ⟨_, h1, rfl⟩
theorem Paired.unsnoc {α β : Type} {F : α → β → Prop} {b : β} : ∀ {m : List β} {l : List α}, Paired F l (m ++ [b]) → ∃ l' a, l = l' ++ [a] ∧ Paired F l' m ∧ F a b
  | [], _, .cons r .nil => ⟨[], _, rfl, .nil, r⟩
  | y :: m, _, .cons r t => by
    obtain ⟨l', a, e, h1, h2⟩ := Paired.unsnoc t
    exact ⟨_ :: l', a, by rw [e]; rfl, .cons r h1, h2⟩
theorem Way.num {ts : List Tie} {kn : List Int} {e s : Int} {qs ns : List Int} (h : Way (nN ts kn) e s qs ns) : ∀ m ∈ ns, m ∈ kn := by
  induction h with
  | one =>
    intro m hm
    cases hm
  | cons _ hm _ ih =>
    intro m hmm
    rcases List.mem_cons.mp hmm with z | z
    · rw [z]
      exact (mem_nN.mp hm).1
    · exact ih m z
def DfM (P : Program) (w : World) (K : PySem.W.Frag) (mg : Str → Option Value) (base : Heap) (k : Nat) (C : Addr) (m : Str) (ps : List Str) (sp : Sp) : Prop := ∃ (f : Addr) (fd : FuncData), FnOk P w K mg base CX0 k f fd ps sp ∧ Meth K C m f ∧ Binds K fd ps []
theorem sm1 : ¬ (("many" : Str) = "ties") := by decide +kernel
theorem sm2 : ¬ (("many" : Str) = "kept") := by decide +kernel
theorem sm3 : ¬ (("many" : Str) = "lost") := by decide +kernel
theorem sm4 : ¬ (("ties" : Str) = "kept") := by decide +kernel
theorem sm5 : ¬ (("ties" : Str) = "lost") := by decide +kernel
theorem sm6 : ¬ (("kept" : Str) = "lost") := by decide +kernel
def stF (n : Int) (T Kk Lo : Addr) : List (Str × V) := putF "lost" (.ref Lo) (putF "kept" (.ref Kk) (putF "ties" (.ref T) (putF "many" (.int n) [])))
theorem stF_many (n : Int) (T Kk Lo : Addr) : (stF n T Kk Lo).lookup ("many" : Str) = some (.int n) := by
  unfold stF
  rw [lookup_putF, if_neg sm3, lookup_putF, if_neg sm2, lookup_putF, if_neg sm1, lookup_putF, if_pos rfl]
theorem stF_ties (n : Int) (T Kk Lo : Addr) : (stF n T Kk Lo).lookup ("ties" : Str) = some (.ref T) := by
  unfold stF
  rw [lookup_putF, if_neg sm5, lookup_putF, if_neg sm4, lookup_putF, if_pos rfl]
theorem stF_kept (n : Int) (T Kk Lo : Addr) : (stF n T Kk Lo).lookup ("kept" : Str) = some (.ref Kk) := by
  unfold stF
  rw [lookup_putF, if_neg sm6, lookup_putF, if_pos rfl]
theorem stF_lost (n : Int) (T Kk Lo : Addr) : (stF n T Kk Lo).lookup ("lost" : Str) = some (.ref Lo) := by
  unfold stF
  rw [lookup_putF, if_pos rfl]
theorem stF_no (n : Int) (T Kk Lo : Addr) {m : Str} (h1 : ¬ m = "lost") (h2 : ¬ m = "kept") (h3 : ¬ m = "ties") (h4 : ¬ m = "many") : (stF n T Kk Lo).lookup m = none := by
  unfold stF
  rw [lookup_putF, if_neg h1, lookup_putF, if_neg h2, lookup_putF, if_neg h3, lookup_putF, if_neg h4]
  all_goals rfl
structure StA (C : Addr) (H : Hp) (p T Kk Lo : Addr) (n : Nat) (ts : List Tie) (fl : List Bool) : Prop where
  ob : ∃ dx, H p = some (.ins C dx (stF n T Kk Lo))
  hT : ∃ us, H T = some (.lst us) ∧ Paired (TieV H) us ts
  hK : H Kk = some (.lst ((knT fl true).map V.int))
  hL : H Lo = some (.lst ((knT fl false).map V.int))
  n1 : T ≠ Kk
  n2 : T ≠ Lo
  n3 : Kk ≠ Lo
theorem StA.same {C : Addr} {H H' : Hp} {p T Kk Lo : Addr} {n : Nat} {ts : List Tie} {fl : List Bool} (h : StA C H p T Kk Lo n ts fl) (s : Same H H') : StA C H' p T Kk Lo n ts fl := by
  obtain ⟨⟨dx, h1⟩, ⟨us, h2, h3⟩, h4, h5, a, b, c⟩ := h
  exact ⟨⟨dx, s _ _ h1⟩, ⟨us, s _ _ h2, ties_tk (Same.tk s) h3⟩, s _ _ h4, s _ _ h5, a, b, c⟩
structure SI (n : Nat) (ts : List Tie) (fl : List Bool) : Prop where
  len : ts.length = fl.length
  few : ts.length ≤ 120
  ok : ∀ t ∈ ts, TieOk n t
  calm : ¬ Odd (kt ts fl) n
  n1 : 1 ≤ n
  n40 : n ≤ 40
def KS (p T Kk Lo : Addr) (H H' : Hp) : Prop := ∀ b o, b ≠ p → b ≠ T → b ≠ Kk → b ≠ Lo → H b = some o → H' b = some o
theorem KS.trans {p T Kk Lo : Addr} {H H1 H2 : Hp} (a : KS p T Kk Lo H H1) (b : KS p T Kk Lo H1 H2) : KS p T Kk Lo H H2 := fun x o h1 h2 h3 h4 h => b x o h1 h2 h3 h4 (a x o h1 h2 h3 h4 h)
theorem Same.ks {p T Kk Lo : Addr} {H H' : Hp} (s : Same H H') : KS p T Kk Lo H H' := fun b o _ _ _ _ h => s b o h
structure STx (K : PySem.W.Frag) (C : Addr) : Prop where
  cl : Cls K C
  nM : NoAttr K C "many"
  nT : NoAttr K C "ties"
  nK : NoAttr K C "kept"
  nL : NoAttr K C "lost"
def spSInit (C : Addr) : Sp := fun vs H Q _ => ∃ (p dx : Addr) (n : Nat), vs = [.ref p, .int n] ∧ H p = some (.ins C dx []) ∧ ∀ T Kk Lo H', H T = none → H Kk = none → H Lo = none → StA C H' p T Kk Lo n [] [] → (∀ b o, H b = some o → b ≠ p → H' b = some o) → Q .non H'
def spSWeb (C : Addr) : Sp := fun vs H Q _ => ∃ (p T Kk Lo : Addr) (n : Nat) (ts : List Tie) (fl : List Bool), vs = [.ref p] ∧ StA C H p T Kk Lo n ts fl ∧ ∀ v H', Same H H' → WebAt H' v n ts → Q v H'
def spSBroken (C : Addr) : Sp := fun vs H Q _ => ∃ (p T Kk Lo : Addr) (n : Nat) (ts : List Tie) (fl : List Bool), vs = [.ref p] ∧ StA C H p T Kk Lo n ts fl ∧ ∀ r H', Same H H' → H' r = some (.tup ((knT fl false).map V.int)) → Q (.ref r) H'
def spSBack (C : Addr) : Sp := fun vs H Q _ => ∃ (p T Kk Lo : Addr) (n : Nat) (ts : List Tie) (fl : List Bool) (t : Tie) (b : Bool), vs = [.ref p] ∧ StA C H p T Kk Lo n (ts ++ [t]) (fl ++ [b]) ∧ ts.length = fl.length ∧ ∀ H', KS p T Kk Lo H H' → StA C H' p T Kk Lo n ts fl → Q .non H'
def spSCome (C : Addr) : Sp := fun vs H Q _ => ∃ (p T Kk Lo : Addr) (n : Nat) (ts : List Tie) (fl : List Bool) (t : Tie), vs = [.ref p, .int t.one, .int t.other, .str (kindS t.foe)] ∧ StA C H p T Kk Lo n ts fl ∧ SI n ts fl ∧ TieOk n t ∧
  (Kps (kt ts fl) t → ∀ H', KS p T Kk Lo H H' → StA C H' p T Kk Lo n (ts ++ [t]) (fl ++ [true]) → Q .non H') ∧
  (¬ Kps (kt ts fl) t → ∀ r a b qs ns H', KS p T Kk Lo H H' → StA C H' p T Kk Lo n (ts ++ [t]) (fl ++ [false]) → H' r = some (.tup [.ref a, .ref b]) → H' a = some (.tup (qs.map V.int)) → H' b = some (.tup ((ns ++ [(ts.length : Int)]).map V.int)) → Way (nN ts (knT fl true)) t.other t.one qs ns → (fpar ts ns ^^ t.foe) = true → Q (.ref r) H')
def spFoesIn : Sp := fun vs H Q _ => ∃ (wv : V) (r b : Addr) (x : V) (n : Int) (ts : List Tie) (ms : List Int), vs = [wv, .ref r] ∧ WebAt H wv n ts ∧ H r = some (.tup [x, .ref b]) ∧ H b = some (.tup (ms.map V.int)) ∧ ms.length ≤ 300 ∧ (∀ m ∈ ms, 0 ≤ m ∧ m < (ts.length : Int)) ∧ ∀ H', Same H H' → Q (.int (cntF ts ms : Nat)) H'
section
variable {P : Program} {w : World} {K : PySem.W.Frag} {mg : Str → Option Value} {base : Heap}
theorem ok_S_init {f C : Addr} {fd : FuncData} (F : Fun K "__init__" "Stand.__init__" s_Stand_init f fd) (T : STx K C) : FnOk P w K mg base CX0 1 f fd ["self", "many"] (spSInit C) := by
  refine F.ok sc_Stand_init (fun vs H Q E h => ?_) (fun cdv A outer s H vs Q E hr h => ?_)
  · obtain ⟨p, dx, n, rfl, _⟩ := h
    rfl
  · obtain ⟨p, dx, n, rfl, hp, q⟩ := h
    refine ⟨_, pss_cons (ps_fld (pv 0) (pv 1) rfl) (pss_cons (ps_fld (pv 0) (pe_lst pa_nil) rfl) (pss_cons (ps_fld (pv 0) (pe_lst pa_nil) rfl) (pss_one (ps_fld (pv 0) (pe_lst pa_nil) rfl)))), ?_⟩
    refine ⟨.int n, rfl, .ref p, rfl, p, C, dx, [], rfl, hp, T.cl, T.nM, by show 0 < 1000; decide, ?_⟩
    refine ⟨Nat.zero_le _, fun Ti nT => ?_⟩
    have nTp : Ti ≠ p := (ne_of_none upd_same nT).symm
    have nT0 : H Ti = none := by rw [upd_ne nTp] at nT; exact nT
    refine ⟨.ref p, rfl, p, C, dx, _, rfl, by rw [upd_ne (Ne.symm nTp)]; exact upd_same, T.cl, T.nT, by show 1 < 1000; decide, ?_⟩
    refine ⟨Nat.zero_le _, fun Kk nK => ?_⟩
    have nKp : Kk ≠ p := (ne_of_none upd_same nK).symm
    have nKT : Kk ≠ Ti := by
      have h1 : (upd (upd (upd H p (.ins C dx (putF "many" (V.int n) []))) Ti (.lst [])) p (.ins C dx (putF "ties" (V.ref Ti) (putF "many" (V.int n) [])))) Ti = some (.lst []) := by rw [upd_ne nTp]; exact upd_same
      exact (ne_of_none h1 nK).symm
    have nK0 : H Kk = none := by rw [upd_ne nKp, upd_ne nKT, upd_ne nKp] at nK; exact nK
    refine ⟨.ref p, rfl, p, C, dx, _, rfl, by rw [upd_ne (Ne.symm nKp)]; exact upd_same, T.cl, T.nK, by show 2 < 1000; decide, ?_⟩
    refine ⟨Nat.zero_le _, fun Lo nL => ?_⟩
    have nLp : Lo ≠ p := (ne_of_none upd_same nL).symm
    have nLK : Lo ≠ Kk := by
      refine (ne_of_none (o := .lst []) ?_ nL).symm
      rw [upd_ne nKp]
      exact upd_same
    have nLT : Lo ≠ Ti := by
      refine (ne_of_none (o := .lst []) ?_ nL).symm
      rw [upd_ne nTp, upd_ne (Ne.symm nKT), upd_ne nTp]
      exact upd_same
    have nL0 : H Lo = none := by rw [upd_ne nLp, upd_ne nLK, upd_ne nLp, upd_ne nLT, upd_ne nLp] at nL; exact nL
    refine ⟨.ref p, rfl, p, C, dx, _, rfl, by rw [upd_ne (Ne.symm nLp)]; exact upd_same, T.cl, T.nL, by show 3 < 1000; decide, ?_⟩
    refine q Ti Kk Lo _ nT0 nK0 nL0 ⟨⟨dx, upd_same⟩, ⟨[], ?_, .nil⟩, ?_, ?_, Ne.symm nKT, Ne.symm nLT, Ne.symm nLK⟩ fun b o e hb => ?_
    · rw [upd_ne nTp, upd_ne (Ne.symm nLT), upd_ne nTp, upd_ne (Ne.symm nKT), upd_ne nTp]
      exact upd_same
    · rw [upd_ne nKp, upd_ne (Ne.symm nLK), upd_ne nKp]
      exact upd_same
    · rw [upd_ne nLp]
      exact upd_same
    · rw [upd_ne hb, upd_ne (ne_of_none e nL0), upd_ne hb, upd_ne (ne_of_none e nK0), upd_ne hb, upd_ne (ne_of_none e nT0), upd_ne hb]
      exact e
theorem ok_S_web {f C : Addr} {fd : FuncData} (F : Fun K "web" "Stand.web" s_Stand_web f fd) (T : STx K C) (M : Free mg) : FnOk P w K mg base CX0 1 f fd ["self"] (spSWeb C) := by
  refine F.ok sc_Stand_web (fun vs H Q E h => ?_) (fun cdv A outer s H vs Q E hr h => ?_)
  · obtain ⟨p, Ti, Kk, Lo, n, ts, fl, rfl, _⟩ := h
    rfl
  · obtain ⟨p, Ti, Kk, Lo, n, ts, fl, rfl, S, q⟩ := h
    refine ⟨_, pss_one (ps_ret (pe_tup (pa_cons (pe_fld (pv 0) rfl) (pa_cons (pe_callTy call_tuple_of (by rfl) M.tuple (by decide +kernel) (pa_cons (pe_fld (pv 0) rfl) pa_nil)) pa_nil)))), ?_⟩
    obtain ⟨dx, h1⟩ := S.ob
    obtain ⟨us, h2, hp⟩ := S.hT
    refine ⟨.ref p, rfl, p, C, dx, _, _, rfl, h1, T.cl, T.nM, stF_many _ _ _ _, .ref p, rfl, p, C, dx, _, _, rfl, h1, T.cl, T.nT, stF_ties _ _ _ _, Ti, us, rfl, .inl ⟨SqL.of h2, fun b nb => ⟨by show 2 ≤ sizeLine; decide, fun a na => ?_⟩⟩⟩
    have s2 := (same_new (o := .tup us) nb).trans (same_new (o := .tup [.int n, .ref b]) na)
    exact q _ _ s2 ⟨a, b, us, rfl, upd_same, same_new na _ _ upd_same, ties_tk (Same.tk s2) hp⟩
theorem ok_S_broken {f C : Addr} {fd : FuncData} (F : Fun K "broken" "Stand.broken" s_Stand_broken f fd) (T : STx K C) (M : Free mg) : FnOk P w K mg base CX0 1 f fd ["self"] (spSBroken C) := by
  refine F.ok sc_Stand_broken (fun vs H Q E h => ?_) (fun cdv A outer s H vs Q E hr h => ?_)
  · obtain ⟨p, Ti, Kk, Lo, n, ts, fl, rfl, _⟩ := h
    rfl
  · obtain ⟨p, Ti, Kk, Lo, n, ts, fl, rfl, S, q⟩ := h
    refine ⟨_, pss_one (ps_ret (pe_callTy call_tuple_of (by rfl) M.tuple (by decide +kernel) (pa_cons (pe_fld (pv 0) rfl) pa_nil))), ?_⟩
    obtain ⟨dx, h1⟩ := S.ob
    exact ⟨.ref p, rfl, p, C, dx, _, _, rfl, h1, T.cl, T.nL, stF_lost _ _ _ _, Lo, _, rfl, .inl ⟨SqL.of S.hL, fun b nb => q b _ (same_new nb) upd_same⟩⟩
theorem ok_S_back {f C : Addr} {fd : FuncData} (F : Fun K "back" "Stand.back" s_Stand_back f fd) (T : STx K C) (M : Free mg) : FnOk P w K mg base CX0 1 f fd ["self"] (spSBack C) := by
  refine F.ok sc_Stand_back (fun vs H Q E h => ?_) (fun cdv A outer s H vs Q E hr h => ?_)
  · obtain ⟨p, Ti, Kk, Lo, n, ts, fl, t, b, rfl, _⟩ := h
    rfl
  · obtain ⟨p, Ti, Kk, Lo, n, ts, fl, t, b, rfl, S, hl, q⟩ := h
    refine ⟨_, pss_cons (ps_if (pt_not (pt_truth (pe_fld (pv 0) rfl) (by intro _; rfl))) (pss_one ps_never) pss_nil)
      (pss_cons (ps_expr (pe_bm0 PySem.F.plainAttrs_list PySem.F.slot_list_pop PySem.F.type_list_pop mt_pop (pe_fld (pv 0) rfl)))
      (pss_one (ps_if (pt_cmpR op_in_seq (pe_callB call_len_seq (by rfl) M.len PySem.boot_len (pa_cons (pe_fld (pv 0) rfl) pa_nil)) (pe_fld (pv 0) rfl) rfl)
        (pss_one (ps_expr (pe_bm0 PySem.F.plainAttrs_list PySem.F.slot_list_pop PySem.F.type_list_pop mt_pop (pe_fld (pv 0) rfl))))
        (pss_one (ps_expr (pe_bm0 PySem.F.plainAttrs_list PySem.F.slot_list_pop PySem.F.type_list_pop mt_pop (pe_fld (pv 0) rfl))))))), ?_⟩
    obtain ⟨dx, h1⟩ := S.ob
    obtain ⟨us, h2, hp⟩ := S.hT
    obtain ⟨vs, v, rfl, hps, hv⟩ := Paired.unsnoc hp
    have lv : vs.length = ts.length := Paired.length hps
    refine ⟨.ref p, rfl, p, C, dx, _, _, rfl, h1, T.cl, T.nT, stF_ties _ _ _ _, _, .inl ⟨_, SqL.of h2, rfl⟩, ?_⟩
    have hb : (!(vs ++ [v]).isEmpty) = true := by cases vs <;> rfl
    rw [hb]
    have pT : p ≠ Ti := ne_of h1 h2 (by intro z; cases z)
    have pK : p ≠ Kk := ne_of h1 S.hK (by intro z; cases z)
    have pL : p ≠ Lo := ne_of h1 S.hL (by intro z; cases z)
    refine ⟨.ref p, rfl, p, C, dx, _, _, rfl, h1, T.cl, T.nT, stF_ties _ _ _ _, .inl ⟨rfl, _, SqL.of h2⟩, Ti, _, v, rfl, rfl, h2, by simp, ?_⟩
    rw [List.dropLast_concat]
    have g1 : (upd H Ti (.lst vs)) p = some (.ins C dx (stF n Ti Kk Lo)) := by rw [upd_ne pT]; exact h1
    have g2 : (upd H Ti (.lst vs)) Ti = some (.lst vs) := upd_same
    have g3 : (upd H Ti (.lst vs)) Kk = some (.lst ((knT (fl ++ [b]) true).map V.int)) := by rw [upd_ne (Ne.symm S.n1)]; exact S.hK
    have g4 : (upd H Ti (.lst vs)) Lo = some (.lst ((knT (fl ++ [b]) false).map V.int)) := by rw [upd_ne (Ne.symm S.n2)]; exact S.hL
    have k1 : KS p Ti Kk Lo H (upd H Ti (.lst vs)) := fun x o _ e2 _ _ e => by rw [upd_ne e2]; exact e
    have hp1 := ties_tk (tk_lst (ys := vs) h2) hps
    generalize upd H Ti (.lst vs) = H1 at g1 g2 g3 g4 k1 hp1
    refine ⟨.ref p, rfl, p, C, dx, _, _, rfl, g1, T.cl, T.nT, stF_ties _ _ _ _, Ti, vs, rfl, .inl (SqL.of g2), .ref p, rfl, p, C, dx, _, _, rfl, g1, T.cl, T.nK, stF_kept _ _ _ _, Kk, _, rfl, .inl (SqL.of g3), rfl, flat_ints _, _, rfl, ?_⟩
    have inn : inV (.int (vs.length : Nat)) ((knT (fl ++ [b]) true).map V.int) = b := by
      have e1 : inV (.int (vs.length : Nat)) ((knT (fl ++ [b]) true).map V.int) = true ↔ ((vs.length : Nat) : Int) ∈ knT (fl ++ [b]) true := by
        unfold inV
        rw [List.any_map, List.any_eq_true]
        constructor
        · rintro ⟨x, hx, e⟩
          have e' : (x == ((vs.length : Nat) : Int)) = true := e
          rw [beq_iff_eq] at e'
          rw [← e']
          exact hx
        · intro h
          exact ⟨_, h, by show (((vs.length : Nat) : Int) == ((vs.length : Nat) : Int)) = true; simp⟩
      rw [mem_knT] at e1
      have e2 : (fl ++ [b])[((vs.length : Nat) : Int).toNat]? = some b := by
        rw [Int.toNat_natCast, lv, hl, List.getElem?_append_right (Nat.le_refl _)]
        simp
      rw [e2] at e1
      cases b with
      | true => exact e1.mpr ⟨⟨by omega, by rw [List.length_append]; simp; omega⟩, rfl⟩
      | false =>
        rw [Bool.eq_false_iff]
        intro z
        have := (e1.mp z).2
        cases this
    rw [inn]
    cases b with
    | true =>
      have e3 : knT (fl ++ [true]) true = knT fl true ++ [(fl.length : Int)] := by rw [knT_snoc, if_pos rfl]
      have e4 : knT (fl ++ [true]) false = knT fl false := by rw [knT_snoc, if_neg (by simp), List.append_nil]
      rw [e3, List.map_append] at g3
      rw [e4] at g4
      refine ⟨.ref p, rfl, p, C, dx, _, _, rfl, g1, T.cl, T.nK, stF_kept _ _ _ _, .inl ⟨rfl, _, SqL.of g3⟩, Kk, _, .int (fl.length : Int), rfl, rfl, g3, by simp, ?_⟩
      have e5 : ((knT fl true).map V.int ++ List.map V.int [(fl.length : Int)]).dropLast = (knT fl true).map V.int := by
        show ((knT fl true).map V.int ++ [V.int (fl.length : Int)]).dropLast = _
        rw [List.dropLast_concat]
      rw [e5]
      refine q _ (fun x o a1 a2 a3 a4 e => ?_) ⟨⟨dx, by rw [upd_ne pK]; exact g1⟩, ⟨vs, by rw [upd_ne S.n1]; exact g2, ties_tk (tk_lst g3) hp1⟩, upd_same, by rw [upd_ne (Ne.symm S.n3)]; exact g4, S.n1, S.n2, S.n3⟩
      rw [upd_ne a3]
      exact k1 x o a1 a2 a3 a4 e
    | false =>
      have e3 : knT (fl ++ [false]) true = knT fl true := by rw [knT_snoc, if_neg (by simp), List.append_nil]
      have e4 : knT (fl ++ [false]) false = knT fl false ++ [(fl.length : Int)] := by rw [knT_snoc, if_pos rfl]
      rw [e3] at g3
      rw [e4, List.map_append] at g4
      refine ⟨.ref p, rfl, p, C, dx, _, _, rfl, g1, T.cl, T.nL, stF_lost _ _ _ _, .inl ⟨rfl, _, SqL.of g4⟩, Lo, _, .int (fl.length : Int), rfl, rfl, g4, by simp, ?_⟩
      have e5 : ((knT fl false).map V.int ++ List.map V.int [(fl.length : Int)]).dropLast = (knT fl false).map V.int := by
        show ((knT fl false).map V.int ++ [V.int (fl.length : Int)]).dropLast = _
        rw [List.dropLast_concat]
      rw [e5]
      refine q _ (fun x o a1 a2 a3 a4 e => ?_) ⟨⟨dx, by rw [upd_ne pL]; exact g1⟩, ⟨vs, by rw [upd_ne S.n2]; exact g2, ties_tk (tk_lst g4) hp1⟩, by rw [upd_ne S.n3]; exact g3, upd_same, S.n1, S.n2, S.n3⟩
      rw [upd_ne a4]
      exact k1 x o a1 a2 a3 a4 e
end
section
variable {P : Program} {w : World} {K : PySem.W.Frag} {mg : Str → Option Value} {base : Heap}
theorem ok_foes_in {f : Addr} {fd : FuncData} (F : Fun K "foes_in" "foes_in" s_foes_in f fd) (M : Free mg) : FnOk P w K mg base CX0 1 f fd ["web", "ring"] spFoesIn := by
  refine F.ok sc_foes_in (fun vs H Q E h => ?_) (fun cdv A outer s H vs Q E hr h => ?_)
  · obtain ⟨wv, r, b, x, n, ts, ms, rfl, _⟩ := h
    rfl
  · obtain ⟨wv, r, b, x, n, ts, ms, rfl, ⟨wa, wb, us, rfl, hwa, hwb, hp⟩, hr1, hb, lm, hms, q⟩ := h
    refine ⟨_, (pss_one (ps_ret (pe_callB call_len_seq (by rfl) M.len PySem.boot_len (pa_cons (pe_lc (own := [("tie", 2)]) (g := gName 2) (te := tVar 2) rfl sc_foes_in.nd (pi_tup (pe_ix ix_tup (pv 1) pe_int (fun _ _ => rfl))) (blkOk_by (N := N_foes_in) (sc := defScope s_foes_in) (own := [("tie", 2)]) (by decide +kernel)) (fun _ _ _ _ _ => (pg_name (i := 2) sc_foes_in.nd rfl (.inl rfl))) (fun _ _ _ _ _ => (pts_one (pt_cmpR op_eq (pe_ix (r := rIxT K) ix_tup (pe_ix (r := rIxT K) ix_tup (pe_ix (r := rIxT K) ix_tup (pv 0) pe_int (fun _ _ => rfl)) (pv 2) (fun _ _ => rfl)) pe_int (fun _ _ => rfl)) pe_str (nomark _)))) (fun _ _ _ _ _ => (pv 2))) pa_nil)))), ?_⟩
    have lu : us.length = ts.length := Paired.length hp
    refine ⟨.ref r, rfl, r, _, 1, .ref b, rfl, rfl, SqT.of hr1, rfl, b, rfl, ⟨_, SqT.of hb⟩, fun Z nZ => ?_⟩
    refine lc_tup (xs := ms.map V.int) (fun i H' => H' Z = some (.lst (((ms.take i).filter fun m => (tieN ts m.toNat).foe).map V.int)) ∧ Same H H') ⟨upd_same, same_new nZ⟩ (fun i H' _ h => SqT.of (h.2 _ _ hb)) ?_ ?_
    · rintro i y H1 ey ⟨hZ, s1⟩
      rw [List.getElem?_map] at ey
      obtain ⟨m, em, rfl⟩ := Option.map_eq_some_iff.mp ey
      have hi := (List.getElem?_eq_some_iff.mp em).1
      have hm := hms m (List.mem_of_getElem? em)
      obtain ⟨v, e1, e2⟩ := getI (xs := us) hm.1 (by omega)
      obtain ⟨t, et, c, rfl, hc⟩ := Paired.at hp e2
      have ett : tieN ts m.toNat = t := tieN_of et
      refine ⟨rfl, .ref wa, rfl, wa, _, 1, .ref wb, rfl, rfl, SqT.of (s1 _ _ hwa), rfl, .int m, rfl, wb, us, m, .ref c, rfl, rfl, SqT.of (s1 _ _ hwb), e1, c, _, 2, .str (kindS t.foe), rfl, rfl, SqT.of (s1 _ _ hc), rfl, rfl, _, rfl, ?_⟩
      have lf : ((ms.take i).filter fun m => (tieN ts m.toNat).foe).length ≤ 300 := by
        have := List.length_filter_le (fun m : Int => (tieN ts m.toNat).foe) (ms.take i)
        rw [List.length_take] at this
        omega
      have ek : decide (V.str (kindS t.foe) = V.str "foe") = t.foe := by cases t.foe <;> decide +kernel
      rw [ek, List.take_add_one, em, List.filter_append]
      cases hf : t.foe with
      | true =>
        refine ⟨.int m, rfl, _, hZ, by rw [List.length_map]; exact small1000 (by omega), ?_, Same.mut s1 nZ⟩
        rw [upd_same, List.map_append]
        have : List.filter (fun m => (tieN ts m.toNat).foe) (some m).toList = [m] := by
          show List.filter _ [m] = [m]
          rw [List.filter_cons_of_pos (by rw [ett]; exact hf)]
          rfl
        rw [this]
        rfl
      | false =>
        have : List.filter (fun m => (tieN ts m.toNat).foe) (some m).toList = [] := by
          show List.filter _ [m] = []
          rw [List.filter_cons_of_neg (by rw [ett, hf]; simp)]
          rfl
        rw [this, List.append_nil]
        exact ⟨hZ, s1⟩
    · rintro H1 ⟨hZ, s1⟩
      rw [List.length_map, List.take_length] at hZ
      refine ⟨Z, _, rfl, .inl (SqL.of hZ), ?_⟩
      rw [List.length_map]
      exact q _ s1
theorem ok_S_come {f C : Addr} {fd : FuncData} (F : Fun K "come" "Stand.come" s_Stand_come f fd) (T : STx K C) (M : Free mg) (D_web : DfM P w K mg base 1 C "web" ["self"] (spSWeb C)) (D_around : Df P w K mg base 1 "ties_around" ["web", "numbers"] spAround) (D_walk : Df P w K mg base 1 "walk_from" ["start", "around"] spWalkFrom) (D_way : Df P w K mg base 1 "way_to" ["end", "walk"] spWayTo) (D_foes : Df P w K mg base 1 "foes_in" ["web", "ring"] spFoesIn) : FnOk P w K mg base CX0 2 f fd ["self", "one", "other", "kind"] (spSCome C) := by
  obtain ⟨fW, fdW, GW, mW, bW⟩ := D_web
  obtain ⟨f_ar, fd_ar, G_ar, g_ar, k_ar, b_ar⟩ := D_around
  obtain ⟨f_wk, fd_wk, G_wk, g_wk, k_wk, b_wk⟩ := D_walk
  obtain ⟨f_wy, fd_wy, G_wy, g_wy, k_wy, b_wy⟩ := D_way
  obtain ⟨f_fo, fd_fo, G_fo, g_fo, k_fo, b_fo⟩ := D_foes
  refine F.ok sc_Stand_come (fun vs H Q E h => ?_) (fun cdv A outer s H vs Q E hr h => ?_)
  · obtain ⟨p, Ti, Kk, Lo, n, ts, fl, t, rfl, _⟩ := h
    rfl
  · obtain ⟨p, Ti, Kk, Lo, n, ts, fl, t, rfl, S, si, okt, qk, ql⟩ := h
    have hu := room1 hr
    refine ⟨_, (pss_cons (ps_set (i := 4) sc_Stand_come.nd rfl (.inl rfl) (pe_callB call_len_seq (by rfl) M.len PySem.boot_len (pa_cons (pe_fld (pv 0) rfl) pa_nil)))
      (pss_cons (ps_set (i := 5) sc_Stand_come.nd rfl (.inl rfl) (pe_call G_wk hr (by rfl) g_wk k_wk b_wk .nil pass0 (pa_cons (pv 1) (pa_cons (pe_call G_ar hr (by rfl) g_ar k_ar b_ar .nil pass0 (pa_cons (pe_meth0 (pv 0) T.cl mW GW hr bW .nil pass0) (pa_cons (pe_fld (pv 0) rfl) pa_nil))) pa_nil))))
      (pss_cons (ps_expr (pe_bm PySem.F.plainAttrs_list PySem.F.slot_list_append PySem.F.type_list_append mt_append (pe_fld (pv 0) rfl) (pa_cons (pe_tup (pa_cons (pv 1) (pa_cons (pv 2) (pa_cons (pv 3) pa_nil)))) pa_nil)))
      (Evl.pss_cut (ps_if (pt_cmp (pc_din hu (pv 2) (pv 5)))
        (pss_cons (ps_asg (pe_call G_wy hr (by rfl) g_wy k_wy b_wy .nil pass0 (pa_cons (pv 2) (pa_cons (pv 5) pa_nil))) (pg_tup rfl (pgs_cons (pg_name (i := 6) sc_Stand_come.nd rfl (.inl rfl)) (pgs_cons (pg_name (i := 7) sc_Stand_come.nd rfl (.inl rfl)) pgs_nil))))
        (pss_cons (ps_set (i := 8) sc_Stand_come.nd rfl (.inl rfl) (pe_tup (pa_cons (pv 6) (pa_cons (pe_op op_catU (pv 7) (pe_tup (pa_cons (pv 4) pa_nil))) pa_nil))))
        (pss_one (ps_if (pt_cmpR op_eq (pe_op op_mod (pe_call G_fo hr (by rfl) g_fo k_fo b_fo .nil pass0 (pa_cons (pe_meth0 (pv 0) T.cl mW GW hr bW .nil pass0) (pa_cons (pv 8) pa_nil))) pe_int) pe_int (nomark _))
          (pss_cons (ps_expr (pe_bm PySem.F.plainAttrs_list PySem.F.slot_list_append PySem.F.type_list_append mt_append (pe_fld (pv 0) rfl) (pa_cons (pv 4) pa_nil)))
          (pss_one (ps_ret (pv 8))))
          pss_nil))))
        pss_nil)
      (pss_cons (ps_expr (pe_bm PySem.F.plainAttrs_list PySem.F.slot_list_append PySem.F.type_list_append mt_append (pe_fld (pv 0) rfl) (pa_cons (pv 4) pa_nil)))
      (pss_one (ps_ret pe_non))))))), ?_⟩
    obtain ⟨dx, h1⟩ := id S.ob
    obtain ⟨us, h2, hp⟩ := id S.hT
    have lu : us.length = ts.length := Paired.length hp
    have few := si.few
    have hlen := si.len
    have pT : p ≠ Ti := ne_of h1 h2 (by intro z; cases z)
    have pK : p ≠ Kk := ne_of h1 S.hK (by intro z; cases z)
    have pL : p ≠ Lo := ne_of h1 S.hL (by intro z; cases z)
    have no : ∀ m : Str, ¬ m = "lost" → ¬ m = "kept" → ¬ m = "ties" → ¬ m = "many" → (stF n Ti Kk Lo).lookup m = none := fun m a b c d => stF_no _ _ _ _ a b c d
    have knl := knT_len fl true
    have knl2 := knT_len fl false
    have kin : ∀ m ∈ knT fl true, 0 ≤ m ∧ m < (ts.length : Int) := fun m hm => by
      have := (mem_knT.mp hm).1
      omega
    have tmem : ∀ m ∈ knT fl true, tieN ts m.toNat ∈ ts := fun m hm => by
      have h3 := kin m hm
      have h4 : m.toNat < ts.length := by omega
      unfold tieN
      rw [List.getD_eq_getElem?_getD, List.getElem?_eq_getElem h4]
      exact List.getElem_mem h4
    have hN : ∀ x q, q ∈ nN ts (knT fl true) x → 0 ≤ q.1 ∧ q.1 < (n : Int) := fun x q hq => by
      obtain ⟨a1, a2⟩ := mem_nN.mp hq
      have o := si.ok _ (tmem _ a1)
      rcases a2 with ⟨_, e⟩ | ⟨e, _⟩
      · rw [← e]
        exact ⟨o.2.2.1, o.2.2.2.1⟩
      · rw [← e]
        exact ⟨o.1, o.2.1⟩
    -- number
    refine ⟨.ref p, rfl, p, C, dx, _, _, rfl, h1, T.cl, T.nT, stF_ties _ _ _ _, Ti, us, rfl, .inl (SqL.of h2), ?_⟩
    rw [lu]
    -- walk
    refine ⟨.int t.one, rfl, .ref p, rfl, p, dx, _, rfl, h1, no _ (by decide +kernel) (by decide +kernel) (by decide +kernel) (by decide +kernel), p, Ti, Kk, Lo, n, ts, fl, rfl, S, fun v H1 s1 hW1 => ?_⟩
    have S1 := S.same s1
    refine ⟨.ref p, rfl, p, C, dx, _, _, rfl, s1 _ _ h1, T.cl, T.nK, stF_kept _ _ _ _, v, Kk, n, ts, knT fl true, rfl, hW1, by omega, S1.hK, by omega, kin, fun u H2 s2 hA2 => ?_⟩
    refine ⟨u, n, t.one, nN ts (knT fl true), rfl, hA2, okt.1, okt.2.1, by have := si.n40; omega, hN, fun D ws H3 s3 hw wf lws => ?_⟩
    have s13 := (s1.trans s2).trans s3
    have S3 := S.same s13
    obtain ⟨dx3, g1⟩ := id S3.ob
    obtain ⟨us3, g2, hp3⟩ := id S3.hT
    have n40 := si.n40
    -- the tie comes
    refine ⟨.ref p, rfl, p, C, dx3, _, _, rfl, g1, T.cl, T.nT, stF_ties _ _ _ _, .inl ⟨rfl, _, SqL.of g2⟩, .int t.one, rfl, .int t.other, rfl, .str (kindS t.foe), rfl, by show 3 ≤ sizeLine; decide, fun Z nZ => ?_⟩
    have sZ := same_new (o := .tup [.int t.one, .int t.other, .str (kindS t.foe)]) nZ
    have lu3 : us3.length = ts.length := Paired.length hp3
    refine ⟨Ti, us3, _, rfl, rfl, sZ _ _ g2, small1000 (by omega), ?_⟩
    have tk4 := tk_lst (ys := us3 ++ [.ref Z]) (sZ _ _ g2)
    have m1 : ∀ b o, b ≠ Ti → H3 b = some o → (upd (upd H3 Z (.tup [.int t.one, .int t.other, .str (kindS t.foe)])) Ti (.lst (us3 ++ [.ref Z]))) b = some o := fun b o hb e => by
      rw [upd_ne hb]
      exact sZ _ _ e
    have k4 : KS p Ti Kk Lo H (upd (upd H3 Z (.tup [.int t.one, .int t.other, .str (kindS t.foe)])) Ti (.lst (us3 ++ [.ref Z]))) := fun b o _ e2 _ _ e => m1 b o e2 (s13 b o e)
    have f1 := m1 p _ pT g1
    have f2 : (upd (upd H3 Z (.tup [.int t.one, .int t.other, .str (kindS t.foe)])) Ti (.lst (us3 ++ [.ref Z]))) Ti = some (.lst (us3 ++ [.ref Z])) := upd_same
    have f3 := m1 Kk _ (Ne.symm S.n1) S3.hK
    have f4 := m1 Lo _ (Ne.symm S.n2) S3.hL
    have fp : Paired (TieV (upd (upd H3 Z (.tup [.int t.one, .int t.other, .str (kindS t.foe)])) Ti (.lst (us3 ++ [.ref Z])))) (us3 ++ [.ref Z]) (ts ++ [t]) := Paired.snoc (ties_tk tk4 (ties_tk (Same.tk sZ) hp3)) ⟨Z, rfl, tk4 _ _ upd_same⟩
    have hw4 : WalkAt (upd (upd H3 Z (.tup [.int t.one, .int t.other, .str (kindS t.foe)])) Ti (.lst (us3 ++ [.ref Z]))) D ws := by
      obtain ⟨kvs, w1, w2⟩ := hw
      exact ⟨kvs, m1 D _ (ne_of w1 g2 (by intro z; cases z)) w1, wes_tk ((Same.tk sZ).trans tk4) w2⟩
    generalize upd (upd H3 Z (.tup [.int t.one, .int t.other, .str (kindS t.foe)])) Ti (.lst (us3 ++ [.ref Z])) = H4 at k4 f1 f2 f3 f4 fp hw4
    have reach := wf.reach hlen t.other
    refine ⟨fun σ' H' => ∃ (y6 y7 y8 : Option V), σ' = [some (.ref p), some (.int t.one), some (.int t.other), some (.str (kindS t.foe)), some (.int (ts.length : Nat)), some (.ref D), y6, y7, y8] ∧ Same H4 H' ∧ Kps (kt ts fl) t, ?_, ?_⟩
    · obtain ⟨kvs, w1, w2⟩ := id hw4
      refine ⟨.int t.other, rfl, .ref D, rfl, D, _, rfl, DGet.k (k := Sum.inl t.other) w1, _, rfl, ?_⟩
      by_cases hin : t.other ∈ ws.map (·.1)
      · obtain ⟨k, g, he⟩ := we_key hin
        obtain ⟨ad, ev, _⟩ := wes_some w2 wf.nd he
        rw [ev]
        have hk := wf.low he
        refine ⟨.int t.other, rfl, .ref D, rfl, t.other, t.one, D, ws, _, k, g, rfl, hw4, wf, he, by omega, fun r a b qs ns H5 s5 hr5 ha5 hb5 way ln => ?_⟩
        refine ⟨r, _, rfl, SqT.of hr5, rfl, _, _, rfl, _, _, rfl, rfl, ?_⟩
        refine ⟨.ref a, rfl, .ref b, rfl, .int (ts.length : Nat), rfl, by show 1 ≤ sizeLine; decide, fun o1 no1 => ?_⟩
        have so1 := same_new (o := .tup [.int (ts.length : Nat)]) no1
        refine ⟨b, o1, _, _, rfl, rfl, so1 _ _ hb5, upd_same, by rw [List.length_map]; show ns.length + 1 ≤ 100000; omega, fun r6 H6 s6 h6 => ⟨by show 2 ≤ sizeLine; decide, fun rr nrr => ?_⟩⟩
        have h6' : H6 r6 = some (.tup ((ns ++ [(ts.length : Int)]).map V.int)) := by rw [List.map_append]; exact h6
        have s7 := same_new (o := .tup [.ref a, .ref r6]) nrr
        have s47 := ((s5.trans so1).trans s6).trans s7
        have a7 := s7 _ _ (s6 _ _ (so1 _ _ ha5))
        have b7 := s7 _ _ h6'
        have r7 : (upd H6 rr (.tup [.ref a, .ref r6])) rr = some (.tup [.ref a, .ref r6]) := upd_same
        generalize upd H6 rr (.tup [.ref a, .ref r6]) = H7 at s47 a7 b7 r7
        -- the web with the tie
        have S7 : StA C H7 p Ti Kk Lo n (ts ++ [t]) (fl ++ []) := by
          rw [List.append_nil]
          exact ⟨⟨dx3, s47 _ _ f1⟩, ⟨_, s47 _ _ f2, ties_tk (Same.tk s47) fp⟩, s47 _ _ f3, s47 _ _ f4, S.n1, S.n2, S.n3⟩
        refine ⟨.ref p, rfl, p, dx3, _, rfl, s47 _ _ f1, no _ (by decide +kernel) (by decide +kernel) (by decide +kernel) (by decide +kernel), p, Ti, Kk, Lo, n, ts ++ [t], fl ++ [], rfl, S7, fun v8 H8 s8 hW8 => ?_⟩
        have nin := way.num
        have lnn := way.len
        refine ⟨.ref rr, rfl, v8, rr, r6, _, n, ts ++ [t], ns ++ [(ts.length : Int)], rfl, hW8, s8 _ _ r7, s8 _ _ b7, by rw [List.length_append]; show ns.length + 1 ≤ 300; omega, fun m hm => ?_, fun H9 s9 => ?_⟩
        · rw [List.length_append]
          show 0 ≤ m ∧ m < ((ts.length + 1 : Nat) : Int)
          rcases List.mem_append.mp hm with z | z
          · have := kin m (nin m z)
            omega
          · rw [List.mem_singleton.mp z]
            omega
        refine ⟨_, 2, rfl, rfl, (show (0 : Int) < 2 by decide), rfl, _, rfl, ?_⟩
        have par : decide (V.int (((cntF (ts ++ [t]) (ns ++ [(ts.length : Int)]) : Nat) : Int) % 2) = V.int 1) = (fpar ts ns ^^ t.foe) := by
          rw [dec_int', cntF_par, fpar_snoc]
          have e1 : tieN (ts ++ [t]) ((ts.length : Int)).toNat = t := tieN_of (by rw [Int.toNat_natCast, List.getElem?_append_right (Nat.le_refl _)]; simp)
          have e2 : ∀ ms : List Int, (∀ m ∈ ms, m ∈ knT fl true) → fpar (ts ++ [t]) ms = fpar ts ms := fun ms => by
            induction ms with
            | nil => exact fun _ => rfl
            | cons m ms ih =>
              intro hh
              show ((tieN (ts ++ [t]) m.toNat).foe ^^ fpar (ts ++ [t]) ms) = ((tieN ts m.toNat).foe ^^ fpar ts ms)
              rw [ih (fun x hx => hh x (List.mem_cons_of_mem _ hx))]
              have hm := kin m (hh m (by simp))
              have : tieN (ts ++ [t]) m.toNat = tieN ts m.toNat := by
                unfold tieN
                rw [List.getD_eq_getElem?_getD, List.getD_eq_getElem?_getD, List.getElem?_append_left (by omega)]
              rw [this]
          rw [e1, e2 ns nin]
        rw [par]
        have rpw := way_rp hlen way
        have s49 := s47.trans (s8.trans s9)
        have G1 := s49 _ _ f1
        have G2 := s49 _ _ f2
        have G3 := s49 _ _ f3
        have G4 := s49 _ _ f4
        have GP := ties_tk (Same.tk s49) fp
        have rr9 := s9 _ _ (s8 _ _ r7)
        have ra9 := s9 _ _ (s8 _ _ a7)
        have rb9 := s9 _ _ (s8 _ _ b7)
        cases hb : (fpar ts ns ^^ t.foe) with
        | true =>
          have nk : ¬ Kps (kt ts fl) t := by
            rintro (z | z)
            · exact z ⟨_, rpw⟩
            · have e := rp_one si.calm ⟨okt.1, okt.2.1⟩ rpw z
              rw [e, Bool.xor_self] at hb
              cases hb
          refine ⟨.ref p, rfl, p, C, dx3, _, _, rfl, G1, T.cl, T.nL, stF_lost _ _ _ _, .inl ⟨rfl, _, SqL.of G4⟩, .int (ts.length : Nat), rfl, Lo, _, _, rfl, rfl, G4, by rw [List.length_map]; exact small1000 (by omega), ?_⟩
          refine ⟨.ref rr, rfl, ?_⟩
          have tk := tk_lst (ys := (knT fl false).map V.int ++ [.int (ts.length : Nat)]) G4
          refine ql nk rr a r6 qs ns _ (fun b o a1 a2 a3 a4 e => ?_) ⟨⟨dx3, by rw [upd_ne pL]; exact G1⟩, ⟨_, by rw [upd_ne S.n2]; exact G2, ties_tk tk GP⟩, ?_, ?_, S.n1, S.n2, S.n3⟩ (tk _ _ rr9) (tk _ _ ra9) (tk _ _ rb9) way hb
          · rw [upd_ne a4]
            exact s49 _ _ (k4 b o a1 a2 a3 a4 e)
          · rw [upd_ne S.n3, knT_snoc, if_neg (by simp), List.append_nil]
            exact G3
          · rw [upd_same, knT_snoc, if_pos rfl, List.map_append, hlen]
            rfl
        | false =>
          refine ⟨_, _, _, rfl, s49, .inr ?_⟩
          have : fpar ts ns = t.foe := by
            revert hb
            cases fpar ts ns <;> cases t.foe <;> simp
          rw [← this]
          exact rpw
      · rw [wes_none w2 hin]
        exact ⟨none, none, none, rfl, Same.refl _, .inl fun r => hin (reach.mpr r)⟩
    · rintro σ' H5 ⟨y6, y7, y8, rfl, s5, hk⟩
      have G1 := s5 _ _ f1
      have G2 := s5 _ _ f2
      have G3 := s5 _ _ f3
      have G4 := s5 _ _ f4
      refine ⟨.ref p, rfl, p, C, dx3, _, _, rfl, G1, T.cl, T.nK, stF_kept _ _ _ _, .inl ⟨rfl, _, SqL.of G3⟩, .int (ts.length : Nat), rfl, Kk, _, _, rfl, rfl, G3, by rw [List.length_map]; exact small1000 (by omega), ?_⟩
      have tk := tk_lst (ys := (knT fl true).map V.int ++ [.int (ts.length : Nat)]) G3
      refine qk hk _ (fun b o a1 a2 a3 a4 e => ?_) ⟨⟨dx3, by rw [upd_ne pK]; exact G1⟩, ⟨_, by rw [upd_ne S.n1]; exact G2, ties_tk tk (ties_tk (Same.tk s5) fp)⟩, ?_, ?_, S.n1, S.n2, S.n3⟩
      · rw [upd_ne a3]
        exact s5 _ _ (k4 b o a1 a2 a3 a4 e)
      · rw [upd_same, knT_snoc, if_pos rfl, List.map_append, hlen]
        rfl
      · rw [upd_ne (Ne.symm S.n3), knT_snoc, if_neg (by simp), List.append_nil]
        exact G4
end
/-! ### the stand's laws: wells, sizes, deeds -/
def Well (H : Hp) (d : Addr) (b : Int) : Prop := ∃ x c : Int, H d = some (.lst [.int x, .int c]) ∧ 0 ≤ c ∧ c ≤ b
def KW (d : Addr) (H H' : Hp) : Prop := ∀ b o, b ≠ d → H b = some o → H' b = some o
theorem KW.trans {d : Addr} {H H1 H2 : Hp} (a : KW d H H1) (b : KW d H1 H2) : KW d H H2 := fun x o h1 h => b x o h1 (a x o h1 h)
theorem Same.kw {d : Addr} {H H' : Hp} (s : Same H H') : KW d H H' := fun b o _ h => s b o h
theorem KW.same {d : Addr} {H H1 H2 : Hp} (k : KW d H1 H2) (s : Same H H1) (n : H d = none) : Same H H2 := fun b o e => k b o (ne_of_none e n) (s b o e)
theorem Well.same {H H' : Hp} {d : Addr} {b : Int} (h : Well H d b) (s : Same H H') : Well H' d b := by
  obtain ⟨x, c, h1, h2⟩ := h
  exact ⟨x, c, s _ _ h1, h2⟩
def spDraw : Sp := fun vs H Q _ => ∃ (d : Addr) (b m : Int), vs = [.ref d, .int m] ∧ Well H d b ∧ b ≤ 100000 ∧ 0 < m ∧ m.natAbs < 2 ^ 120 ∧ ∀ v H', 0 ≤ v → v < m → Well H' d (b + 1) → KW d H H' → Q (.int v) H'
def spCell (K : PySem.W.Frag) : Sp := fun vs H Q _ => ∃ (sc : Addr) (ns : List Int) (k : Int), vs = [.ref sc, .int k] ∧ SqL K H sc (ns.map V.int) ∧ 0 ≤ k ∧ ∀ v, Q (.int v) H
def spSize (K : PySem.W.Frag) : Sp := fun vs H Q _ => ∃ (sc : Addr) (ns : List Int), vs = [.ref sc] ∧ SqL K H sc (ns.map V.int) ∧ ∀ r (n : Nat) (de : Int) (b : Bool) H', Same H H' → H' r = some (.tup [.int n, .int de, .bl b]) → 1 ≤ n → n ≤ 40 → 4 ≤ de → de ≤ 203 → Q (.ref r) H'
def spDeed (K : PySem.W.Frag) : Sp := fun vs H Q _ => ∃ (sc L : Addr) (ns : List Int) (k : Int) (n : Nat) (us : List V) (ts : List Tie) (b : Bool), vs = [.ref sc, .int k, .int n, .ref L, .bl b] ∧ SqL K H sc (ns.map V.int) ∧ 0 ≤ k ∧ k ≤ 203 ∧ 1 ≤ n ∧ n ≤ 40 ∧ H L = some (.lst us) ∧ Paired (TieV H) us ts ∧ (∀ t ∈ ts, TieOk n t) ∧ ts.length ≤ 120 ∧
  (∀ H', Same H H' → Q .non H') ∧ ∀ a t H', Same H H' → H' a = some (.tup [.int t.one, .int t.other, .str (kindS t.foe)]) → TieOk n t → ts.length ≤ 119 → Q (.ref a) H'
section
variable {P : Program} {w : World} {K : PySem.W.Frag} {mg : Str → Option Value} {base : Heap}
theorem ok_l_cell_at {f : Addr} {fd : FuncData} (F : Fun K "_law_cell_at" "_law_cell_at" s_l_cell_at f fd) (M : Free mg) : FnOk P w K mg base CX0 1 f fd ["_law_script", "_law_k"] (spCell K) := by
  refine F.ok sc_l_cell_at (fun vs H Q E h => ?_) (fun cdv A outer s H vs Q E hr h => ?_)
  · obtain ⟨sc, ns, k, rfl, _⟩ := h
    rfl
  · obtain ⟨sc, ns, k, rfl, hS, k0, q⟩ := h
    refine ⟨_, (pss_cons (ps_if (pt_cmpR op_lt (pv 1) (pe_callB call_len_seq (by rfl) M.len PySem.boot_len (pa_cons (pv 0) pa_nil)) (nomark _))
        (pss_one (ps_ret (pe_ix ix_list (pv 0) (pv 1) (fun _ _ => rfl))))
        pss_nil)
      (pss_one (ps_ret pe_int))), ?_⟩
    refine ⟨.int k, rfl, .ref sc, rfl, sc, _, rfl, .inl hS, k, _, rfl, rfl, _, rfl, ?_⟩
    refine ite2 (fun h => ?_) (fun _ => q 0)
    have h : k < ((ns.map V.int).length : Int) := of_decide_eq_true h
    rw [List.length_map] at h
    obtain ⟨x, _, _, ex⟩ := atI_ints k0 h
    exact ⟨.ref sc, rfl, .int k, rfl, sc, _, k, .int x, rfl, rfl, hS, ex, q x⟩
theorem ok_l_draw {f : Addr} {fd : FuncData} (F : Fun K "_law_draw" "_law_draw" s_l_draw f fd) (m_abs : mg "abs" = none) : FnOk P w K mg base CX0 1 f fd ["_law_well", "_law_many"] spDraw := by
  refine F.ok sc_l_draw (fun vs H Q E h => ?_) (fun cdv A outer s H vs Q E hr h => ?_)
  · obtain ⟨d, b, m, rfl, _⟩ := h
    rfl
  · obtain ⟨d, b, m, rfl, ⟨x, c, hd, c0, c1⟩, b1, hm, hb, q⟩ := h
    refine ⟨_, (pss_cons (ps_asg (pe_op op_add (pe_ix ix_list (pv 0) pe_int (fun _ _ => rfl)) pe_int) (pg_sub (pv 0) pe_int set_list))
      (pss_cons (ps_if (pt_cmpR op_ge (pe_callB call_abs (by rfl) m_abs (by decide +kernel) (pa_cons (pe_ix ix_list (pv 0) pe_int (fun _ _ => rfl)) pa_nil)) (pe_op op_pow pe_int pe_int) (nomark _))
        (pss_cons (ps_set (i := 2) sc_l_draw.nd rfl (.inl rfl) (pe_op op_mod (pe_ix ix_list (pv 0) pe_int (fun _ _ => rfl)) (pv 1)))
        (pss_cons (ps_asg (pe_op op_fdivW (pe_ix ix_list (pv 0) pe_int (fun _ _ => rfl)) (pv 1)) (pg_sub (pv 0) pe_int set_list))
        (pss_one (ps_ret (pv 2)))))
        pss_nil)
      (Evl.pss_cut (ps_set (i := 3) sc_l_draw.nd rfl (.inl rfl) (pe_op op_mod (pe_op op_mul (pe_op op_add (pe_op op_add (pe_op op_mod (pe_ix ix_list (pv 0) pe_int (fun _ _ => rfl)) pe_int) (pe_op op_mul (pe_op op_mul pe_int (pe_ix ix_list (pv 0) pe_int (fun _ _ => rfl))) (pe_ix ix_list (pv 0) pe_int (fun _ _ => rfl)))) pe_int) pe_int) pe_int))
      (Evl.pss_cut (ps_set (i := 3) sc_l_draw.nd rfl (.inl rfl) (pe_op op_mod (pe_op op_add (pe_op op_mul (pv 3) (pv 3)) (pe_op op_mul pe_int (pe_ix ix_list (pv 0) pe_int (fun _ _ => rfl)))) pe_int))
      (pss_one (ps_ret (pe_op op_mod (pe_op op_fdiv (pv 3) pe_int) (pv 1)))))))), ?_⟩
    refine ⟨.ref d, rfl, d, _, 1, .int c, rfl, rfl, SqL.of hd, rfl, c, 1, rfl, rfl, .ref d, rfl, d, _, 1, 1, rfl, rfl, hd, rfl, ?_⟩
    have hd1 : (upd H d (.lst ([V.int x, .int c].set 1 (.int (c + 1))))) d = some (.lst [.int x, .int (c + 1)]) := upd_same
    have k1 : KW d H (upd H d (.lst ([V.int x, .int c].set 1 (.int (c + 1))))) := fun b o hb e => by rw [upd_ne hb]; exact e
    generalize upd H d (.lst ([V.int x, .int c].set 1 (.int (c + 1)))) = H1 at hd1 k1
    refine ⟨.ref d, rfl, d, _, 0, .int x, rfl, rfl, SqL.of hd1, rfl, x, rfl, 10, 18, rfl, rfl, ⟨by decide, by decide, by decide⟩, _, _, rfl, rfl, _, rfl, ?_⟩
    refine ite2 (fun _ => ?_) (fun _ => ?_)
    · refine ⟨.ref d, rfl, d, _, 0, .int x, rfl, rfl, SqL.of hd1, rfl, .int m, rfl, x, m, rfl, rfl, hm, ?_⟩
      refine ⟨.ref d, rfl, d, _, 0, .int x, rfl, rfl, SqL.of hd1, rfl, .int m, rfl, x, m, rfl, rfl, wide_div hm hb (by decide) (by decide), .ref d, rfl, d, _, 0, 0, rfl, rfl, hd1, rfl, ?_⟩
      exact ⟨_, rfl, q _ _ (mod_rng hm).1 (mod_rng hm).2 ⟨x / m, c + 1, upd_same, by omega, by omega⟩ (k1.trans fun b o hb e => by rw [upd_ne hb]; exact e)⟩
    · refine ⟨fun σ' H' => ∃ N : Int, σ' = [some (.ref d), some (.int m), none, some (.int N)] ∧ 0 ≤ N ∧ N < 2147483647 ∧ H' = H1, ?_, ?_⟩
      · exact ⟨.ref d, rfl, d, _, 0, .int x, rfl, rfl, SqL.of hd1, rfl, x, 2147483629, rfl, rfl, show (0 : Int) < 2147483629 by decide, .ref d, rfl, d, _, 1, .int (c + 1), rfl, rfl, SqL.of hd1, rfl, 7919, c + 1, rfl, rfl, .inl ⟨by decide, by decide⟩, .ref d, rfl, d, _, 1, .int (c + 1), rfl, rfl, SqL.of hd1, rfl, _, c + 1, rfl, rfl, .inr ⟨by omega, by omega⟩, _, _, rfl, rfl, _, 31, rfl, rfl, _, 48271, rfl, rfl, .inr ⟨by decide, by decide⟩, _, 2147483647, rfl, rfl, show (0 : Int) < 2147483647 by decide, _, rfl, (mod_rng (by decide)).1, (mod_rng (by decide)).2, rfl⟩
      rintro σ' H' ⟨N, rfl, N0, N1, rfl⟩
      refine ⟨fun σ' H'' => ∃ M : Int, σ' = [some (.ref d), some (.int m), none, some (.int M)] ∧ 0 ≤ M ∧ H'' = H', ?_, ?_⟩
      · exact ⟨.int N, rfl, .int N, rfl, N, N, rfl, rfl, .inl ⟨by omega, by omega⟩, .ref d, rfl, d, _, 1, .int (c + 1), rfl, rfl, SqL.of hd1, rfl, 69621, c + 1, rfl, rfl, .inl ⟨by decide, by decide⟩, _, _, rfl, rfl, _, 2147483587, rfl, rfl, show (0 : Int) < 2147483587 by decide, _, rfl, (mod_rng (by decide)).1, rfl⟩
      rintro σ' H'' ⟨M, rfl, M0, rfl⟩
      refine ⟨.int M, rfl, M, 64, rfl, rfl, ⟨by decide, by decide⟩, .int m, rfl, _, m, rfl, rfl, hm, ?_⟩
      exact q _ _ (mod_rng hm).1 (mod_rng hm).2 ⟨x, c + 1, hd1, by omega, by omega⟩ k1
theorem ok_l_size {f : Addr} {fd : FuncData} (F : Fun K "_law_size" "_law_size" s_l_size f fd) (M : Free mg) (D_l_cell_at : Df P w K mg base 1 "_law_cell_at" ["_law_script", "_law_k"] (spCell K)) (D_l_draw : Df P w K mg base 1 "_law_draw" ["_law_well", "_law_many"] spDraw) : FnOk P w K mg base CX0 2 f fd ["_law_script"] (spSize K) := by
  obtain ⟨f_l_cell_at, fd_l_cell_at, G_l_cell_at, g_l_cell_at, k_l_cell_at, b_l_cell_at⟩ := D_l_cell_at
  obtain ⟨f_l_draw, fd_l_draw, G_l_draw, g_l_draw, k_l_draw, b_l_draw⟩ := D_l_draw
  refine F.ok sc_l_size (fun vs H Q E h => ?_) (fun cdv A outer s H vs Q E hr h => ?_)
  · obtain ⟨sc, ns, rfl, _⟩ := h
    rfl
  · obtain ⟨sc, ns, rfl, hS, q⟩ := h
    refine ⟨_, (pss_cons (ps_set (i := 1) sc_l_size.nd rfl (.inl rfl) (pe_lst (pa_cons (pe_call G_l_cell_at (hr.mono (by decide)) (by rfl) g_l_cell_at k_l_cell_at b_l_cell_at .nil pass0 (pa_cons (pv 0) (pa_cons pe_int pa_nil))) (pa_cons pe_int pa_nil))))
      (Evl.pss_cut (ps_set (i := 2) sc_l_size.nd rfl (.inl rfl) (pe_callTy call_int1 (by rfl) M.int (by decide +kernel) (pa_cons (pe_cmpR op_eq (pe_call G_l_draw (hr.mono (by decide)) (by rfl) g_l_draw k_l_draw b_l_draw .nil pass0 (pa_cons (pv 1) (pa_cons pe_int pa_nil))) pe_int (nomark _)) pa_nil)))
      (Evl.pss_cut (ps_set (i := 3) sc_l_size.nd rfl (.inl rfl) (pe_op op_add pe_int (pe_call G_l_draw (hr.mono (by decide)) (by rfl) g_l_draw k_l_draw b_l_draw .nil pass0 (pa_cons (pv 1) (pa_cons (pe_ix ix_list (pe_lst (pa_cons pe_int (pa_cons pe_int pa_nil))) (pv 2) (fun _ _ => rfl)) pa_nil)))))
      (Evl.pss_cut (ps_set (i := 4) sc_l_size.nd rfl (.inl rfl) (pe_op op_add pe_int (pe_call G_l_draw (hr.mono (by decide)) (by rfl) g_l_draw k_l_draw b_l_draw .nil pass0 (pa_cons (pv 1) (pa_cons (pe_ix ix_list (pe_lst (pa_cons pe_int (pa_cons pe_int pa_nil))) (pv 2) (fun _ _ => rfl)) pa_nil)))))
      (pss_one (ps_ret (pe_tup (pa_cons (pv 3) (pa_cons (pv 4) (pa_cons (pe_cmpR op_eq (pe_call G_l_draw (hr.mono (by decide)) (by rfl) g_l_draw k_l_draw b_l_draw .nil pass0 (pa_cons (pv 1) (pa_cons pe_int pa_nil))) pe_int (nomark _)) pa_nil)))))))))), ?_⟩
    refine ⟨.ref sc, rfl, sc, ns, 0, rfl, hS, by decide, fun cell => ⟨by show 2 ≤ sizeLine; decide, fun d nd => ?_⟩⟩
    refine ⟨fun σ' H' => ∃ g : Bool, σ' = [some (.ref sc), some (.ref d), some (.int (if g = true then 1 else 0)), none, none] ∧ Well H' d 1 ∧ Same H H', ?_, ?_⟩
    · exact ⟨.ref d, rfl, d, 0, 8, rfl, ⟨cell, 0, upd_same, by decide, by decide⟩, by decide, by decide, by decide, fun v H1 a1 b1 W1 K1 => ⟨rfl, .inr ⟨_, rfl, _, rfl, W1, K1.same (same_new nd) nd⟩⟩⟩
    rintro σ' H1 ⟨g, rfl, W1, s1⟩
    refine ⟨fun σ' H' => ∃ n : Nat, σ' = [some (.ref sc), some (.ref d), some (.int (if g = true then 1 else 0)), some (.int n), none] ∧ 1 ≤ n ∧ n ≤ 40 ∧ Well H' d 2 ∧ Same H H', ?_, ?_⟩
    · refine ⟨.ref d, rfl, by show 2 ≤ sizeLine; decide, fun p np => ⟨_, rfl, p, _, _, _, rfl, rfl, SqL.of upd_same, pick2 _ _ _, ?_⟩⟩
      have W2 := W1.same (same_new (o := .lst [.int 6, .int 40]) np)
      have s2 := s1.trans (same_new (o := .lst [.int 6, .int 40]) np)
      cases g with
      | true =>
        refine ⟨d, 1, 40, rfl, W2, by decide, by decide, by decide, fun v H2 a2 b2 W2 K2 => ⟨1, v, rfl, rfl, (1 + v).toNat, ?_, by omega, by omega, W2, K2.same s2 nd⟩⟩
        rw [show (((1 + v).toNat : Nat) : Int) = 1 + v from by omega]
        rfl
      | false =>
        refine ⟨d, 1, 6, rfl, W2, by decide, by decide, by decide, fun v H2 a2 b2 W2 K2 => ⟨1, v, rfl, rfl, (1 + v).toNat, ?_, by omega, by omega, W2, K2.same s2 nd⟩⟩
        rw [show (((1 + v).toNat : Nat) : Int) = 1 + v from by omega]
        rfl
    rintro σ' H2 ⟨n, rfl, n1, n2, W2, s2⟩
    refine ⟨fun σ' H' => ∃ de : Int, σ' = [some (.ref sc), some (.ref d), some (.int (if g = true then 1 else 0)), some (.int n), some (.int de)] ∧ 4 ≤ de ∧ de ≤ 203 ∧ Well H' d 3 ∧ Same H H', ?_, ?_⟩
    · refine ⟨.ref d, rfl, by show 2 ≤ sizeLine; decide, fun p np => ⟨_, rfl, p, _, _, _, rfl, rfl, SqL.of upd_same, pick2 _ _ _, ?_⟩⟩
      have W3 := W2.same (same_new (o := .lst [.int 22, .int 200]) np)
      have s3 := s2.trans (same_new (o := .lst [.int 22, .int 200]) np)
      cases g with
      | true => exact ⟨d, 2, 200, rfl, W3, by decide, by decide, by decide, fun v H2 a2 b2 W2 K2 => ⟨4, v, rfl, rfl, 4 + v, rfl, by omega, by omega, W2, K2.same s3 nd⟩⟩
      | false => exact ⟨d, 2, 22, rfl, W3, by decide, by decide, by decide, fun v H2 a2 b2 W2 K2 => ⟨4, v, rfl, rfl, 4 + v, rfl, by omega, by omega, W2, K2.same s3 nd⟩⟩
    rintro σ' H3 ⟨de, rfl, d1, d2, W3, s3⟩
    refine ⟨.int n, rfl, .int de, rfl, .ref d, rfl, d, 3, 4, rfl, W3, by decide, by decide, by decide, fun v H4 a4 b4 W4 K4 => ⟨rfl, by show 3 ≤ sizeLine; decide, fun r nr => ?_⟩⟩
    exact q r n de _ _ ((K4.same s3 nd).trans (same_new nr)) upd_same n1 n2 d1 d2
theorem ok_l_deed {f : Addr} {fd : FuncData} (F : Fun K "_law_deed" "_law_deed" s_l_deed f fd) (M : Free mg) (D_l_cell_at : Df P w K mg base 1 "_law_cell_at" ["_law_script", "_law_k"] (spCell K)) (D_l_draw : Df P w K mg base 1 "_law_draw" ["_law_well", "_law_many"] spDraw) : FnOk P w K mg base CX0 2 f fd ["_law_script", "_law_k", "_law_many", "_law_ties", "_law_goes_round"] (spDeed K) := by
  obtain ⟨f_l_cell_at, fd_l_cell_at, G_l_cell_at, g_l_cell_at, k_l_cell_at, b_l_cell_at⟩ := D_l_cell_at
  obtain ⟨f_l_draw, fd_l_draw, G_l_draw, g_l_draw, k_l_draw, b_l_draw⟩ := D_l_draw
  refine F.ok sc_l_deed (fun vs H Q E h => ?_) (fun cdv A outer s H vs Q E hr h => ?_)
  · obtain ⟨sc, L, ns, k, n, us, ts, b, rfl, _⟩ := h
    rfl
  · obtain ⟨sc, L, ns, k, n, us, ts, b, rfl, hS, k0, k1, n1, n2, hL, hp, ok, few, qn, qt⟩ := h
    refine ⟨_, (pss_cons (ps_set (i := 5) sc_l_deed.nd rfl (.inl rfl) (pe_lst (pa_cons (pe_call G_l_cell_at (hr.mono (by decide)) (by rfl) g_l_cell_at k_l_cell_at b_l_cell_at .nil pass0 (pa_cons (pv 0) (pa_cons (pe_op op_add pe_int (pe_op op_mod (pv 1) pe_int)) pa_nil))) (pa_cons (pe_op op_add (pe_op op_mul pe_int (pv 1)) pe_int) pa_nil))))
      (pss_cons (ps_set (i := 6) sc_l_deed.nd rfl (.inl rfl) (pe_call G_l_draw (hr.mono (by decide)) (by rfl) g_l_draw k_l_draw b_l_draw .nil pass0 (pa_cons (pv 5) (pa_cons pe_int pa_nil))))
      (Evl.pss_cut (ps_if (PW.pt (pw_and (pt_cmpR op_gt (pv 1) pe_int (nomark _)) (pw_and1 (pt_cmpR op_gt (pe_call G_l_draw (hr.mono (by decide)) (by rfl) g_l_draw k_l_draw b_l_draw .nil pass0 (pa_cons (pv 5) (pa_cons pe_int pa_nil))) pe_int (nomark _)))))
        (pss_cons (ps_set (i := 5) sc_l_deed.nd rfl (.inl rfl) (pe_lst (pa_cons (pe_op op_add (pe_op op_fdivW (pe_call G_l_cell_at (hr.mono (by decide)) (by rfl) g_l_cell_at k_l_cell_at b_l_cell_at .nil pass0 (pa_cons (pv 0) (pa_cons (pe_op op_add pe_int (pe_op op_mod (pv 1) pe_int)) pa_nil))) (pe_op op_pow pe_int pe_int)) (pv 1)) (pa_cons (pe_op op_add (pe_op op_mul pe_int (pv 1)) pe_int) pa_nil))))
        (pss_one (ps_set (i := 6) sc_l_deed.nd rfl (.inl rfl) (pe_call G_l_draw (hr.mono (by decide)) (by rfl) g_l_draw k_l_draw b_l_draw .nil pass0 (pa_cons (pv 5) (pa_cons pe_int pa_nil))))))
        pss_nil)
      (Evl.pss_cut (ps_set (i := 7) sc_l_deed.nd rfl (.inl rfl) (pe_ix ix_list (pe_lst (pa_cons pe_str (pa_cons pe_str pa_nil))) (pe_call G_l_draw (hr.mono (by decide)) (by rfl) g_l_draw k_l_draw b_l_draw .nil pass0 (pa_cons (pv 5) (pa_cons pe_int pa_nil))) (fun _ _ => rfl)))
      (Evl.pss_cut (ps_if (PW.pt (pw_or (pt_cmpR op_eq (pv 2) pe_int (nomark _)) (pw_or (pt_cmpR op_gt (pe_callB call_len_seq (by rfl) M.len PySem.boot_len (pa_cons (pv 3) pa_nil)) pe_int (nomark _)) (pw_or1 (PW.pt (pw_and (pt_cmpR op_lt (pv 6) pe_int (nomark _)) (pw_and1 (pt_cmpR op_gt (pe_call G_l_draw (hr.mono (by decide)) (by rfl) g_l_draw k_l_draw b_l_draw .nil pass0 (pa_cons (pv 5) (pa_cons pe_int pa_nil))) pe_int (nomark _)))))))))
        (pss_one (ps_ret pe_non))
        pss_nil)
      (pss_cons (ps_set (i := 8) sc_l_deed.nd rfl (.inl rfl) (pe_call G_l_draw (hr.mono (by decide)) (by rfl) g_l_draw k_l_draw b_l_draw .nil pass0 (pa_cons (pv 5) (pa_cons (pv 2) pa_nil))))
      (Evl.pss_cut (ps_set (i := 9) sc_l_deed.nd rfl (.inl rfl) (pe_op op_mod (pe_op op_add (pe_op op_add (pv 8) pe_int) (pe_call G_l_draw (hr.mono (by decide)) (by rfl) g_l_draw k_l_draw b_l_draw .nil pass0 (pa_cons (pv 5) (pa_cons (pe_op op_sub (pv 2) pe_int) pa_nil)))) (pv 2)))
      (Evl.pss_cut (ps_if (PW.pt (pw_and (pt_val (pv 4)) (pw_and1 (pt_cmpR op_gt (pv 6) pe_int (nomark _)))))
        (pss_cons (ps_set (i := 8) sc_l_deed.nd rfl (.inl rfl) (pe_op op_mod (pe_op op_add (pe_callB call_len_seq (by rfl) M.len PySem.boot_len (pa_cons (pv 3) pa_nil)) (pe_call G_l_draw (hr.mono (by decide)) (by rfl) g_l_draw k_l_draw b_l_draw .nil pass0 (pa_cons (pv 5) (pa_cons pe_int pa_nil)))) (pv 2)))
        (pss_one (ps_set (i := 9) sc_l_deed.nd rfl (.inl rfl) (pe_op op_mod (pe_op op_add (pv 8) pe_int) (pv 2)))))
        pss_nil)
      (Evl.pss_cut (ps_if (PW.pt (pw_and (pt_cmpR op_eq (pv 6) pe_int (nomark _)) (pw_and1 (pt_cmpR (op_neE hr.units0) (pv 3) (pe_lst pa_nil) (nomark _)))))
        (pss_one (ps_asg (pe_slice sl_tupU (pe_ix ix_list (pv 3) (pe_call G_l_draw (hr.mono (by decide)) (by rfl) g_l_draw k_l_draw b_l_draw .nil pass0 (pa_cons (pv 5) (pa_cons (pe_callB call_len_seq (by rfl) M.len PySem.boot_len (pa_cons (pv 3) pa_nil)) pa_nil))) (fun _ _ => rfl)) po_none (po_some pe_int)) (pg_tup rfl (pgs_cons (pg_name (i := 8) sc_l_deed.nd rfl (.inl rfl)) (pgs_cons (pg_name (i := 9) sc_l_deed.nd rfl (.inl rfl)) pgs_nil)))))
        pss_nil)
      (pss_one (ps_ret (pe_ix ix_list (pe_lst (pa_cons (pe_tup (pa_cons (pv 8) (pa_cons (pv 9) (pa_cons (pv 7) pa_nil)))) (pa_cons (pe_tup (pa_cons (pv 9) (pa_cons (pv 8) (pa_cons (pv 7) pa_nil)))) pa_nil))) (pe_call G_l_draw (hr.mono (by decide)) (by rfl) g_l_draw k_l_draw b_l_draw .nil pass0 (pa_cons (pv 5) (pa_cons pe_int pa_nil))) (fun _ _ => rfl))))))))))))), ?_⟩
    have lu : us.length = ts.length := Paired.length hp
    refine ⟨.ref sc, rfl, .int k, rfl, k, 62, rfl, rfl, (show (0 : Int) < 62 by decide), 1, _, rfl, rfl, sc, ns, _, rfl, hS, by have := (mod_rng (a := k) (m := 62) (by decide)).1; omega, fun cell => ⟨.int k, rfl, 90, k, rfl, rfl, .inl ⟨by decide, by decide⟩, _, 11, rfl, rfl, by show 2 ≤ sizeLine; decide, fun d nd => ?_⟩⟩
    refine ⟨.ref d, rfl, d, 90 * k + 11, 9, rfl, ⟨cell, 90 * k + 11, upd_same, by omega, by omega⟩, by omega, by decide, by decide, fun way H1 a1 b1 W1 K1 => ?_⟩
    have s1 := K1.same (same_new nd) nd
    -- another well
    refine ⟨fun σ' H' => ∃ (d : Addr) (way : Int), σ' = [some (.ref sc), some (.int k), some (.int n), some (.ref L), some (.bl b), some (.ref d), some (.int way), none, none, none] ∧ H d = none ∧ Well H' d 20000 ∧ Same H H', ?_, ?_⟩
    · refine ⟨.int k, rfl, k, 61, rfl, rfl, _, rfl, ?_⟩
      have wk : ∀ {H' : Hp} {d : Addr} {x : Int}, Well H' d x → x ≤ 20000 → Well H' d 20000 := fun ⟨x, c, e1, e2, e3⟩ h => ⟨x, c, e1, e2, by omega⟩
      refine ite2 (fun _ => ?_) (fun _ => ⟨d, way, rfl, nd, wk W1 (by omega), s1⟩)
      refine ⟨.ref d, rfl, d, _, 3, rfl, W1, by omega, by decide, by decide, fun v H2 a2 b2 W2 K2 => ⟨v, 0, rfl, rfl, _, rfl, ?_⟩⟩
      have s2 := K2.same s1 nd
      refine ite2 (fun _ => ?_) (fun _ => ⟨d, way, rfl, nd, wk W2 (by omega), s2⟩)
      refine ⟨.ref sc, rfl, .int k, rfl, k, 62, rfl, rfl, (show (0 : Int) < 62 by decide), 1, _, rfl, rfl, sc, ns, _, rfl, s2.seq hS, by have := (mod_rng (a := k) (m := 62) (by decide)).1; omega, fun cell2 => ?_⟩
      refine ⟨10, 18, rfl, rfl, ⟨by decide, by decide, by decide⟩, _, _, rfl, rfl, wide_div (b := 61) (by decide) (by decide) (by decide) (by decide), .int k, rfl, _, k, rfl, rfl, .int k, rfl, 90, k, rfl, rfl, .inl ⟨by decide, by decide⟩, _, 47, rfl, rfl, by show 2 ≤ sizeLine; decide, fun d2 nd2 => ?_⟩
      have nd2H := s2.free nd2
      refine ⟨.ref d2, rfl, d2, 90 * k + 47, 9, rfl, ⟨_, 90 * k + 47, upd_same, by omega, by omega⟩, by omega, by decide, by decide, fun way2 H3 a3 b3 W3 K3 => ?_⟩
      exact ⟨d2, way2, rfl, nd2H, wk W3 (by omega), K3.same (s2.trans (same_new nd2)) nd2H⟩
    clear W1 K1 s1 nd a1 b1 way H1 d
    rintro σ' H1 ⟨d, way, rfl, nd, W1, s1⟩
    -- kind
    refine ⟨fun σ' H' => ∃ fo : Bool, σ' = [some (.ref sc), some (.int k), some (.int n), some (.ref L), some (.bl b), some (.ref d), some (.int way), some (.str (kindS fo)), none, none] ∧ Well H' d 20001 ∧ Same H H', ?_, ?_⟩
    · refine ⟨by show 2 ≤ sizeLine; decide, fun p np => ⟨.ref d, rfl, d, 20000, 2, rfl, W1.same (same_new np), by decide, by decide, by decide, fun v H2 a2 b2 W2 K2 => ?_⟩⟩
      have hpd : p ≠ d := by
        obtain ⟨x, c, e, _⟩ := W1
        exact (ne_of_none e np).symm
      have e5 : atI [V.str "friend", V.str "foe"] v = some (.str (kindS (decide (v = 1)))) := by
        have h01 : v = 0 ∨ v = 1 := by omega
        rcases h01 with e | e <;> subst e <;> rfl
      exact ⟨p, _, v, _, rfl, rfl, SqL.of (K2 _ _ hpd upd_same), e5, _, rfl, W2, K2.same (s1.trans (same_new np)) nd⟩
    clear W1 s1 H1
    rintro σ' H1 ⟨fo, rfl, W1, s1⟩
    refine ⟨fun σ' H' => σ' = [some (.ref sc), some (.int k), some (.int n), some (.ref L), some (.bl b), some (.ref d), some (.int way), some (.str (kindS fo)), none, none] ∧ Well H' d 20002 ∧ Same H H' ∧ 1 < n ∧ ts.length ≤ 119, ?_, ?_⟩
    · refine ⟨.int n, rfl, rfl, _, rfl, ?_⟩
      by_cases hn : (n : Int) = 1
      · rw [decide_eq_true (show V.int (n : Int) = V.int 1 by rw [hn])]
        exact qn _ s1
      rw [decide_eq_false (show ¬ V.int (n : Int) = V.int 1 from fun z => hn (V.int.inj z))]
      refine ⟨.ref L, rfl, L, us, rfl, .inl (SqL.of (s1 _ _ hL)), _, 119, rfl, rfl, _, rfl, ?_⟩
      by_cases hl : (119 : Int) < us.length
      · rw [decide_eq_true hl]
        exact qn _ s1
      rw [decide_eq_false hl]
      refine ⟨.int way, rfl, way, 2, rfl, rfl, _, rfl, ?_⟩
      have wk : Well H1 d 20002 := by
        obtain ⟨x, c, e1, e2, e3⟩ := W1
        exact ⟨x, c, e1, e2, by omega⟩
      refine ite2 (fun _ => ?_) (fun _ => ⟨rfl, wk, s1, by omega, by omega⟩)
      refine ⟨.ref d, rfl, d, _, 4, rfl, W1, by decide, by decide, by decide, fun v H2 a2 b2 W2 K2 => ⟨v, 0, rfl, rfl, _, rfl, ?_⟩⟩
      have s2 := K2.same s1 nd
      exact ite2 (fun _ => qn _ s2) (fun _ => ⟨rfl, W2, s2, by omega, by omega⟩)
    clear W1 s1 H1
    rintro σ' H1 ⟨rfl, W1, s1, hn, hl⟩
    refine ⟨.ref d, rfl, .int n, rfl, d, _, n, rfl, W1, by decide, by omega, by omega, fun one H2 a2 b2 W2 K2 => ?_⟩
    have s2 := K2.same s1 nd
    refine ⟨fun σ' H' => ∃ oth : Int, σ' = [some (.ref sc), some (.int k), some (.int n), some (.ref L), some (.bl b), some (.ref d), some (.int way), some (.str (kindS fo)), some (.int one), some (.int oth)] ∧ TieOk n ⟨one, oth, fo⟩ ∧ Well H' d 20004 ∧ Same H H', ?_, ?_⟩
    · exact ⟨.int one, rfl, one, 1, rfl, rfl, .ref d, rfl, .int n, rfl, n, 1, rfl, rfl, d, _, (n : Int) - 1, rfl, W2, by decide, by omega, by omega, fun v H3 a3 b3 W3 K3 => ⟨one + 1, v, rfl, rfl, .int n, rfl, _, n, rfl, rfl, show (0 : Int) < n by omega, _, rfl, ⟨a2, b2, (mod_rng (by omega)).1, (mod_rng (by omega)).2, other_ne a2 b2 a3 b3⟩, W3, K3.same s2 nd⟩⟩
    clear W1 s1 W2 s2 K2 H1 H2
    rintro σ' H1 ⟨oth, rfl, okt, W1, s1⟩
    refine ⟨fun σ' H' => ∃ one oth : Int, σ' = [some (.ref sc), some (.int k), some (.int n), some (.ref L), some (.bl b), some (.ref d), some (.int way), some (.str (kindS fo)), some (.int one), some (.int oth)] ∧ TieOk n ⟨one, oth, fo⟩ ∧ Well H' d 20005 ∧ Same H H', ?_, ?_⟩
    · have wk : Well H1 d 20005 := by
        obtain ⟨x, c, e1, e2, e3⟩ := W1
        exact ⟨x, c, e1, e2, by omega⟩
      refine ⟨.bl b, rfl, _, rfl, ?_⟩
      cases b with
      | false => exact ⟨one, oth, rfl, okt, wk, s1⟩
      | true =>
        refine ⟨.int way, rfl, way, 3, rfl, rfl, _, rfl, ?_⟩
        refine ite2 (fun _ => ?_) (fun _ => ⟨one, oth, rfl, okt, wk, s1⟩)
        refine ⟨.ref L, rfl, L, us, rfl, .inl (SqL.of (s1 _ _ hL)), .ref d, rfl, d, _, 2, rfl, W1, by decide, by decide, by decide, fun v H2 a3 b3 W2 K2 => ⟨_, v, rfl, rfl, .int n, rfl, _, n, rfl, rfl, show (0 : Int) < n by omega, ?_⟩⟩
        have m1 := mod_rng (a := (us.length : Int) + v) (m := n) (by omega)
        refine ⟨_, rfl, _, 1, rfl, rfl, .int n, rfl, _, n, rfl, rfl, show (0 : Int) < n by omega, _, _, rfl, ⟨m1.1, m1.2, (mod_rng (by omega)).1, (mod_rng (by omega)).2, ?_⟩, W2, K2.same s1 nd⟩
        have := other_ne (b := 0) m1.1 m1.2 (by decide) (by omega)
        rw [Int.add_zero] at this
        exact this
    clear W1 s1 H1 okt oth
    clear a2 b2 one
    rintro σ' H1 ⟨one, oth, rfl, okt, W1, s1⟩
    refine ⟨fun σ' H' => ∃ one oth : Int, σ' = [some (.ref sc), some (.int k), some (.int n), some (.ref L), some (.bl b), some (.ref d), some (.int way), some (.str (kindS fo)), some (.int one), some (.int oth)] ∧ TieOk n ⟨one, oth, fo⟩ ∧ Well H' d 20006 ∧ Same H H', ?_, ?_⟩
    · have wk : ∀ {H' : Hp} {x : Int}, Well H' d x → x ≤ 20006 → Well H' d 20006 := fun ⟨x, c, e1, e2, e3⟩ h => ⟨x, c, e1, e2, by omega⟩
      refine ⟨.int way, rfl, rfl, _, rfl, ?_⟩
      refine ite2 (fun _ => ?_) (fun _ => ⟨one, oth, rfl, okt, wk W1 (by omega), s1⟩)
      refine ⟨.ref L, rfl, Nat.zero_le _, fun p np => ⟨L, p, us, rfl, rfl, SqL.of (same_new np _ _ (s1 _ _ hL)), SqL.of upd_same, _, rfl, ?_⟩⟩
      have s2 := s1.trans (same_new (o := .lst []) np)
      have W2 := W1.same (same_new (o := .lst []) np)
      cases hus : us with
      | nil => exact ⟨one, oth, rfl, okt, wk W2 (by omega), s2⟩
      | cons z zs =>
        have hb : (!(z :: zs).isEmpty) = true := rfl
        rw [hb]
        have hpos : 0 < us.length := by rw [hus]; simp
        refine ⟨.ref L, rfl, .ref d, rfl, .ref L, rfl, L, us, rfl, .inl (SqL.of (s2 _ _ hL)), d, _, us.length, rfl, W2, by decide, by omega, by omega, fun v H3 a3 b3 W3 K3 => ?_⟩
        have s3 := K3.same s2 nd
        obtain ⟨x, e1, e2⟩ := getI a3 b3
        obtain ⟨t, e3, a, rfl, e4⟩ := Paired.at hp e2
        have ot := ok t (List.mem_of_getElem? e3)
        refine ⟨L, us, v, _, rfl, rfl, SqL.of (s3 _ _ hL), e1, 2, rfl, a, _, rfl, s3 _ _ e4, fun r H4 s4 h4 => ?_⟩
        exact ⟨r, _, rfl, SqT.of h4, rfl, _, _, rfl, _, _, rfl, rfl, t.one, t.other, rfl, ot, wk (W3.same s4) (by omega), s3.trans s4⟩
    clear W1 s1 H1 okt oth one
    rintro σ' H1 ⟨one, oth, rfl, okt, W1, s1⟩
    refine ⟨.int one, rfl, .int oth, rfl, .str (kindS fo), rfl, by show 3 ≤ sizeLine; decide, fun p1 m1 => ⟨.int oth, rfl, .int one, rfl, .str (kindS fo), rfl, by show 3 ≤ sizeLine; decide, fun p2 m2 => ⟨by show 2 ≤ sizeLine; decide, fun p3 m3 => ?_⟩⟩⟩
    have e1 := same_new (o := .tup [.int one, .int oth, .str (kindS fo)]) m1
    have e2 := same_new (o := .tup [.int oth, .int one, .str (kindS fo)]) m2
    have e3 := same_new (o := .lst [.ref p1, .ref p2]) m3
    have s3 := ((s1.trans e1).trans e2).trans e3
    have W3 := ((W1.same e1).same e2).same e3
    have hpd : p3 ≠ d := by
      obtain ⟨x, c, e, _⟩ := (W1.same e1).same e2
      exact (ne_of_none e m3).symm
    have q1 := e3 _ _ (e2 _ _ (upd_same (H := H1) (a := p1) (o := .tup [.int one, .int oth, .str (kindS fo)])))
    have q2 := e3 _ _ (upd_same (H := upd H1 p1 (.tup [.int one, .int oth, .str (kindS fo)])) (a := p2) (o := .tup [.int oth, .int one, .str (kindS fo)]))
    have q3 := upd_same (H := upd (upd H1 p1 (.tup [.int one, .int oth, .str (kindS fo)])) p2 (.tup [.int oth, .int one, .str (kindS fo)])) (a := p3) (o := .lst [.ref p1, .ref p2])
    have pd : ∀ {a : Addr} {xs : List V} {H' : Hp}, H' a = some (.tup xs) → Well H' d 20006 → a ≠ d := fun h ⟨x, c, e, _⟩ => ne_of h e (by intro z; cases z)
    have pd1 := pd q1 W3
    have pd2 := pd q2 W3
    refine ⟨.ref d, rfl, d, _, 2, rfl, W3, by decide, by decide, by decide, fun v H4 a4 b4 W4 K4 => ?_⟩
    have s4 := K4.same s3 nd
    have h01 : v = 0 ∨ v = 1 := by omega
    rcases h01 with e | e
    · subst e
      exact ⟨p3, _, 0, _, rfl, rfl, SqL.of (K4 _ _ hpd q3), rfl, qt p1 ⟨one, oth, fo⟩ _ s4 (K4 _ _ pd1 q1) okt hl⟩
    · subst e
      exact ⟨p3, _, 1, _, rfl, rfl, SqL.of (K4 _ _ hpd q3), rfl, qt p2 ⟨oth, one, fo⟩ _ s4 (K4 _ _ pd2 q2) ⟨okt.2.2.1, okt.2.2.2.1, okt.1, okt.2.1, Ne.symm okt.2.2.2.2⟩ hl⟩
end
/-! ### webs as data -/
def tieD (t : Tie) : PyData := .tuple [.int t.one, .int t.other, .str (kindS t.foe)]
def webD (n : Int) (ts : List Tie) : PyData := .tuple [.int n, .tuple (ts.map tieD)]
theorem kind_ok (b : Bool) : (PyData.str (kindS b)).canLay0 = true ∧ (kindS b).cps.size ≤ 100 := by cases b <;> decide +kernel
theorem dp_ties {K : PySem.W.Frag} {H : Hp} : ∀ {vs : List V} {ts : List Tie}, Paired (TieV H) vs ts → DpAll K H vs (ts.map tieD)
  | _, _, .nil => .nil
  | _, _, .cons r t => by
    obtain ⟨a, rfl, e⟩ := r
    exact .cons (.tup (SqT.of e) (.cons (.int _) (.cons (.int _) (.cons (.str _) .nil)))) (dp_ties t)
theorem WebAt.dp {K : PySem.W.Frag} {H : Hp} {v : V} {n : Int} {ts : List Tie} (h : WebAt H v n ts) : Dp K H v (webD n ts) := by
  obtain ⟨a, b, vs, rfl, h1, h2, h3⟩ := h
  exact .tup (SqT.of h1) (.cons (.int _) (.cons (.tup (SqT.of h2) (dp_ties h3)) .nil))
theorem lay_tie (t : Tie) : (tieD t).canLay0 = true := by
  unfold tieD
  have h := (kind_ok t.foe).1
  simp only [PyData.canLay0, PyData.canLayAll0, Bool.true_and, Bool.and_true] at h ⊢
  exact h
theorem lay_ties : ∀ ts : List Tie, PyData.canLayAll0 (ts.map tieD) = true
  | [] => by simp [PyData.canLayAll0]
  | t :: ts => by rw [List.map_cons, PyData.canLayAll0, lay_tie t, lay_ties ts]; rfl
theorem lay_web (n : Int) (ts : List Tie) : (webD n ts).canLay0 = true := by
  unfold webD
  rw [PyData.canLay0, PyData.canLayAll0, PyData.canLayAll0, PyData.canLay0, PyData.canLay0, lay_ties, PyData.canLayAll0]
  rfl
theorem deep_ties : ∀ ts : List Tie, PyData.depthAll (ts.map tieD) ≤ 1
  | [] => by simp [PyData.depthAll]
  | t :: ts => by
    have h := deep_ties ts
    have g : (tieD t).depth = 1 := by simp [tieD, PyData.depth, PyData.depthAll]
    rw [List.map_cons, PyData.depthAll, g]
    omega
theorem shaped_web (n : Int) (ts : List Tie) : SeqAt.shaped (webD n ts) = true := by
  have h := deep_ties ts
  have d : (webD n ts).depth ≤ 3 := by
    simp only [webD, PyData.depth, PyData.depthAll]
    omega
  unfold SeqAt.shaped
  rw [lay_web]
  simp
  omega
/-! ### rows of numbers, in lists -/
def listD (xs : List Int) : PyData := .list (xs.map PyData.int)
theorem shaped_listD (xs : List Int) : SeqAt.shaped (listD xs) = true := by
  unfold SeqAt.shaped listD
  rw [PyData.canLay0, PyData.depth, lay_ints, deep_ints]
  rfl
theorem eqvAll_ints : ∀ xs ys : List Int, PyData.eqvAll (xs.map PyData.int) (ys.map PyData.int) = decide (xs = ys)
  | [], [] => by simp [PyData.eqvAll]
  | [], y :: ys => by simp [PyData.eqvAll]
  | x :: xs, [] => by simp [PyData.eqvAll]
  | x :: xs, y :: ys => by
    rw [List.map_cons, List.map_cons, PyData.eqvAll, eqvAll_ints xs ys, PyData.eqv]
    by_cases h1 : x = y <;> by_cases h2 : xs = ys <;> simp [h1, h2]
theorem eqv_listD (xs ys : List Int) : PyData.eqv (listD xs) (listD ys) = decide (xs = ys) := by
  unfold listD
  rw [PyData.eqv]
  exact eqvAll_ints xs ys
theorem filter_rng_succ (p : Int → Bool) (i : Nat) : ((rng (i + 1)).filter p).map V.int = ((rng i).filter p).map V.int ++ (if p i = true then [V.int i] else []) := by
  rw [rng_succ, List.filter_append, List.map_append, List.filter_cons]
  by_cases h : p i = true
  · rw [if_pos h, if_pos h]
    rfl
  · rw [if_neg h, if_neg h]
    rfl
theorem filter_rng_len (p : Int → Bool) (i : Nat) : ((rng i).filter p).length ≤ i := by
  have := List.length_filter_le p (rng i)
  rw [rng_length] at this
  exact this
/-! ### the stand: what is kept, its sides, and between -/
theorem snocInd {α : Type} {p : List α → Prop} (h0 : p []) (h1 : ∀ l a, p l → p (l ++ [a])) (l : List α) : p l := by
  have : ∀ (n : Nat) (l : List α), l.length = n → p l := fun n => by
    induction n with
    | zero =>
      intro l hl
      rw [List.length_eq_zero_iff.mp hl]
      exact h0
    | succ n ih =>
      intro l hl
      have hne : l ≠ [] := fun z => by rw [z] at hl; cases hl
      rw [← List.dropLast_concat_getLast hne]
      exact h1 _ _ (ih _ (by rw [List.length_dropLast]; omega))
  exact this _ l rfl
theorem kt_map {ts : List Tie} : ∀ {fl : List Bool}, ts.length = fl.length → kt ts fl = (knT fl true).map fun m => tieN ts m.toNat := by
  refine snocInd (p := fun ts => ∀ {fl : List Bool}, ts.length = fl.length → kt ts fl = (knT fl true).map fun m => tieN ts m.toNat) ?_ ?_ ts
  · intro fl h
    have : fl = [] := List.length_eq_zero_iff.mp (by rw [← h]; rfl)
    subst this
    rfl
  · intro ts t ih fl h
    have hf : fl ≠ [] := fun z => by
      rw [z] at h
      simp at h
    obtain ⟨fl', b, rfl⟩ : ∃ l a, fl = l ++ [a] := ⟨fl.dropLast, fl.getLast hf, (List.dropLast_concat_getLast hf).symm⟩
    have hl : ts.length = fl'.length := by simpa using h
    rw [kt_snoc hl, knT_snoc, List.map_append, ih hl]
    congr 1
    · refine List.map_congr_left fun m hm => ?_
      have := (mem_knT.mp hm).1
      unfold tieN
      rw [List.getD_eq_getElem?_getD, List.getD_eq_getElem?_getD, List.getElem?_append_left (by omega)]
    · cases b
      · rfl
      · rw [if_pos rfl, if_pos rfl]
        unfold tieN
        rw [List.map_cons, List.map_nil, List.getD_eq_getElem?_getD, Int.toNat_natCast, ← hl, List.getElem?_append_right (Nat.le_refl _)]
        simp
theorem kt_len {ts : List Tie} {fl : List Bool} (h : ts.length = fl.length) : (kt ts fl).length ≤ ts.length := by
  rw [kt_map h, List.length_map]
  have := knT_len fl true
  omega
theorem SI.webOk {n : Nat} {ts : List Tie} {fl : List Bool} (h : SI n ts fl) : WebOk n (kt ts fl) := by
  have a := h.n1
  have b := h.n40
  have c := kt_len h.len
  have d := h.few
  exact ⟨by omega, by omega, by omega, fun t ht => h.ok t (kt_sub ht)⟩
def spSKept (C : Addr) : Sp := fun vs H Q _ => ∃ (p T Kk Lo : Addr) (n : Nat) (ts : List Tie) (fl : List Bool), vs = [.ref p] ∧ StA C H p T Kk Lo n ts fl ∧ SI n ts fl ∧ ∀ v H', Same H H' → WebAt H' v n (kt ts fl) → Q v H'
def spSSides (C : Addr) : Sp := fun vs H Q _ => ∃ (p T Kk Lo : Addr) (n : Nat) (ts : List Tie) (fl : List Bool), vs = [.ref p] ∧ StA C H p T Kk Lo n ts fl ∧ SI n ts fl ∧ ∀ ss r H', Told (kt ts fl) n ss → Cons ss (kt ts fl) → Same H H' → H' r = some (.tup (ss.map V.int)) → Q (.ref r) H'
def spSBetween (C : Addr) : Sp := fun vs H Q _ => ∃ (p T Kk Lo : Addr) (n : Nat) (ts : List Tie) (fl : List Bool) (x y : Int), vs = [.ref p, .int x, .int y] ∧ StA C H p T Kk Lo n ts fl ∧ SI n ts fl ∧ (0 ≤ x ∧ x < n) ∧
  (∀ H', ¬ Rch (kt ts fl) x y → Same H H' → Q .non H') ∧ ∀ b H', RP (kt ts fl) x y b → Same H H' → Q (.str (if b = true then "apart" else "together")) H'
section
variable {P : Program} {w : World} {K : PySem.W.Frag} {mg : Str → Option Value} {base : Heap}
theorem ok_S_kept {f C : Addr} {fd : FuncData} (F : Fun K "kept_web" "Stand.kept_web" s_Stand_kept_web f fd) (T : STx K C) (M : Free mg) : FnOk P w K mg base CX0 1 f fd ["self"] (spSKept C) := by
  refine F.ok sc_Stand_kept_web (fun vs H Q E h => ?_) (fun cdv A outer s H vs Q E hr h => ?_)
  · obtain ⟨p, Ti, Kk, Lo, n, ts, fl, rfl, _⟩ := h
    rfl
  · obtain ⟨p, Ti, Kk, Lo, n, ts, fl, rfl, S, si, q⟩ := h
    refine ⟨_, (pss_one (ps_ret (pe_tup (pa_cons (pe_fld (pv 0) rfl) (pa_cons (pe_callTy call_tuple_of (by rfl) M.tuple (by decide +kernel) (pa_cons (pe_lc (own := [("number", 1)]) (g := gName 1) (tt := tYes) (te := tOp (rIxL K) (tFld K (tVar 0) "ties") (tVar 1)) rfl sc_Stand_kept_web.nd (pi_list (pe_fld (pv 0) rfl)) (blkOk_by (N := N_Stand_kept_web) (sc := defScope s_Stand_kept_web) (own := [("number", 1)]) (by decide +kernel)) (fun _ _ _ _ _ => (pg_name (i := 1) sc_Stand_kept_web.nd rfl (.inl rfl))) (fun _ _ _ _ _ => pts_nil) (fun _ _ _ _ _ => (pe_ix (r := rIxL K) ix_list (pe_fld (pv 0) rfl) (pv 1) (fun _ _ => rfl)))) pa_nil)) pa_nil))))), ?_⟩
    obtain ⟨dx, h1⟩ := id S.ob
    obtain ⟨us, h2, hp⟩ := id S.hT
    have lu : us.length = ts.length := Paired.length hp
    have few := si.few
    refine ⟨.ref p, rfl, p, C, dx, _, _, rfl, h1, T.cl, T.nM, stF_many _ _ _ _, ?_⟩
    refine ⟨.ref p, rfl, p, C, dx, _, _, rfl, h1, T.cl, T.nK, stF_kept _ _ _ _, Kk, rfl, ⟨_, SqL.of S.hK⟩, fun Z nZ => ?_⟩
    refine lc_list (xs := (knT fl true).map V.int) (fun j H' => ∃ ws, H' Z = some (.lst ws) ∧ Paired (TieV H') ws (((knT fl true).take j).map fun m => tieN ts m.toNat) ∧ Same H H') ⟨[], upd_same, .nil, same_new nZ⟩ (fun j H' _ h => by
      obtain ⟨ws, _, _, s1⟩ := h
      exact SqL.of (s1 _ _ S.hK)) ?_ ?_
    · rintro j x H1 ex ⟨ws, hZ, hw, s1⟩
      rw [List.getElem?_map] at ex
      obtain ⟨m, em, rfl⟩ := Option.map_eq_some_iff.mp ex
      have hm := (mem_knT.mp (List.mem_of_getElem? em)).1
      have hl := si.len
      have hmu : m.toNat < us.length := by omega
      obtain ⟨t, et, ht⟩ := Paired.at (ties_tk (Same.tk s1) hp) (List.getElem?_eq_getElem hmu)
      have lw : ws.length ≤ 120 := by
        have := Paired.length hw
        have h3 := knT_len fl true
        rw [List.length_map, List.length_take] at this
        omega
      refine ⟨rfl, .ref p, rfl, p, C, dx, _, _, rfl, s1 _ _ h1, T.cl, T.nT, stF_ties _ _ _ _, .int m, rfl, Ti, us, m, us[m.toNat], rfl, rfl, SqL.of (s1 _ _ h2), atI_of hm.1 (List.getElem?_eq_getElem hmu), ws, hZ, small1000 (by omega), ?_⟩
      refine ⟨ws ++ [us[m.toNat]], upd_same, ?_, Same.mut s1 nZ⟩
      rw [List.take_add_one, em, Option.toList_some, List.map_append]
      refine Paired.snoc (ties_tk (tk_lst hZ) hw) ?_
      show TieV _ _ (tieN ts m.toNat)
      rw [tieN_of et]
      exact TieV.tk (tk_lst hZ) ht
    · rintro H1 ⟨ws, hZ, hw, s1⟩
      rw [List.length_map, List.take_length, ← kt_map si.len] at hw
      refine ⟨Z, ws, rfl, .inl ⟨SqL.of hZ, fun Y nY => ⟨by show 2 ≤ sizeLine; decide, fun r nr => ?_⟩⟩⟩
      have s2 := (same_new (o := .tup ws) nY).trans (same_new (o := .tup [.int n, .ref Y]) nr)
      exact q _ _ (s1.trans s2) ⟨r, Y, ws, rfl, upd_same, same_new nr _ _ upd_same, ties_tk (Same.tk s2) hw⟩
theorem ok_S_sides {f C : Addr} {fd : FuncData} (F : Fun K "sides" "Stand.sides" s_Stand_sides f fd) (T : STx K C) (D_kept : DfM P w K mg base 1 C "kept_web" ["self"] (spSKept C)) (D_sides : Df P w K mg base 3 "sides_of" ["web"] spFixed) : FnOk P w K mg base CX0 4 f fd ["self"] (spSSides C) := by
  obtain ⟨fW, fdW, GW, mW, bW⟩ := D_kept
  obtain ⟨f_s, fd_s, G_s, g_s, k_s, b_s⟩ := D_sides
  refine F.ok sc_Stand_sides (fun vs H Q E h => ?_) (fun cdv A outer s H vs Q E hr h => ?_)
  · obtain ⟨p, Ti, Kk, Lo, n, ts, fl, rfl, _⟩ := h
    rfl
  · obtain ⟨p, Ti, Kk, Lo, n, ts, fl, rfl, S, si, q⟩ := h
    refine ⟨_, (pss_one (ps_ret (pe_call G_s hr (by rfl) g_s k_s b_s .nil pass0 (pa_cons (pe_meth0 (pv 0) T.cl mW GW (hr.mono (by decide)) bW .nil pass0) pa_nil)))), ?_⟩
    obtain ⟨dx, h1⟩ := id S.ob
    refine ⟨.ref p, rfl, p, dx, _, rfl, h1, stF_no _ _ _ _ (by decide +kernel) (by decide +kernel) (by decide +kernel) (by decide +kernel), p, Ti, Kk, Lo, n, ts, fl, rfl, S, si, fun v H1 s1 hW => ?_⟩
    exact ⟨v, n, kt ts fl, rfl, hW, si.webOk, fun ss r H2 t c s2 hr2 => q ss r H2 t c (s1.trans s2) hr2, fun H2 o _ => absurd o si.calm⟩
theorem ok_S_between {f C : Addr} {fd : FuncData} (F : Fun K "between" "Stand.between" s_Stand_between f fd) (T : STx K C) (D_kept : DfM P w K mg base 1 C "kept_web" ["self"] (spSKept C)) (D_nb : Df P w K mg base 1 "neighbours" ["web"] spNeighbours) (D_from : Df P w K mg base 1 "sides_from" ["start", "around"] spSidesFrom) : FnOk P w K mg base CX0 2 f fd ["self", "one", "other"] (spSBetween C) := by
  obtain ⟨fW, fdW, GW, mW, bW⟩ := D_kept
  obtain ⟨f_n, fd_n, G_n, g_n, k_n, b_n⟩ := D_nb
  obtain ⟨f_s, fd_s, G_s, g_s, k_s, b_s⟩ := D_from
  refine F.ok sc_Stand_between (fun vs H Q E h => ?_) (fun cdv A outer s H vs Q E hr h => ?_)
  · obtain ⟨p, Ti, Kk, Lo, n, ts, fl, x, y, rfl, _⟩ := h
    rfl
  · obtain ⟨p, Ti, Kk, Lo, n, ts, fl, x, y, rfl, S, si, hx, qn, qb⟩ := h
    have hu := room1 hr
    refine ⟨_, (pss_cons (ps_set (i := 3) sc_Stand_between.nd rfl (.inl rfl) (pe_call G_s hr (by rfl) g_s k_s b_s .nil pass0 (pa_cons (pv 1) (pa_cons (pe_call G_n hr (by rfl) g_n k_n b_n .nil pass0 (pa_cons (pe_meth0 (pv 0) T.cl mW GW hr bW .nil pass0) pa_nil)) pa_nil))))
      (pss_cons (ps_if (pt_cmp (pc_dnotin hu (pv 2) (pv 3))) (pss_one (ps_ret pe_non)) pss_nil)
      (pss_one (ps_ret (pe_ifExp (pt_cmpR op_eq (pe_dget hu (pv 3) (pv 2) (fun _ _ => rfl)) pe_int (nomark _)) pe_str pe_str))))), ?_⟩
    obtain ⟨dx, h1⟩ := id S.ob
    refine ⟨.int x, rfl, .ref p, rfl, p, dx, _, rfl, h1, stF_no _ _ _ _ (by decide +kernel) (by decide +kernel) (by decide +kernel) (by decide +kernel), p, Ti, Kk, Lo, n, ts, fl, rfl, S, si, fun v H1 s1 hW => ?_⟩
    refine ⟨v, n, kt ts fl, rfl, hW, si.webOk, fun v2 H2 hA s2 => ?_⟩
    refine ⟨v2, n, x, kt ts fl, rfl, hA, si.webOk, hx.1, hx.2, fun d ks H3 nd hd s3 so => ?_⟩
    have s13 := (s1.trans s2).trans s3
    refine ⟨.int y, rfl, .ref d, rfl, d, _, rfl, DGet.k (k := Sum.inl y) hd, _, rfl, ?_⟩
    by_cases hy : y ∈ ks.map (·.1)
    · obtain ⟨⟨z, b⟩, hz, rfl⟩ := List.mem_map.mp hy
      have vp := kvOf_some so.nd hz
      rw [vp]
      refine ⟨.ref d, rfl, .int z, rfl, d, _, rfl, (by rw [← vp]; exact DGet.k (k := Sum.inl z) hd), rfl, _, rfl, ?_⟩
      have := qb b H3 (so.rp _ hz) s13
      cases b
      · exact this
      · exact this
    · rw [kvOf_none hy]
      exact qn H3 (fun r => hy ((so.all y).mpr r)) s13
end
/-! ### the stand under a row of deeds -/
theorem GS.calm_step {ts : List Tie} {n : Nat} {g s : Int → Int} (h : GS ts n g s true) (okts : ∀ t ∈ ts, TieOk n t) {t : Tie} (ok : TieOk n t) (k : Kps ts t) : ¬ Odd (ts ++ [t]) n := by
  have st := h.step okts ok rfl rfl rfl
  have kk := (h.keeps ok).mp k
  have e : (if min (g t.one) (g t.other) = max (g t.one) (g t.other) then true && decide ((s t.one + s t.other + (if t.foe = true then 1 else 0)) % 2 = 0) else true) = true := by
    by_cases c : g t.one = g t.other
    · rw [if_pos (by omega), Bool.true_and, decide_eq_true_iff]
      rcases kk with kk | kk
      · exact absurd c kk
      · rw [← kk]
        unfold bit
        rcases h.bn t.one ok.1 ok.2.1 with a1 | a1 <;> rcases h.bn t.other ok.2.2.1 ok.2.2.2.1 with b1 | b1 <;> rw [a1, b1] <;> decide
    · rw [if_neg (by omega)]
  rw [e] at st
  exact st.calm
theorem SI.nil {n : Nat} (h1 : 1 ≤ n) (h2 : n ≤ 40) : SI n [] [] := ⟨rfl, Nat.zero_le _, fun t ht => by simp at ht, (GS.nil n).calm, h1, h2⟩
theorem SI.okk {n : Nat} {ts : List Tie} {fl : List Bool} (h : SI n ts fl) : ∀ t ∈ kt ts fl, TieOk n t := fun t ht => h.ok t (kt_sub ht)
theorem SI.gs {n : Nat} {ts : List Tie} {fl : List Bool} (h : SI n ts fl) {g s : Int → Int} {good : Bool} (gs : GS (kt ts fl) n g s good) : GS (kt ts fl) n g s true := by
  cases good
  · exact absurd (gs.no rfl) h.calm
  · exact gs
theorem SI.more {n : Nat} {ts : List Tie} {fl : List Bool} (h : SI n ts fl) {g s : Int → Int} (gs : GS (kt ts fl) n g s true) {t : Tie} (ok : TieOk n t) (few : ts.length ≤ 119) {f : Bool} (hf : f = true → Kps (kt ts fl) t) : SI n (ts ++ [t]) (fl ++ [f]) := by
  have hl := h.len
  refine ⟨by simp [hl], by simp; omega, fun x hx => ?_, ?_, h.n1, h.n40⟩
  · rcases List.mem_append.mp hx with z | z
    · exact h.ok x z
    · rw [List.mem_singleton.mp z]
      exact ok
  · rw [kt_snoc h.len]
    cases f
    · rw [if_neg (by simp), List.append_nil]
      exact h.calm
    · rw [if_pos rfl]
      exact gs.calm_step h.okk ok (hf rfl)
theorem SI.less {n : Nat} {ts : List Tie} {fl : List Bool} {t : Tie} {f : Bool} (h : SI n (ts ++ [t]) (fl ++ [f])) : SI n ts fl := by
  have hl : ts.length = fl.length := by
    have := h.len
    simp at this
    exact this
  have few := h.few
  rw [List.length_append] at few
  refine ⟨hl, by omega, fun x hx => h.ok x (List.mem_append_left _ hx), fun o => h.calm (o.mono fun x hx => ?_), h.n1, h.n40⟩
  rw [kt_snoc hl]
  exact List.mem_append_left _ hx
theorem StA.tk {C : Addr} {H H' : Hp} {p T Kk Lo : Addr} {n : Nat} {ts : List Tie} {fl : List Bool} (S : StA C H p T Kk Lo n ts fl) (k : KS p T Kk Lo H H') : Tk H H' := fun b xs e => by
  obtain ⟨dx, h1⟩ := S.ob
  obtain ⟨us, h2, _⟩ := S.hT
  exact k b _ (ne_of e h1 (by intro z; cases z)) (ne_of e h2 (by intro z; cases z)) (ne_of e S.hK (by intro z; cases z)) (ne_of e S.hL (by intro z; cases z)) e
theorem StA.put {C : Addr} {H : Hp} {p T Kk Lo a : Addr} {n : Nat} {ts : List Tie} {fl : List Bool} {xs ys : List V} (S : StA C H p T Kk Lo n ts fl) (h : H a = some (.lst xs)) (n1 : a ≠ T) (n2 : a ≠ Kk) (n3 : a ≠ Lo) : StA C (upd H a (.lst ys)) p T Kk Lo n ts fl := by
  obtain ⟨⟨dx, h1⟩, ⟨us, h2, h3⟩, h4, h5, e1, e2, e3⟩ := S
  refine ⟨⟨dx, ?_⟩, ⟨us, ?_, ties_tk (tk_lst h) h3⟩, ?_, ?_, e1, e2, e3⟩
  · rw [upd_ne (ne_of h1 h (by intro z; cases z))]
    exact h1
  · rw [upd_ne (Ne.symm n1)]
    exact h2
  · rw [upd_ne (Ne.symm n2)]
    exact h4
  · rw [upd_ne (Ne.symm n3)]
    exact h5
theorem zip_snoc {α β : Type} {a : α} {b : β} : ∀ {as : List α} {bs : List β}, as.length = bs.length → (as ++ [a]).zip (bs ++ [b]) = as.zip bs ++ [(a, b)]
  | [], [], _ => rfl
  | x :: as, y :: bs, h => by
    have ih := zip_snoc (a := a) (b := b) (as := as) (bs := bs) (by simpa using h)
    show (x, y) :: (as ++ [a]).zip (bs ++ [b]) = _
    rw [ih]
    rfl
theorem unsnoc {α : Type} : ∀ {l : List α}, l ≠ [] → ∃ l' a, l = l' ++ [a] := fun {l} h => ⟨l.dropLast, l.getLast h, (List.dropLast_concat_getLast h).symm⟩
/-- the law's own lists beside the stand: L its ties, M what it kept -/
theorem KS.keep {p T Kk Lo : Addr} {H0 H H' : Hp} (k : KS p T Kk Lo H H') (s : Same H0 H) (n0 : H0 p = none) (n1 : H0 T = none) (n2 : H0 Kk = none) (n3 : H0 Lo = none) : Same H0 H' := fun b o e => k b o (ne_of_none e n0) (ne_of_none e n1) (ne_of_none e n2) (ne_of_none e n3) (s b o e)
/-! ### the first tie that breaks (mathematics) -/
theorem sides_walk {ts : List Tie} {s : Int → Bool} (h : ∀ t ∈ ts, (s t.one ^^ s t.other) = t.foe) {x y : Int} {p : Bool} (r : RP ts x y p) : (s x ^^ s y) = p := by
  induction r with
  | nil => exact Bool.xor_self _
  | step r ad ih =>
    obtain ⟨t, ht, e, q⟩ := ad
    have hy := h t ht
    rw [← e, ← hy]
    rcases q with ⟨q1, q2⟩ | ⟨q1, q2⟩
    · rw [q1, q2, ← ih]
      exact xor3 _ _ _
    · rw [q1, q2, ← ih]
      exact xor3' _ _ _
theorem gs_ex {n : Nat} {ts : List Tie} : (∀ t ∈ ts, TieOk n t) → ∃ g s good, GS ts n g s good := by
  refine snocInd (p := fun ts => (∀ t ∈ ts, TieOk n t) → ∃ g s good, GS ts n g s good) (fun _ => ⟨_, _, _, GS.nil n⟩) (fun l a ih ok => ?_) ts
  obtain ⟨g, s, good, gs⟩ := ih fun t ht => ok t (List.mem_append_left _ ht)
  exact ⟨_, _, _, gs.step (fun t ht => ok t (List.mem_append_left _ ht)) (ok a (by simp)) rfl rfl rfl⟩
theorem calm_gs {n : Nat} {ts : List Tie} (ok : ∀ t ∈ ts, TieOk n t) (h : ¬ Odd ts n) : ∃ g s, GS ts n g s true := by
  obtain ⟨g, s, good, gs⟩ := gs_ex ok
  cases good
  · exact absurd (gs.no rfl) h
  · exact ⟨g, s, gs⟩
theorem calm_iff {n : Nat} {ts : List Tie} (ok : ∀ t ∈ ts, TieOk n t) : ¬ Odd ts n ↔ ∃ s : Int → Bool, ∀ t ∈ ts, (s t.one ^^ s t.other) = t.foe := by
  constructor
  · intro h
    obtain ⟨g, s, gs⟩ := calm_gs ok h
    exact ⟨fun i => bit (s i), gs.yes rfl⟩
  · rintro ⟨s, hs⟩ ⟨x, _, r⟩
    have := sides_walk hs r
    rw [Bool.xor_self] at this
    cases this
/-! ### own refusals -/
/-- a class of refusals, at D, named x, under WebError, at W -/
structure RefT (K : PySem.W.Frag) (mg : Str → Option Value) (x : Str) (D W : Addr) : Prop where
  gD : mg x = some (.ref D)
  gW : mg "WebError" = some (.ref W)
  exc : PySem.W.excIn K D [.type "ValueError", .type "Exception", .type "BaseException", .type "object"] "ValueError.__new__" = true
  kD : PySem.W.keepIn K (.ref D) = true
  tD : PySem.W.typeIn K (.ref D) = some (.type "type")
  ec : ExcC K D
  web : PySem.W.exmOne K (.ref D) (.ref W) = some true
/-- what isinstance tells of its refusals: of the class named x, at C, b -/
structure KitT (K : PySem.W.Frag) (mg : Str → Option Value) (D : Addr) (x : Str) (C : Addr) (b : Bool) : Prop where
  g : mg x = some (.ref C)
  k : PySem.W.kitOne K (.ref D) (.ref C) = some b
section
variable {X : Cx}
def rIsX (K : PySem.W.Frag) (a : Addr) (cls : Value) (d : Option Addr) : List V → Hp → VK → Prop := fun xs H Q => ∃ D, ExcC K D ∧ cls = .ref D ∧ d = none ∧ rIsE K D a xs H Q
theorem call_isX {a : Addr} {cls : Value} {d : Option Addr} {oe : Obj} {pn : List (Addr × Obj)} (hz : Zc cls d oe) (hf : ∃ vs, oe.data = .fields vs) : CallR (X.suite a ((a, oe) :: pn)) (.builtin "isinstance") (rIsX X.K a cls d) := by
  intro pins s σ H xs us Q I r h
  obtain ⟨D, C, rfl, rfl, h⟩ := h
  exact call_isE C hz hf pins s σ H xs us Q I r h
end
def DfX (P : Program) (w : World) (K : PySem.W.Frag) (mg : Str → Option Value) (base : Heap) (k : Nat) (x : Str) (ps : List Str) (sp : Sp) : Prop :=
  ∃ (f : Addr) (fd : FuncData), FnOk P w K mg base (L2.CX P w) k f fd ps sp ∧ mg x = some (.ref f) ∧ PySem.W.keepIn K (.ref f) = true ∧ Binds K fd ps []
theorem DfX.of {P : Program} {w : World} {K : PySem.W.Frag} {mg : Str → Option Value} {base : Heap} {x : Str} {st : Stmt} {f : Addr} {fd : FuncData} {k : Nat} {ps : List Str} {sp : Sp} (g : mg x = some (.ref f)) (F : Fun K x x st f fd) (G : FnOk P w K mg base (L2.CX P w) k f fd ps sp)
    (h : ∀ (kV doc pm : Value) (an : Option Addr) (cdv ct : Value) (us : List Value), us.length = ps.length → bindArgs (PySem.W.fnOf x x (defArgs st) (defBody st) (defScope st) .none kV doc pm an cdv ct) ⟨us, []⟩ = pure (ps.zip us)) : DfX P w K mg base k x ps sp :=
  ⟨f, fd, G, g, F.kp, F.binds h⟩
/-- where a class of refusals stands -/
structure ErrK (K : PySem.W.Frag) (x : Str) (D W : Addr) : Prop where
  ns : PySem.W.nsIn K mainGlobals x = some (some (.ref D))
  nw : PySem.W.nsIn K mainGlobals "WebError" = some (some (.ref W))
  exc : PySem.W.excIn K D [.type "ValueError", .type "Exception", .type "BaseException", .type "object"] "ValueError.__new__" = true
  kD : PySem.W.keepIn K (.ref D) = true
  tD : PySem.W.typeIn K (.ref D) = some (.type "type")
  ec : ExcC K D
  web : PySem.W.exmOne K (.ref D) (.ref W) = some true
theorem errK_mk {K : PySem.W.Frag} {x : Str} {D W : Addr} (p1 : PySem.W.nsIn K mainGlobals x = some (some (.ref D))) (p2 : PySem.W.nsIn K mainGlobals "WebError" = some (some (.ref W)))
    (p3 : PySem.W.excIn K D [.type "ValueError", .type "Exception", .type "BaseException", .type "object"] "ValueError.__new__" = true) (p4 : PySem.W.keepIn K (.ref D) = true) (p5 : PySem.W.typeIn K (.ref D) = some (.type "type"))
    (p6 : PySem.W.findIn K (.ref D) "__getattribute__" = some (some (.builtin "BaseException.__getattribute__"))) (p7 : PySem.W.findIn K (.ref D) "__getattr__" = some none) (p8 : PySem.W.subIn K (.ref D) (.type "BaseException") = some true) (p9 : PySem.W.hasDictIn K D = true)
    (p10 : PySem.W.findIn K (.ref D) "__class__" = some (some (.builtin "object.__class__"))) (p11 : PySem.W.specialIn K (.builtin "object.__class__") "__get__" = some (some (.builtin "getset_descriptor.__get__"))) (p12 : PySem.W.takesIn K (.builtin "object.__class__") = some true) (p13 : PySem.W.mroIn K D (.type "object") = some true)
    (p14 : PySem.W.subIn K (.ref W) (.type "BaseException") = some true) (p15 : PySem.W.hasDictIn K W = true) (p16 : PySem.W.typeIn K (.ref W) = some (.type "type")) (p17 : PySem.W.subIn K (.ref D) (.ref W) = some true) : ErrK K x D W :=
  ⟨p1, p2, p3, p4, p5, ⟨p6, p7, p8, p9, p10, p11, p12, p13⟩, PySem.W.exm_ref p14 p15 p16 p17⟩
theorem ErrK.ref {K : PySem.W.Frag} {mg : Str → Option Value} {h : Heap} {x : Str} {D W : Addr} (e : ErrK K x D W) (X : K.In h) (G : h.Ns mainGlobals mg) : RefT K mg x D W :=
  ⟨PySem.W.mg_of X G e.ns, PySem.W.mg_of X G e.nw, e.exc, e.kD, e.tD, e.ec, e.web⟩
structure KitK (K : PySem.W.Frag) (D : Addr) (x : Str) (C : Addr) (b : Bool) : Prop where
  ns : PySem.W.nsIn K mainGlobals x = some (some (.ref C))
  k : PySem.W.kitOne K (.ref D) (.ref C) = some b
theorem kitK_mk {K : PySem.W.Frag} {D : Addr} {x : Str} {C : Addr} {b : Bool} (p1 : PySem.W.nsIn K mainGlobals x = some (some (.ref C))) (p2 : PySem.W.kitOne K (.ref D) (.ref C) = some b) : KitK K D x C b := ⟨p1, p2⟩
theorem KitK.kit {K : PySem.W.Frag} {mg : Str → Option Value} {h : Heap} {D : Addr} {x : Str} {C : Addr} {b : Bool} (e : KitK K D x C b) (X : K.In h) (G : h.Ns mainGlobals mg) : KitT K mg D x C b := ⟨PySem.W.mg_of X G e.ns, e.k⟩
/-! ### own rules: max of a tuple, t.index, o[i] of a list by values, t * k -/
section
variable {X : Cx}
def rMaxT (K : PySem.W.Frag) : List V → Hp → VK → Prop := fun vs H Q => ∃ (a : Addr) (ns : List Int), vs = [V.ref a] ∧ SqT K H a (ns.map V.int) ∧ 0 < ns.length ∧ ∀ m, m ∈ ns → (∀ y, y ∈ ns → y ≤ m) → Q (.int m) H
theorem foldl_max : ∀ (ns : List Int) (n : Int), ns.foldl max n ∈ n :: ns ∧ ∀ y ∈ n :: ns, y ≤ ns.foldl max n
  | [], n => ⟨by simp, fun y hy => by simp at hy; rw [hy]; exact Int.le_refl _⟩
  | x :: xs, n => by
    obtain ⟨h1, h2⟩ := foldl_max xs (max n x)
    rw [List.foldl_cons]
    refine ⟨?_, fun y hy => ?_⟩
    · rcases List.mem_cons.mp h1 with e | e
      · rw [e]
        by_cases h : n ≤ x
        · rw [Int.max_eq_right h]; simp
        · rw [Int.max_eq_left (by omega)]; simp
      · exact List.mem_cons_of_mem _ (List.mem_cons_of_mem _ e)
    · have h3 := h2 (max n x) (by simp)
      rcases List.mem_cons.mp hy with e | e
      · subst e
        omega
      · rcases List.mem_cons.mp e with e | e
        · subst e
          omega
        · exact h2 y (List.mem_cons_of_mem _ e)
theorem dp_intsX {K : PySem.W.Frag} {H : Hp} : ∀ (xs : List Int), DpAll K H (xs.map V.int) (xs.map PyData.int)
  | [] => .nil
  | x :: xs => .cons (.int x) (dp_intsX xs)
theorem depth_intsX : ∀ xs : List Int, PyData.depthAll (xs.map PyData.int) = 0
  | [] => by simp [PyData.depthAll]
  | x :: xs => by simp [PyData.depthAll, PyData.depth, depth_intsX xs]
theorem cr_maxT (hc : X.calm = true) (hu : X.A.units + 65 < cLine) : CallR X (.builtin "max") (rMaxT X.K) := by
  intro pins s σ H vs us Q I r h
  obtain ⟨a, ns, rfl, hs, hne, q⟩ := h
  obtain ⟨its, rv, hl, _⟩ := I.tuple hs
  rw [Vals.ref1 r]
  obtain ⟨as, rs⟩ := Dp.readsAll I _ _ _ (dp_intsX ns) rv
  cases ns with
  | nil => exact absurd hne (by simp)
  | cons n ns =>
    have al : PySem.W.AlikeAll ((n :: ns).map PyData.int) := by
      refine ⟨fun x hx y hy => ?_, fun x hx => ?_⟩
      · obtain ⟨i, _, rfl⟩ := List.mem_map.mp hx
        obtain ⟨j, _, rfl⟩ := List.mem_map.mp hy
        rfl
      · obtain ⟨i, _, rfl⟩ := List.mem_map.mp hx
        intro z
        cases z
    refine PySem.W.max_tuple_data (x := .int n) (xs := ns.map PyData.int) (as := as) (I.ok.hd hc) hl (by simpa using rs) (by simpa using al) (by have := depth_intsX (n :: ns); rw [List.map_cons] at this; rw [this]; omega) fun i v h' tk bs _ rd hk => ?_
    rw [PySem.W.maxD_ints] at rd
    cases rd with
    | int _ t =>
      have f := foldl_max ns n
      exact ⟨.int _, H, I.kept hk, ⟨_, rfl⟩, q _ f.1 f.2⟩
def rGetL (K : PySem.W.Frag) : V → V → Hp → VK → Prop := fun x y H Q => ∃ p xs i v, x = .ref p ∧ y = .int i ∧ SqL K H p xs ∧ 0 ≤ i ∧ atI xs i = some v ∧ Q v H
theorem get_list : PGet X (rGetL X.K) := by
  intro pins s σ H x y v u Q I rx ry h
  obtain ⟨p, xs, i, z, rfl, rfl, hq, h0, he, q⟩ := h
  cases rx
  obtain ⟨t, rfl⟩ := ry
  obtain ⟨its, r, pl, hz⟩ := I.list hq
  obtain ⟨j, h1, h2, h3, h4, h5⟩ := atI_get he
  obtain ⟨w, ew, rw'⟩ := r.get h2
  have hl := r.length
  have hn := line63
  have hj : i.toNat = j := by
    rw [seqIndex_of h0 h5] at h1
    exact Option.some.inj h1
  exact wpAny_getItem_list pl.isList h0 (by omega) (by rw [hj]; simpa using ew) ⟨z, H, I, rw', q⟩
theorem tuple_mul1 (l : Addr) (items : Array Value) (n : Nat) (dd : Option Addr) (sl : Array (Option Value)) (u : Tok) :
    Meets (Builtin.«tuple.__mul__» ⟨[.ref l, .int 1 u], []⟩) (fun _ R s => s.heap.get? l = some { cls := .type "tuple", dict := dd, data := .seq items n, slots := sl } ∧ R (.ok (.ret (Value.ref l))) s) :=
  .of_wp fun prog w A R s h => by
    obtain ⟨hp, g, d, tk, os⟩ := s
    obtain ⟨hl, h⟩ := h
    have f1 := AutoSeq1.idx_int
    have c1 : (items.isEmpty || (1 : Int) == 1) = true := by cases items.isEmpty <;> rfl
    wp_walk using wpAny_loadPart' hl
    repeat (first
      | (refine wpAny_ite_true (decide_eq_true c1) ?_; wp_walk using wpAny_loadPart' hl))
    exact ⟨_, rfl, h⟩
def rRepU : R2 := fun x y H Q => ∃ l k xs, x = .ref l ∧ y = .int k ∧ H l = some (.tup xs) ∧ xs ≠ [] ∧ 1 ≤ k ∧ k ≤ 1000 ∧ xs.length ≤ 1000 ∧ ∀ r H', Same H H' → H' r = some (.tup (List.replicate k.toNat xs).flatten) → Q (.ref r) H'
theorem op_repU : OpR X (binaryOp .Mult) rRepU := by
  intro pins s σ H x y v u Q I rx ry h
  obtain ⟨l, k, xs, rfl, rfl, hT, hne, h1, h2, hz, q⟩ := h
  by_cases hk : k = 1
  · subst hk
    cases rx
    obtain ⟨t, rfl⟩ := ry
    obtain ⟨its, r, ⟨⟨cls, dd, data, sl⟩, ho, hc, n, hd⟩, hs⟩ := I.tuple (SqT.of (K := X.K) hT)
    simp only at hc hd
    subst hc hd
    refine wpAny_binaryOp_repeat_ref (T := "tuple") (U := "int") (by decide) ⟨_, ho, rfl⟩ (fun s' => typeIs_int s' 1 t) noFill_tuple_mul F.fills_int_mul F.slot_int_rmul repeat_tuple F.slot_int_index.lookup
      (call_meets F.slot_int_rmul (typeIs_int s 1 t) F.entry_int_rmul (F.args_int_rmul_2 _ _) (int_rmul_tuple 1 t l its.toArray n dd sl)
        ⟨ho, rfl, ⟨_, ho, rfl⟩, call_meets F.slot_tuple_mul ⟨_, ho, rfl⟩ F.entry_tuple_mul (F.args_tuple_mul_2 _ _) (tuple_mul1 l its.toArray n dd sl t) ⟨ho, ?_⟩⟩)
    exact ⟨.ref l, H, I, rfl, q l H (Same.refl H) (by simpa using hT)⟩
  · exact op_repT pins s σ H _ _ v u Q I rx ry ⟨l, k, xs, rfl, rfl, SqT.of hT, hne, by omega, h2, hz, fun p np => q p _ (same_new np) upd_same⟩
def rIdxT (K : PySem.W.Frag) : V → List V → Hp → VK → Prop := fun x xs H Q => ∃ (p : Addr) (ns : List Int) (k : Int) (j : Nat), x = .ref p ∧ xs = [.int k] ∧ SqT K H p (ns.map V.int) ∧ ns[j]? = some k ∧ (∀ m, m < j → ns[m]? ≠ some k) ∧ Q (.int (j : Nat)) H
theorem mt_tidx : MtR X "tuple.index" (rIdxT X.K) := by
  intro pins s σ H x xs v us Q I rx rs h
  obtain ⟨p, ns, z, j, rfl, rfl, hq, hy, hno, q⟩ := h
  cases rx
  obtain ⟨u, rfl, t, rfl⟩ := vals1 rs
  obtain ⟨its, r, pl, hz⟩ := I.tuple hq
  obtain ⟨⟨cls, dd, dt, sl⟩, ho, hc, n, hd⟩ := pl
  simp only at hc hd
  subst hc
  subst hd
  have hl : its.toArray.size = ns.length := by rw [List.size_toArray, ← r.length, List.length_map]
  have hj : j < its.toArray.size := by rw [hl]; exact (List.getElem?_eq_some_iff.mp hy).1
  have hi := ints_of_vals r
  have at' : ∀ (m : Nat) (hm : m < its.toArray.size), ∃ y t', ns[m]? = some y ∧ its.toArray[m] = Value.int y t' := fun m hm => by
    have hm' : m < ns.length := by rw [← hl]; exact hm
    obtain ⟨w, hw, t', hw'⟩ := r.get (i := m) (x := .int ns[m]) (by simp [hm'])
    refine ⟨ns[m], t', List.getElem?_eq_getElem hm', ?_⟩
    have e := (List.getElem?_eq_some_iff.mp hw).2
    rw [← hw', ← e]
    simp
  have ek : ∀ (y : Int) (t' : Tok), eqk z (Value.int y t') = decide (y = z) := fun y t' => by
    show (y == z) = _
    by_cases h : y = z
    · rw [decide_eq_true h, h]; simp
    · rw [decide_eq_false h]; simp [h]
  refine call_meets PySem.F.slot_tuple_index ⟨_, ho, rfl⟩ PySem.F.entry_tuple_index (PySem.F.args_tuple_index_2 _ _) (TI.tuple_indexAt p its.toArray n dd sl (.int z t) (eqk z) j hj ?_ ?_)
    ⟨ho, fun y hy => (eqk_gives hi y (by simpa using hy)).at _ _, ⟨.int (j : Nat), H, I.tok _, ⟨_, rfl⟩, q⟩⟩
  · obtain ⟨y, t', h1, h2⟩ := at' j hj
    rw [hy] at h1
    cases h1
    rw [h2, ek]
    exact decide_eq_true rfl
  · intro m hm hmj
    obtain ⟨y, t', h1, h2⟩ := at' m hm
    rw [h2, ek]
    refine decide_eq_false fun e => hno m hmj ?_
    rw [h1, e]
end
/-! ### the state of a stand, as data -/
def KR (R : List Addr) (H H' : Hp) : Prop := ∀ b o, b ∉ R → H b = some o → H' b = some o
theorem KR.trans {R : List Addr} {H H1 H2 : Hp} (a : KR R H H1) (b : KR R H1 H2) : KR R H H2 := fun x o h e => b x o h (a x o h e)
theorem Same.kr {R : List Addr} {H H' : Hp} (s : Same H H') : KR R H H' := fun b o _ e => s b o e
theorem KS.kr {p T Kk Lo : Addr} {R : List Addr} {H H' : Hp} (k : KS p T Kk Lo H H') (h0 : p ∈ R) (h1 : T ∈ R) (h2 : Kk ∈ R) (h3 : Lo ∈ R) : KR R H H' := fun b o hb e => k b o (fun z => hb (z ▸ h0)) (fun z => hb (z ▸ h1)) (fun z => hb (z ▸ h2)) (fun z => hb (z ▸ h3)) e
open Classical in
noncomputable def bet (kts : List Tie) (a b : Int) : Option Bool := if Rch kts a b then some (decide (RP kts a b true)) else none
theorem bet_none {kts : List Tie} {a b : Int} (h : ¬ Rch kts a b) : bet kts a b = none := if_neg h
open Classical in
theorem bet_some {kts : List Tie} {n : Nat} {a b : Int} {p : Bool} (calm : ¬ Odd kts n) (ha : 0 ≤ a ∧ a < n) (r : RP kts a b p) : bet kts a b = some p := by
  unfold bet
  rw [if_pos ⟨_, r⟩]
  cases p
  · rw [decide_eq_false fun r' => by cases rp_one calm ha r r']
  · rw [decide_eq_true r]
def betV : Option Bool → V
  | none => .non
  | some b => .str (if b = true then "apart" else "together")
def betD : Option Bool → PyData
  | none => .none
  | some b => .str (if b = true then "apart" else "together")
def cntL (n : Nat) : Int := if (n : Int) < (if decide ((20 : Int) < n) = true then 2 else 4) then (n : Int) else (if decide ((20 : Int) < n) = true then 2 else 4)
def someL (n k : Nat) : List Int := (List.range (cntL n).toNat).map fun j : Nat => ((k : Int) + (j : Int) * (1 + (k : Int) % 3)) % (n : Int)
theorem someL_in {n k : Nat} (h : 1 ≤ n) {x : Int} (hx : x ∈ someL n k) : 0 ≤ x ∧ x < n := by
  obtain ⟨j, _, rfl⟩ := List.mem_map.mp hx
  exact mod_rng (by omega)
theorem someL_len (n k : Nat) : (someL n k).length ≤ 4 := by
  unfold someL cntL
  rw [List.length_map, List.length_range]
  split <;> (try split) <;> omega
noncomputable def rowsD (kts : List Tie) (l : List Int) : PyData := .list (l.map fun a => .list (l.map fun y => betD (bet kts a y)))
noncomputable def stD (n : Nat) (ts : List Tie) (fl : List Bool) (ss : List Int) (k : Nat) : PyData := .tuple [webD n ts, intsD ss, intsD (knT fl false), rowsD (kt ts fl) (someL n k)]
theorem lay_all {α : Type} {f : α → PyData} (h : ∀ x, (f x).canLay0 = true) : ∀ l : List α, PyData.canLayAll0 (l.map f) = true
  | [] => by simp [PyData.canLayAll0]
  | x :: l => by rw [List.map_cons, PyData.canLayAll0, h x, lay_all h l]; rfl
theorem deep_all {α : Type} {f : α → PyData} {d : Nat} (h : ∀ x, (f x).depth ≤ d) : ∀ l : List α, PyData.depthAll (l.map f) ≤ d
  | [] => by simp [PyData.depthAll]
  | x :: l => by
    have := deep_all h l
    have := h x
    rw [List.map_cons, PyData.depthAll]
    omega
theorem lay_bet (o : Option Bool) : (betD o).canLay0 = true := by
  cases o with
  | none => simp [betD, PyData.canLay0]
  | some b => cases b <;> (show (PyData.str _).canLay0 = true) <;> decide +kernel
theorem deep_bet (o : Option Bool) : (betD o).depth ≤ 0 := by
  cases o <;> simp [betD, PyData.depth]
theorem lay_st (n : Nat) (ts : List Tie) (fl : List Bool) (ss : List Int) (k : Nat) : (stD n ts fl ss k).canLay0 = true := by
  unfold stD rowsD
  rw [PyData.canLay0, PyData.canLayAll0, PyData.canLayAll0, PyData.canLayAll0, PyData.canLayAll0, lay_web, lay_intsD, lay_intsD, PyData.canLay0, lay_all (fun a => by rw [PyData.canLay0]; exact lay_all (fun y => lay_bet _) _), PyData.canLayAll0]
  rfl
theorem shaped_st (n : Nat) (ts : List Tie) (fl : List Bool) (ss : List Int) (k : Nat) : SeqAt.shaped (stD n ts fl ss k) = true := by
  have h := deep_ties ts
  have h2 : PyData.depthAll ((someL n k).map fun a => PyData.list ((someL n k).map fun y => betD (bet (kt ts fl) a y))) ≤ 1 := deep_all (fun a => by
    have := deep_all (d := 0) (fun y => deep_bet (bet (kt ts fl) a y)) (someL n k)
    rw [PyData.depth]
    omega) _
  have d : (stD n ts fl ss k).depth ≤ 5 := by
    simp only [stD, rowsD, webD, PyData.depth, PyData.depthAll, deep_intsD]
    omega
  unfold SeqAt.shaped
  rw [lay_st]
  simp
  omega
def RowV (H : Hp) (R : List Addr) (kts : List Tie) (l : List Int) (v : V) (a : Int) : Prop := ∃ b, v = .ref b ∧ b ∉ R ∧ H b = some (.lst (l.map fun y => betV (bet kts a y)))
def StateAt (H : Hp) (R : List Addr) (v : V) (n : Nat) (ts : List Tie) (fl : List Bool) (k : Nat) : Prop := ∃ (r sa ba ra : Addr) (wv : V) (ss : List Int) (rows : List V), v = .ref r ∧ H r = some (.tup [wv, .ref sa, .ref ba, .ref ra]) ∧ WebAt H wv n ts ∧ Told (kt ts fl) n ss ∧ Cons ss (kt ts fl) ∧ H sa = some (.tup (ss.map V.int)) ∧ H ba = some (.tup ((knT fl false).map V.int)) ∧ ra ∉ R ∧ H ra = some (.lst rows) ∧ Paired (RowV H R (kt ts fl) (someL n k)) rows (someL n k)
theorem StateAt.kr {H H' : Hp} {R R' : List Addr} {v : V} {n : Nat} {ts : List Tie} {fl : List Bool} {k : Nat} (h : StateAt H R v n ts fl k) (kr : KR R' H H') (tk : Tk H H') (hs : ∀ a ∈ R', a ∈ R) : StateAt H' R v n ts fl k := by
  obtain ⟨r, sa, ba, ra, wv, ss, rows, e, h1, h2, h3, h4, h5, h6, h7, h8, h9⟩ := h
  refine ⟨r, sa, ba, ra, wv, ss, rows, e, tk _ _ h1, h2.tk tk, h3, h4, tk _ _ h5, tk _ _ h6, h7, kr _ _ (fun z => h7 (hs _ z)) h8, Paired.mono (fun v a x => ?_) h9⟩
  obtain ⟨b, e, n1, hb⟩ := x
  exact ⟨b, e, n1, kr _ _ (fun z => n1 (hs _ z)) hb⟩
theorem StateAt.same {H H' : Hp} {R : List Addr} {v : V} {n : Nat} {ts : List Tie} {fl : List Bool} {k : Nat} (h : StateAt H R v n ts fl k) (s : Same H H') : StateAt H' R v n ts fl k := h.kr (R' := []) (Same.kr s) (Same.tk s) (fun a ha => by cases ha)
theorem dp_bet {K : PySem.W.Frag} {H : Hp} (o : Option Bool) : Dp K H (betV o) (betD o) := by
  cases o
  · exact .non
  · exact .str _
theorem dp_map {K : PySem.W.Frag} {H : Hp} {α : Type} {f : α → V} {g : α → PyData} (h : ∀ x, Dp K H (f x) (g x)) : ∀ l : List α, DpAll K H (l.map f) (l.map g)
  | [] => .nil
  | x :: l => .cons (h x) (dp_map h l)
theorem dp_rows {K : PySem.W.Frag} {H : Hp} {R : List Addr} {kts : List Tie} {l : List Int} : ∀ {rows : List V} {as : List Int}, Paired (RowV H R kts l) rows as → DpAll K H rows (as.map fun a => .list (l.map fun y => betD (bet kts a y)))
  | _, _, .nil => .nil
  | _, _, .cons r t => by
    obtain ⟨b, rfl, _, hb⟩ := r
    exact .cons (.lst (SqL.of hb) (dp_map (fun y => dp_bet _) l)) (dp_rows t)
/-- two states of the same: the same data -/
theorem StateAt.two {K : PySem.W.Frag} {H : Hp} {R R' : List Addr} {v v' : V} {n : Nat} {ts : List Tie} {fl : List Bool} {k : Nat} (ok : ∀ t ∈ kt ts fl, TieOk n t) (h : StateAt H R v n ts fl k) (h' : StateAt H R' v' n ts fl k) : ∃ d, Dp K H v d ∧ Dp K H v' d ∧ SeqAt.shaped d = true ∧ d.canLay0 = true := by
  obtain ⟨r, sa, ba, ra, wv, ss, rows, rfl, h1, h2, h3, h4, h5, h6, h7, h8, h9⟩ := h
  obtain ⟨r', sa', ba', ra', wv', ss', rows', rfl, h1', h2', h3', h4', h5', h6', h7', h8', h9'⟩ := h'
  obtain rfl := told_unique ok h3 h3' h4
  refine ⟨stD n ts fl ss k, ?_, ?_, shaped_st _ _ _ _ _, lay_st _ _ _ _ _⟩
  · exact .tup (SqT.of h1) (.cons h2.dp (.cons (.tup (SqT.of h5) (dp_ints ss)) (.cons (.tup (SqT.of h6) (dp_ints _)) (.cons (.lst (SqL.of h8) (dp_rows h9)) .nil))))
  · exact .tup (SqT.of h1') (.cons h2'.dp (.cons (.tup (SqT.of h5') (dp_ints ss)) (.cons (.tup (SqT.of h6') (dp_ints _)) (.cons (.lst (SqL.of h8') (dp_rows h9')) .nil))))
/-! ### flags that are right -/
inductive Rt : List Tie → List Bool → Prop
  | nil : Rt [] []
  | snoc {ts : List Tie} {fl : List Bool} {t : Tie} {f : Bool} : Rt ts fl → (f = true ↔ Kps (kt ts fl) t) → Rt (ts ++ [t]) (fl ++ [f])
theorem Rt.inv {us : List Tie} {gl : List Bool} (h : Rt us gl) : ∀ {ts : List Tie} {fl : List Bool} {t : Tie} {f : Bool}, us = ts ++ [t] → gl = fl ++ [f] → Rt ts fl ∧ (f = true ↔ Kps (kt ts fl) t) := by
  cases h with
  | nil =>
    intro ts fl t f e _
    simp at e
  | snoc h k =>
    intro ts fl t f e1 e2
    obtain ⟨rfl, e⟩ := List.append_inj' e1 rfl
    obtain ⟨rfl, e'⟩ := List.append_inj' e2 rfl
    cases e
    cases e'
    exact ⟨h, k⟩
theorem SI.step {n : Nat} {ts : List Tie} {fl : List Bool} (h : SI n ts fl) {t : Tie} (ok : TieOk n t) (few : ts.length ≤ 119) {f : Bool} (hf : f = true → Kps (kt ts fl) t) : SI n (ts ++ [t]) (fl ++ [f]) := by
  obtain ⟨g, s, gs⟩ := calm_gs h.okk h.calm
  exact h.more gs ok few hf
/-! ### back, refused -/
section
variable {X : Cx} {CX : CXT} {k : Nat} {f C : Addr} {fd : FuncData} {ps : List Str} {sp : Sp} {E : L2.St → XK} {m : Str} {pos apos : Pos} {o : Expr} {ta : TE}
def tMethX (C : Addr) (m : Str) (sp : Sp) (E : L2.St → XK) (ta : TE) : TE := fun σ H Q => ta σ H fun x H1 => ∃ a dx fs, x = V.ref a ∧ H1 a = some (.ins C dx fs) ∧ fs.lookup m = none ∧ sp [.ref a] H1 Q (E σ)
/-- o.m(), where what it raises may be caught -/
theorem pe_methX0 {pl : Sem Bool} (he : PE X o ta) (c : Cls X.K C) (hm : Meth X.K C m f) (F : FnOk X.prog X.w X.K X.mg X.base CX k f fd ps sp) (hr : Room k X.A) (hb : Binds X.K fd ps []) (hx : ∀ σ, PassesAt CX X σ (E σ))
    (ht : eval (.Call (.Attribute o m apos) [] [] pos) X.env = (do
      let ov ← eval o X.env
      standAt apos.atName
      let (f, first) ← holding [ov] (getMethod ov m pl)
      callWith pos f first (backTo pos (starEach [] X.env)) (backToKw pos (keywordEach [] X.env))) := by rfl) :
    PE X (.Call (.Attribute o m apos) [] [] pos) (tMethX C m sp E ta) := by
  refine ⟨fun pins s σ H Q I h => ?_⟩
  refine PySem.W.methodCall_KW (pl := pl) (thn (he.run pins s σ H _ I h) fun u s1 ⟨x, H1, I1, rx, a, dx, fs, ex, ea, l, q⟩ => ?_) ht
  subst ex
  obtain rfl : u = Value.ref a := rx
  refine getmeth_ok I1 ea c hm l ?_
  exact PySem.W.callWith_K0 (first := [.ref a]) I1.kIn hm.kp (run_fnS (us := [.ref a]) (vs := [.ref a]) F hr hb (hx σ) I1 (.cons rfl .nil) q)
end
def DfMX (P : Program) (w : World) (K : PySem.W.Frag) (mg : Str → Option Value) (base : Heap) (k : Nat) (C : Addr) (m : Str) (ps : List Str) (sp : Sp) : Prop := ∃ (f : Addr) (fd : FuncData), FnOk P w K mg base (L2.CX P w) k f fd ps sp ∧ Meth K C m f ∧ Binds K fd ps []
def spSBackX (C D : Addr) : Sp := fun vs H _ E => ∃ (p T Kk Lo : Addr) (n : Nat), vs = [.ref p] ∧ StA C H p T Kk Lo n [] [] ∧ ∀ H', Same H H' → E (.ref D) none H'
def spRefused (C : Addr) : Sp := fun vs H Q _ => ∃ (p T Kk Lo : Addr) (n : Nat), vs = [.ref p] ∧ StA C H p T Kk Lo n [] [] ∧ ∀ H', Same H H' → Q (.bl true) H'
section
variable {P : Program} {w : World} {K : PySem.W.Frag} {mg : Str → Option Value} {base : Heap}
theorem ok_S_backX {f C D W : Addr} {fd : FuncData} (F : Fun K "back" "Stand.back" s_Stand_back f fd) (T : STx K C) (TX : RefT K mg "NoTie" D W) : FnOk P w K mg base (L2.CX P w) 1 f fd ["self"] (spSBackX C D) := by
  refine F.okX sc_Stand_back (fun vs H Q E h => ?_) (fun cdv A outer s H vs Q E hr h => ?_)
  · obtain ⟨p, Ti, Kk, Lo, n, rfl, _⟩ := h
    rfl
  · obtain ⟨p, Ti, Kk, Lo, n, rfl, S, q⟩ := h
    refine ⟨_, pss_cons (ps_if (pt_not (pt_truth (pe_fld (pv 0) rfl) (by intro _; rfl))) (pss_one (ps_raise rfl (takes_of rfl rfl rfl rfl) (pmk_own PySem.F.excBase_ValueError TX.exc TX.gD TX.kD (raises_own TX.ec.hs TX.tD) rfl))) pss_nil)
      (pss_cons ps_never (pss_one ps_never)), ?_⟩
    obtain ⟨dx, h1⟩ := S.ob
    obtain ⟨us, h2, hp⟩ := S.hT
    cases hp
    exact ⟨.ref p, rfl, p, C, dx, _, _, rfl, h1, T.cl, T.nT, stF_ties _ _ _ _, _, .inl ⟨_, SqL.of h2, rfl⟩, q _ (Same.refl H)⟩
theorem ok_l_is_refused {f C : Addr} {fd : FuncData} {D W C1 C2 C3 C4 C5 : Addr} (F : Fun K "_law_is_refused" "_law_is_refused" s_l_is_refused f fd) (M : Free mg) (TS : STx K C) (mve : mg "ValueError" = none) (T : RefT K mg "NoTie" D W) (t0 : KitT K mg D "NoTie" D true) (t1 : KitT K mg D "NoFrame" C1 false) (t2 : KitT K mg D "NoRow" C2 false) (t3 : KitT K mg D "NotFlat" C3 false) (t4 : KitT K mg D "NoText" C4 false) (t5 : KitT K mg D "TooMany" C5 false) (t6 : PySem.W.kitOne K (.ref D) (.type "ValueError") = some true)
    (D_back : DfMX P w K mg base 1 C "back" ["self"] (spSBackX C D)) : FnOk P w K mg base CX0 2 f fd ["_law_stand"] (spRefused C) := by
  obtain ⟨fB, fdB, GB, mB, bB⟩ := D_back
  refine F.ok sc_l_is_refused (fun vs H Q E h => ?_) (fun cdv A outer s H vs Q E hr h => ?_)
  · obtain ⟨p, Ti, Kk, Lo, n, rfl, _⟩ := h
    rfl
  · obtain ⟨p, Ti, Kk, Lo, n, rfl, S, q⟩ := h
    refine ⟨_, (pss_cons (ps_set (i := 1) sc_l_is_refused.nd rfl (.inl rfl) (pe_lst pa_nil))
      (pss_cons (ps_try_as (i := 2) (tb := fun W => tDrop (tMethX C "back" (spSBackX C D) (WE W) (tVar 0)))
          (ts := fun a cls d => tSeq (tAsg (tLst (tCons (tCB (rIsX K a cls d) (tCons (tVar 2) (tCons (tC (.ref D)) tNil))) (tCons (tCB (rIsX K a cls d) (tCons (tVar 2) (tCons (tC (.ty "ValueError")) tNil))) (tCons (tCB (rIsX K a cls d) (tCons (tVar 2) (tCons (tC (.ref C1)) tNil))) (tCons (tCB (rIsX K a cls d) (tCons (tVar 2) (tCons (tC (.ref C2)) tNil))) tNil))))) (gName 1))
            (tAsg (tOp rCat (tVar 1) (tLst (tCons (tCB (rIsX K a cls d) (tCons (tVar 2) (tCons (tC (.ref C3)) tNil))) (tCons (tCB (rIsX K a cls d) (tCons (tVar 2) (tCons (tC (.ref C4)) tNil))) (tCons (tCB (rIsX K a cls d) (tCons (tVar 2) (tCons (tC (.ref C5)) tNil))) tNil))))) (gName 1)))
          (Wout := fun _ _ _ _ => False) rfl rfl sc_l_is_refused.nd rfl rfl ⟨rfl, by decide, .inl T.gW⟩ takes0
          (fun W pn xe tk _ => pss_one (ps_expr (by exact (pe_methX0 (pv 0) TS.cl mB GB hr bB (fun σ => passAt tk σ)))))
          (fun a oe cls d pn hz hf => pss_cons (ps_set (i := 1) sc_l_is_refused.nd rfl (.inl rfl) (by exact (pe_lst (pa_cons (pe_callB (call_isX hz hf) (by rfl) M.isinstance (by decide +kernel) (pa_cons (pv 2) (pa_cons (pe_glob rfl t0.g rfl) pa_nil))) (pa_cons (pe_callB (call_isX hz hf) (by rfl) M.isinstance (by decide +kernel) (pa_cons (pv 2) (pa_cons (pe_bltn (v := .ty "ValueError") rfl mve (by decide +kernel) rfl) pa_nil))) (pa_cons (pe_callB (call_isX hz hf) (by rfl) M.isinstance (by decide +kernel) (pa_cons (pv 2) (pa_cons (pe_glob rfl t1.g rfl) pa_nil))) (pa_cons (pe_callB (call_isX hz hf) (by rfl) M.isinstance (by decide +kernel) (pa_cons (pv 2) (pa_cons (pe_glob rfl t2.g rfl) pa_nil))) pa_nil)))))))
            (pss_one (ps_set (i := 1) sc_l_is_refused.nd rfl (.inl rfl) (by exact (pe_op op_cat (pv 1) (pe_lst (pa_cons (pe_callB (call_isX hz hf) (by rfl) M.isinstance (by decide +kernel) (pa_cons (pv 2) (pa_cons (pe_glob rfl t3.g rfl) pa_nil))) (pa_cons (pe_callB (call_isX hz hf) (by rfl) M.isinstance (by decide +kernel) (pa_cons (pv 2) (pa_cons (pe_glob rfl t4.g rfl) pa_nil))) (pa_cons (pe_callB (call_isX hz hf) (by rfl) M.isinstance (by decide +kernel) (pa_cons (pv 2) (pa_cons (pe_glob rfl t5.g rfl) pa_nil))) pa_nil)))))))))
          )
      (pss_one (ps_ret (pe_cmpR (op_eqD hr.units) (pv 1) (pe_lst (pa_cons pe_bl (pa_cons pe_bl (pa_cons pe_bl (pa_cons pe_bl (pa_cons pe_bl (pa_cons pe_bl (pa_cons pe_bl pa_nil)))))))) (nomark _)))))), ?_⟩
    refine ⟨Nat.zero_le _, fun Z nZ => ?_⟩
    have sZ := same_new (o := .lst []) nZ
    obtain ⟨dx, h1⟩ := id S.ob
    refine ⟨.ref p, rfl, p, dx, _, rfl, sZ _ _ h1, stF_no _ _ _ _ (by decide +kernel) (by decide +kernel) (by decide +kernel) (by decide +kernel), p, Ti, Kk, Lo, n, rfl, S.same sZ, fun H1 s1 => ?_⟩
    have cv : ∀ C : Addr, ∀ u, RelV (.ref C) u → u = Value.ref C := fun C u h => h
    refine ⟨true, T.web, fun _ x nx' => ?_, fun z => Bool.noConfusion z⟩
    refine ⟨.ref x, rfl, D, T.ec, rfl, rfl, _, _, _, rfl, cv D, t0.k, .ref x, rfl, D, T.ec, rfl, rfl, _, _, _, rfl, fun u h => h, t6, .ref x, rfl, D, T.ec, rfl, rfl, _, _, _, rfl, cv C1, t1.k, .ref x, rfl, D, T.ec, rfl, rfl, _, _, _, rfl, cv C2, t2.k, by show 4 ≤ sizeLine; decide, fun O nO => ?_⟩
    refine ⟨.ref O, rfl, .ref x, rfl, D, T.ec, rfl, rfl, _, _, _, rfl, cv C3, t3.k, .ref x, rfl, D, T.ec, rfl, rfl, _, _, _, rfl, cv C4, t4.k, .ref x, rfl, D, T.ec, rfl, rfl, _, _, _, rfl, cv C5, t5.k, by show 3 ≤ sizeLine; decide, fun O2 nO2 => ?_⟩
    refine ⟨O, O2, _, _, rfl, rfl, same_new nO2 _ _ upd_same, upd_same, by show 7 ≤ sizeLine; decide, fun O3 nO3 => ?_⟩
    refine ⟨.ref O3, rfl, by show 7 ≤ sizeLine; decide, fun O4 nO4 => ?_⟩
    have s4 := same_new (o := .lst [V.bl true, .bl true, .bl false, .bl false, .bl false, .bl false, .bl false]) nO4
    have hd : ∀ {H' : Hp} {a : Addr}, H' a = some (.lst [V.bl true, .bl true, .bl false, .bl false, .bl false, .bl false, .bl false]) → Dp K H' (.ref a) (.list [.bool true, .bool true, .bool false, .bool false, .bool false, .bool false, .bool false]) := fun h => .lst (SqL.of h) (.cons (.bl _) (.cons (.bl _) (.cons (.bl _) (.cons (.bl _) (.cons (.bl _) (.cons (.bl _) (.cons (.bl _) .nil)))))))
    refine ⟨_, _, hd (s4 _ _ upd_same), hd upd_same, by decide +kernel, by decide +kernel, ?_⟩
    rw [SeqAt.eqv_refl _ (by decide +kernel)]
    exact q _ ((((sZ.trans s1).trans (same_new nO)).trans (same_new nO2)).trans ((same_new nO3).trans s4))
end
/-! ### the state -/
def spState (C : Addr) : Sp := fun vs H Q _ => ∃ (p T Kk Lo : Addr) (n : Nat) (ts : List Tie) (fl : List Bool) (k : Nat) (R : List Addr), vs = [.ref p, .int n, .int k] ∧ StA C H p T Kk Lo n ts fl ∧ SI n ts fl ∧ (∀ a ∈ R, H a ≠ none) ∧ ∀ v H', Same H H' → StateAt H' R v n ts fl k → Q v H'
theorem paired_mem {α β : Type} {F G : α → β → Prop} : ∀ {l : List α} {m : List β}, (∀ x ∈ l, ∀ y, F x y → G x y) → Paired F l m → Paired G l m
  | _, _, _, .nil => .nil
  | _, _, h, .cons r t => .cons (h _ (by simp) _ r) (paired_mem (fun x hx => h x (List.mem_cons_of_mem _ hx)) t)
section
variable {P : Program} {w : World} {K : PySem.W.Frag} {mg : Str → Option Value} {base : Heap}
theorem ok_l_state {f C : Addr} {fd : FuncData} (F : Fun K "_law_state" "_law_state" s_l_state f fd) (M : Free mg) (T : STx K C) (m_min : mg "min" = none) (D_between : DfM P w K mg base 2 C "between" ["self", "one", "other"] (spSBetween C)) (D_broken : DfM P w K mg base 1 C "broken" ["self"] (spSBroken C)) (D_sides : DfM P w K mg base 4 C "sides" ["self"] (spSSides C)) (D_web : DfM P w K mg base 1 C "web" ["self"] (spSWeb C)) : FnOk P w K mg base CX0 5 f fd ["_law_stand", "_law_many", "_law_k"] (spState C) := by
  obtain ⟨f_between, fd_between, G_between, m_between, b_between⟩ := D_between
  obtain ⟨f_broken, fd_broken, G_broken, m_broken, b_broken⟩ := D_broken
  obtain ⟨f_sides, fd_sides, G_sides, m_sides, b_sides⟩ := D_sides
  obtain ⟨f_web, fd_web, G_web, m_web, b_web⟩ := D_web
  refine F.ok sc_l_state (fun vs H Q E h => ?_) (fun cdv A outer s H vs Q E hr h => ?_)
  · obtain ⟨p, Ti, Kk, Lo, n, ts, fl, k, R, rfl, _⟩ := h
    rfl
  · obtain ⟨p, Ti, Kk, Lo, n, ts, fl, k, R, rfl, S, si, hR, q⟩ := h
    refine ⟨_, (Evl.pss_cut (ps_setLc (i := 3) (own := [("_law_j", 4)]) (g := (gName 4)) (tt := tYes) rfl sc_l_state.nd rfl rfl (sw_true rfl rfl rfl (by decide +kernel)) (pi_range1 (by rfl) M.range (pa_cons (pe_callB (call_min2 rfl) (by rfl) m_min (by decide +kernel) (pa_cons (pe_ix ix_list (pe_lst (pa_cons pe_int (pa_cons pe_int pa_nil))) (pe_callTy call_int1 (by rfl) M.int (by decide +kernel) (pa_cons (pe_cmpR op_gt (pv 1) pe_int (nomark _)) pa_nil)) (fun _ _ => rfl)) (pa_cons (pv 1) pa_nil))) pa_nil)) (blkOk_by (N := N_l_state) (sc := defScope s_l_state) (own := [("_law_j", 4)]) (by decide +kernel)) (fun _ _ _ _ _ => (pg_name (i := 4) sc_l_state.nd rfl (.inl rfl))) (fun _ _ _ _ _ => pts_nil) (fun _ _ _ _ _ => (pe_op op_mod (pe_op op_add (pv 2) (pe_op op_mul (pv 4) (pe_op op_add pe_int (pe_op op_mod (pv 2) pe_int)))) (pv 1))))
      (pss_cons (ps_set (i := 5) sc_l_state.nd rfl (.inl rfl) (pe_lst pa_nil))
      (Evl.pss_cut (ps_for PassesOwn.never rfl (pi_list (pv 3)) (pg_name (i := 6) sc_l_state.nd rfl (.inr rfl))
        (pss_one (ps_expr (pe_bm PySem.F.plainAttrs_list PySem.F.slot_list_append PySem.F.type_list_append mt_append (pv 5) (pa_cons (pe_lc (own := [("_law_other", 7)]) (g := (gName 7)) (tt := tYes) rfl sc_l_state.nd (pi_list (pv 3)) (blkOk_by (N := N_l_state) (sc := defScope s_l_state) (own := [("_law_other", 7)]) (by decide +kernel)) (fun _ _ _ _ _ => (pg_name (i := 7) sc_l_state.nd rfl (.inl rfl))) (fun _ _ _ _ _ => pts_nil) (fun _ _ _ _ _ => (pe_meth (pv 0) T.cl m_between G_between (hr.mono (by decide)) b_between .nil pass0 (pa_cons (pv 6) (pa_cons (pv 7) pa_nil))))) pa_nil)))))
      (pss_one (ps_ret (pe_tup (pa_cons (pe_meth0 (pv 0) T.cl m_web G_web (hr.mono (by decide)) b_web .nil pass0) (pa_cons (pe_meth0 (pv 0) T.cl m_sides G_sides (hr.mono (by decide)) b_sides .nil pass0) (pa_cons (pe_meth0 (pv 0) T.cl m_broken G_broken (hr.mono (by decide)) b_broken .nil pass0) (pa_cons (pv 5) pa_nil)))))))))), ?_⟩
    obtain ⟨dx, h1⟩ := id S.ob
    have n1 := si.n1
    have n40 := si.n40
    have cN : 0 ≤ cntL n ∧ cntL n ≤ 4 := by
      unfold cntL
      constructor <;> split <;> (try split) <;> omega
    have no : ∀ m : Str, ¬ m = "lost" → ¬ m = "kept" → ¬ m = "ties" → ¬ m = "many" → (stF n Ti Kk Lo).lookup m = none := fun m a b c d => stF_no _ _ _ _ a b c d
    have notR : ∀ {H' : Hp} {b : Addr}, Same H H' → H' b = none → b ∉ R := fun s' nb hb => hR _ hb (s'.free nb)
    refine ⟨fun σ' H' => ∃ (y4 : Option V) (L : Addr), σ' = [some (.ref p), some (.int n), some (.int k), some (.ref L), y4, none, none, none] ∧ H' L = some (.lst ((someL n k).map V.int)) ∧ Same H H', ?_, ?_⟩
    · refine ⟨by show 2 ≤ sizeLine; decide, fun p2 np2 => ⟨.int n, rfl, n, 20, rfl, rfl, .inr ⟨_, rfl, p2, _, _, _, rfl, rfl, SqL.of upd_same, pick2 _ _ _, ?_⟩⟩⟩
      have s2 := same_new (o := .lst [.int 4, .int 2]) np2
      have ec : (if decide ((20 : Int) < n) = true then V.int 2 else V.int 4) = V.int (if decide ((20 : Int) < n) = true then 2 else 4) := by split <;> rfl
      rw [ec]
      refine ⟨.int n, rfl, _, _, rfl, cntL n, rfl, by omega, by omega, fun Z nZ => ?_⟩
      refine lc_range (lo := 0) (n := (cntL n).toNat) (fun j H' => H' Z = some (.lst (((List.range j).map fun j : Nat => ((k : Int) + (j : Int) * (1 + (k : Int) % 3)) % (n : Int)).map V.int)) ∧ Same H H') ⟨upd_same, s2.trans (same_new nZ)⟩ ?_ ?_
      · rintro j H1 hj ⟨hZ, s1⟩
        rw [show (0 : Int) + (j : Nat) = j from by omega]
        refine ⟨rfl, .int k, rfl, .int j, rfl, .int k, rfl, k, 3, rfl, rfl, (show (0 : Int) < 3 by decide), 1, _, rfl, rfl, j, _, rfl, rfl, .inr ⟨by have := (mod_rng (a := (k : Int)) (m := 3) (by decide)); omega, by have := (mod_rng (a := (k : Int)) (m := 3) (by decide)); omega⟩, k, _, rfl, rfl, .int n, rfl, _, n, rfl, rfl, show (0 : Int) < n by omega, ?_⟩
        refine ⟨_, hZ, by rw [List.length_map, List.length_map, List.length_range]; exact small1000 (by omega), ?_, Same.mut s1 (s2.free nZ)⟩
        rw [upd_same, List.range_succ, List.map_append, List.map_append]
        rfl
      · rintro H1 ⟨hZ, s1⟩
        exact ⟨_, Z, rfl, hZ, s1⟩
    rintro σ' H1 ⟨y4, L, rfl, hL, s1⟩
    refine ⟨Nat.zero_le _, fun G nG => ?_⟩
    have sG := same_new (o := .lst []) nG
    have nG0 : H G = none := s1.free nG
    have gR : G ∉ R := notR s1 nG
    have hL2 := sG _ _ hL
    have s2 := s1.trans sG
    have hG := upd_same (H := H1) (a := G) (o := .lst [])
    have lG : L ≠ G := ne_of_none hL nG
    generalize upd H1 G (.lst []) = H2 at hL2 s2 hG
    refine ⟨fun σ' H' => ∃ (y6 y7 : Option V) (rows : List V), σ' = [some (.ref p), some (.int n), some (.int k), some (.ref L), y4, some (.ref G), y6, y7] ∧ H' G = some (.lst rows) ∧ Paired (RowV H' R (kt ts fl) (someL n k)) rows (someL n k) ∧ Same H H', ?_, ?_⟩
    · refine ⟨.ref L, rfl, L, rfl, ⟨_, SqL.of hL2⟩, ?_⟩
      refine for_list (xs := (someL n k).map V.int) (fun i σ' H' => ∃ (y6 y7 : Option V) (rows : List V), σ' = [some (.ref p), some (.int n), some (.int k), some (.ref L), y4, some (.ref G), y6, y7] ∧ H' L = some (.lst ((someL n k).map V.int)) ∧ H' G = some (.lst rows) ∧ (∀ r ∈ rows, r ≠ .ref G) ∧ Paired (RowV H' R (kt ts fl) (someL n k)) rows ((someL n k).take i) ∧ Same H H') ⟨none, none, [], rfl, hL2, hG, fun r hr => (by cases hr), .nil, s2⟩ (fun i σ' H' _ h => by
        obtain ⟨_, _, _, _, h, _⟩ := h
        exact SqL.of h) ?_ ?_
      · rintro i x σ' H3 ex ⟨y6, y7, rows, rfl, hL3, hG3, rg, hp, s3⟩
        rw [List.getElem?_map] at ex
        obtain ⟨a, ea, rfl⟩ := Option.map_eq_some_iff.mp ex
        have ain := someL_in n1 (List.mem_of_getElem? ea)
        have lr := Paired.length hp
        rw [List.length_take] at lr
        have l4 := someL_len n k
        refine ⟨.ref G, rfl, .inl ⟨rfl, _, SqL.of hG3⟩, .ref L, rfl, L, rfl, ⟨_, SqL.of hL3⟩, fun Z nZ => ?_⟩
        have zR : Z ∉ R := notR s3 nZ
        have zG : Z ≠ G := (ne_of_none hG3 nZ).symm
        refine lc_list (xs := (someL n k).map V.int) (fun j H' => H' Z = some (.lst (((someL n k).take j).map fun y => betV (bet (kt ts fl) a y))) ∧ Same H3 H') ⟨upd_same, same_new nZ⟩ (fun j H' _ h => SqL.of (h.2 _ _ hL3)) ?_ ?_
        · rintro j x H4 ex ⟨hZ, s4⟩
          rw [List.getElem?_map] at ex
          obtain ⟨b, eb, rfl⟩ := Option.map_eq_some_iff.mp ex
          have S4 := S.same (s3.trans s4)
          have fin : ∀ v H5, Same H4 H5 → v = betV (bet (kt ts fl) a b) → ∃ acc, H5 Z = some (.lst acc) ∧ acc.length < sizeLine ∧ ((upd H5 Z (.lst (acc ++ [v]))) Z = some (.lst (((someL n k).take (j + 1)).map fun y => betV (bet (kt ts fl) a y))) ∧ Same H3 (upd H5 Z (.lst (acc ++ [v])))) := fun v H5 s5 e => by
            refine ⟨_, s5 _ _ hZ, by rw [List.length_map, List.length_take]; exact small1000 (by omega), ?_, Same.mut (s4.trans s5) nZ⟩
            rw [upd_same, take_snoc eb, List.map_append, e]
            rfl
          refine ⟨rfl, .ref p, rfl, p, dx, _, rfl, (s3.trans s4) _ _ h1, no _ (by decide +kernel) (by decide +kernel) (by decide +kernel) (by decide +kernel), .int a, rfl, .int b, rfl, p, Ti, Kk, Lo, n, ts, fl, a, b, rfl, S4, si, ain, fun H5 nr s5 => fin _ H5 s5 (by rw [bet_none nr]; rfl), fun bb H5 r s5 => fin _ H5 s5 (by rw [bet_some si.calm ain r]; rfl)⟩
        · rintro H4 ⟨hZ, s4⟩
          rw [List.length_map, List.take_length] at hZ
          have hG4 := s4 _ _ hG3
          refine ⟨G, rows, _, rfl, rfl, hG4, small1000 (by omega), ?_⟩
          refine ⟨_, _, rows ++ [.ref Z], rfl, by rw [upd_ne lG]; exact s4 _ _ hL3, upd_same, fun r hr => ?_, ?_, Same.mut (s3.trans s4) nG0⟩
          · rcases List.mem_append.mp hr with z | z
            · exact rg r z
            · rw [List.mem_singleton.mp z]
              exact fun e => zG (V.ref.inj e)
          · rw [take_snoc ea]
            refine Paired.snoc ?_ ⟨Z, rfl, zR, by rw [upd_ne zG]; exact hZ⟩
            refine paired_mem (fun v hv c x => ?_) hp
            obtain ⟨b, e, n1, hb⟩ := x
            exact ⟨b, e, n1, by rw [upd_ne (fun z => rg v hv (by rw [e, z]))]; exact s4 _ _ hb⟩
      · rintro σ' H3 ⟨y6, y7, rows, rfl, hL3, hG3, rg, hp, s3⟩
        rw [List.length_map, List.take_length] at hp
        exact ⟨_, _, rows, rfl, hG3, hp, s3⟩
    rintro σ' H3 ⟨y6, y7, rows, rfl, hG3, hp, s3⟩
    have S3 := S.same s3
    refine ⟨.ref p, rfl, p, dx, _, rfl, s3 _ _ h1, no _ (by decide +kernel) (by decide +kernel) (by decide +kernel) (by decide +kernel), p, Ti, Kk, Lo, n, ts, fl, rfl, S3, fun wv H4 s4 hW => ?_⟩
    have S4 := S3.same s4
    refine ⟨.ref p, rfl, p, dx, _, rfl, (s3.trans s4) _ _ h1, no _ (by decide +kernel) (by decide +kernel) (by decide +kernel) (by decide +kernel), p, Ti, Kk, Lo, n, ts, fl, rfl, S4, si, fun ss sa H5 told cons s5 hs => ?_⟩
    have S5 := S4.same s5
    refine ⟨.ref p, rfl, p, dx, _, rfl, ((s3.trans s4).trans s5) _ _ h1, no _ (by decide +kernel) (by decide +kernel) (by decide +kernel) (by decide +kernel), p, Ti, Kk, Lo, n, ts, fl, rfl, S5, fun ba H6 s6 hb => ?_⟩
    refine ⟨.ref G, rfl, by show 4 ≤ sizeLine; decide, fun r nr => ?_⟩
    have s7 := same_new (o := .tup [wv, .ref sa, .ref ba, .ref G]) nr
    have s47 := ((s4.trans s5).trans s6).trans s7
    refine q _ _ (s3.trans s47) ⟨r, sa, ba, G, wv, ss, rows, rfl, upd_same, hW.tk (Same.tk ((s5.trans s6).trans s7)), told, cons, (s6.trans s7) _ _ hs, s7 _ _ hb, gR, s47 _ _ hG3, Paired.mono (fun v a x => ?_) hp⟩
    obtain ⟨b, e, n1, hb⟩ := x
    exact ⟨b, e, n1, s47 _ _ hb⟩
end
theorem sd_map (s : Int → Int) {n : Nat} {i : Int} (h0 : 0 ≤ i) (h1 : i < n) : sd ((rng n).map s) i = s i := by
  unfold sd rng
  rw [List.getD_eq_getElem?_getD, List.map_map, List.getElem?_map, List.getElem?_range (by omega)]
  show s ((i.toNat : Nat) : Int) = s i
  rw [show ((i.toNat : Nat) : Int) = i from by omega]
theorem GS.told {ts : List Tie} {n : Nat} {g s : Int → Int} {good : Bool} (ok : ∀ t ∈ ts, TieOk n t) (h : GS ts n g s good) : Told ts n ((rng n).map s) := by
  refine told_of (by rw [List.length_map, rng_length]) fun i x hx => ?_
  have hi : i < n := by
    have := (List.getElem?_eq_some_iff.mp hx).1
    rw [List.length_map, rng_length] at this
    exact this
  have e : x = s i := by
    unfold rng at hx
    rw [List.map_map, List.getElem?_map, List.getElem?_range hi] at hx
    exact (Option.some.inj hx).symm
  refine ⟨g i, bit (s i), h.lead ok (by omega) (by omega), h.rp i (by omega) (by omega), ?_⟩
  rw [e]
  rcases h.bn i (by omega) (by omega) with z | z <;> rw [z] <;> rfl
theorem GS.cons {ts : List Tie} {n : Nat} {g s : Int → Int} (ok : ∀ t ∈ ts, TieOk n t) (h : GS ts n g s true) : Cons ((rng n).map s) ts := fun t ht => by
  have okt := ok t ht
  have tl := h.told ok
  rw [brk_one tl.bin (by rw [tl.len]; exact okt)]
  have e1 : one? ((rng n).map s) t.one = bit (s t.one) := by unfold one? bit; rw [sd_map s okt.1 okt.2.1]
  have e2 : one? ((rng n).map s) t.other = bit (s t.other) := by unfold one? bit; rw [sd_map s okt.2.2.1 okt.2.2.2.1]
  rw [e1, e2, h.yes rfl t ht, Bool.xor_self]
/-! ### an empty stand; a tie taken back and come again -/
def spEmpty (C : Addr) : Sp := fun vs H Q _ => ∃ (p T Kk Lo : Addr) (n : Nat), vs = [.ref p, .int n] ∧ StA C H p T Kk Lo n [] [] ∧ 1 ≤ n ∧ n ≤ 40 ∧ ∀ H', Same H H' → Q (.bl true) H'
def zeros (n : Nat) : List Int := (rng n).map fun _ => 0
theorem rep_zeros (n : Nat) : (List.replicate n [V.int 0]).flatten = (zeros n).map V.int := by
  have : (zeros n).map V.int = List.replicate n (V.int 0) := by
    unfold zeros rng
    rw [List.map_map, List.map_map]
    exact (List.eq_replicate_iff.mpr ⟨by simp, fun x hx => by simp at hx; exact hx.2.symm⟩)
  rw [this]
  induction n with
  | zero => rfl
  | succ n ih =>
    have h2 : (zeros n).map V.int = List.replicate n (V.int 0) := by
      unfold zeros rng
      rw [List.map_map, List.map_map]
      exact (List.eq_replicate_iff.mpr ⟨by simp, fun x hx => by simp at hx; exact hx.2.symm⟩)
    rw [List.replicate_succ, List.flatten_cons, ih h2, List.replicate_succ]
    rfl
theorem told_zeros {n : Nat} {ss : List Int} (h : Told [] n ss) (c : Cons ss []) : ss = zeros n := told_unique (fun t ht => by cases ht) h ((GS.nil n).told fun t ht => by cases ht) c
def dueD (n : Nat) : PyData := .tuple [webD n [], intsD (zeros n), intsD []]
theorem lay_due (n : Nat) : (dueD n).canLay0 = true := by
  unfold dueD
  rw [PyData.canLay0, PyData.canLayAll0, PyData.canLayAll0, PyData.canLayAll0, PyData.canLayAll0, lay_web, lay_intsD, lay_intsD]
  rfl
theorem shaped_due (n : Nat) : SeqAt.shaped (dueD n) = true := by
  have d : (dueD n).depth ≤ 5 := by
    simp only [dueD, webD, PyData.depth, PyData.depthAll, deep_intsD, List.map_nil]
    omega
  unfold SeqAt.shaped
  rw [lay_due]
  simp
  omega
def spAgain (C : Addr) : Sp := fun vs H Q _ => ∃ (p T Kk Lo A : Addr) (n : Nat) (ts : List Tie) (fl : List Bool) (t : Tie) (f : Bool) (as : List V) (v : V) (R : List Addr), vs = [.ref p, .int n, .ref A] ∧ StA C H p T Kk Lo n (ts ++ [t]) (fl ++ [f]) ∧ SI n (ts ++ [t]) (fl ++ [f]) ∧ Rt (ts ++ [t]) (fl ++ [f]) ∧ H A = some (.lst as) ∧ (A ≠ T ∧ A ≠ Kk ∧ A ≠ Lo) ∧ as.length = ts.length + 1 ∧ as[ts.length]? = some v ∧ StateAt H R v n ts fl ts.length ∧ (∀ a ∈ [p, T, Kk, Lo], a ∈ R) ∧
  ∀ H', KS p T Kk Lo H H' → StA C H' p T Kk Lo n (ts ++ [t]) (fl ++ [f]) → Q (.bl true) H'
theorem in_knT {fl : List Bool} {m : Nat} {b : Bool} (h : fl[m]? = some b) : inV (.int (m : Nat)) ((knT fl false).map V.int) = !b := by
  have e1 : inV (.int (m : Nat)) ((knT fl false).map V.int) = true ↔ ((m : Nat) : Int) ∈ knT fl false := by
    unfold inV
    rw [List.any_map, List.any_eq_true]
    constructor
    · rintro ⟨x, hx, e⟩
      have e' : (x == ((m : Nat) : Int)) = true := e
      rw [beq_iff_eq] at e'
      rw [← e']
      exact hx
    · intro h
      exact ⟨_, h, by show (((m : Nat) : Int) == ((m : Nat) : Int)) = true; simp⟩
  rw [mem_knT, Int.toNat_natCast, h] at e1
  have hm := (List.getElem?_eq_some_iff.mp h).1
  cases b with
  | false => exact e1.mpr ⟨⟨by omega, by omega⟩, rfl⟩
  | true =>
    show _ = false
    rw [Bool.eq_false_iff]
    intro z
    have := (e1.mp z).2
    cases this
section
variable {P : Program} {w : World} {K : PySem.W.Frag} {mg : Str → Option Value} {base : Heap}
theorem ok_l_empty_right {f C : Addr} {fd : FuncData} (F : Fun K "_law_empty_right" "_law_empty_right" s_l_empty_right f fd) (M : Free mg) (T : STx K C) (D_l_is_refused : Df P w K mg base 2 "_law_is_refused" ["_law_stand"] (spRefused C)) (D_l_state : Df P w K mg base 5 "_law_state" ["_law_stand", "_law_many", "_law_k"] (spState C)) (D_broken : DfM P w K mg base 1 C "broken" ["self"] (spSBroken C)) (D_sides : DfM P w K mg base 4 C "sides" ["self"] (spSSides C)) (D_web : DfM P w K mg base 1 C "web" ["self"] (spSWeb C)) : FnOk P w K mg base CX0 6 f fd ["_law_stand", "_law_many"] (spEmpty C) := by
  obtain ⟨f_broken, fd_broken, G_broken, m_broken, b_broken⟩ := D_broken
  obtain ⟨f_sides, fd_sides, G_sides, m_sides, b_sides⟩ := D_sides
  obtain ⟨f_web, fd_web, G_web, m_web, b_web⟩ := D_web
  obtain ⟨f_l_is_refused, fd_l_is_refused, G_l_is_refused, g_l_is_refused, k_l_is_refused, b_l_is_refused⟩ := D_l_is_refused
  obtain ⟨f_l_state, fd_l_state, G_l_state, g_l_state, k_l_state, b_l_state⟩ := D_l_state
  refine F.ok sc_l_empty_right (fun vs H Q E h => ?_) (fun cdv A outer s H vs Q E hr h => ?_)
  · obtain ⟨p, Ti, Kk, Lo, n, rfl, _⟩ := h
    rfl
  · obtain ⟨p, Ti, Kk, Lo, n, rfl, S, n1, n40, q⟩ := h
    refine ⟨_, (pss_cons (ps_set (i := 2) sc_l_empty_right.nd rfl (.inl rfl) (pe_tup (pa_cons (pe_tup (pa_cons (pv 1) (pa_cons (pe_tup pa_nil) pa_nil))) (pa_cons (pe_op op_repU (pe_tup (pa_cons pe_int pa_nil)) (pv 1)) (pa_cons (pe_tup pa_nil) pa_nil)))))
      (pss_cons (ps_for PassesOwn.never rfl (pi_range1 (by rfl) M.range (pa_cons pe_int pa_nil)) (pg_name (i := 3) sc_l_empty_right.nd rfl (.inl rfl))
        (pss_one (ps_if (PW.pt (pw_or (pt_cmpR (op_neD hr.units) (pe_tup (pa_cons (pe_meth0 (pv 0) T.cl m_web G_web (hr.mono (by decide)) b_web .nil pass0) (pa_cons (pe_meth0 (pv 0) T.cl m_sides G_sides (hr.mono (by decide)) b_sides .nil pass0) (pa_cons (pe_meth0 (pv 0) T.cl m_broken G_broken (hr.mono (by decide)) b_broken .nil pass0) pa_nil)))) (pv 2) (nomark _)) (pw_or1 (pt_not (pt_val (pe_call G_l_is_refused (hr.mono (by decide)) (by rfl) g_l_is_refused k_l_is_refused b_l_is_refused .nil pass0 (pa_cons (pv 0) pa_nil)))))))
          (pss_one (ps_ret pe_bl))
          pss_nil)))
      (pss_one (ps_ret (pe_cmpR (op_eqD hr.units) (pe_slice sl_tupU (pe_call G_l_state (hr.mono (by decide)) (by rfl) g_l_state k_l_state b_l_state .nil pass0 (pa_cons (pv 0) (pa_cons (pv 1) (pa_cons pe_int pa_nil)))) po_none (po_some pe_int)) (pv 2) (nomark _)))))), ?_⟩
    obtain ⟨dx, h1⟩ := id S.ob
    have si : SI n [] [] := SI.nil n1 n40
    have no : ∀ m : Str, ¬ m = "lost" → ¬ m = "kept" → ¬ m = "ties" → ¬ m = "many" → (stF n Ti Kk Lo).lookup m = none := fun m a b c d => stF_no _ _ _ _ a b c d
    refine ⟨.int n, rfl, Nat.zero_le _, fun e1 ne1 => ⟨by show 2 ≤ sizeLine; decide, fun t1 nt1 => ⟨by show 1 ≤ sizeLine; decide, fun z nz => ?_⟩⟩⟩
    have g1 := same_new (o := .tup []) ne1
    have g2 := same_new (o := .tup [.int n, .ref e1]) nt1
    have g3 := same_new (o := .tup [.int 0]) nz
    refine ⟨.int n, rfl, z, n, _, rfl, rfl, upd_same, by simp, by omega, by omega, by decide, fun t2 H1 s1 ht2 => ?_⟩
    rw [Int.toNat_natCast, rep_zeros] at ht2
    refine ⟨Nat.zero_le _, fun e2 ne2 => ⟨by show 3 ≤ sizeLine; decide, fun D nD => ?_⟩⟩
    have g4 := same_new (o := .tup []) ne2
    have g5 := same_new (o := .tup [.ref t1, .ref t2, .ref e2]) nD
    have s0 := (((g1.trans g2).trans g3).trans s1).trans (g4.trans g5)
    have hD := upd_same (H := upd H1 e2 (.tup [])) (a := D) (o := .tup [.ref t1, .ref t2, .ref e2])
    have h_e2 := g5 _ _ (upd_same (H := H1) (a := e2) (o := .tup []))
    have h_t2 := g5 _ _ (g4 _ _ ht2)
    have h_t1 := g5 _ _ (g4 _ _ (s1 _ _ (g3 _ _ (upd_same (H := upd H e1 (.tup [])) (a := t1) (o := .tup [.int n, .ref e1])))))
    have h_e1 := g5 _ _ (g4 _ _ (s1 _ _ (g3 _ _ (g2 _ _ (upd_same (H := H) (a := e1) (o := .tup []))))))
    have dD : ∀ {H' : Hp}, Same (upd (upd H1 e2 (.tup [])) D (.tup [.ref t1, .ref t2, .ref e2])) H' → Dp K H' (.ref D) (dueD n) := fun s' => .tup (SqT.of (s' _ _ hD)) (.cons (.tup (SqT.of (s' _ _ h_t1)) (.cons (.int _) (.cons (.tup (SqT.of (s' _ _ h_e1)) .nil) .nil))) (.cons (.tup (SqT.of (s' _ _ h_t2)) (dp_ints _)) (.cons (.tup (SqT.of (s' _ _ h_e2)) .nil) .nil)))
    generalize upd (upd H1 e2 (.tup [])) D (.tup [.ref t1, .ref t2, .ref e2]) = H2 at s0 hD h_e2 h_t2 h_t1 h_e1 dD
    refine ⟨2, rfl, by omega, by omega, ?_⟩
    refine for_range (lo := 0) (n := 2) (fun i σ' H' => ∃ y3 : Option V, σ' = [some (.ref p), some (.int n), some (.ref D), y3] ∧ Same H2 H') ⟨none, rfl, Same.refl _⟩ ?_ ?_
    · rintro i σ' H3 hi ⟨y3, rfl, s3⟩
      have S3 := S.same (s0.trans s3)
      refine ⟨.ref p, rfl, p, dx, _, rfl, (s0.trans s3) _ _ h1, no _ (by decide +kernel) (by decide +kernel) (by decide +kernel) (by decide +kernel), p, Ti, Kk, Lo, n, [], [], rfl, S3, fun wv H4 s4 hW => ?_⟩
      have S4 := S3.same s4
      refine ⟨.ref p, rfl, p, dx, _, rfl, ((s0.trans s3).trans s4) _ _ h1, no _ (by decide +kernel) (by decide +kernel) (by decide +kernel) (by decide +kernel), p, Ti, Kk, Lo, n, [], [], rfl, S4, si, fun ss sa H5 told cons s5 hs => ?_⟩
      have S5 := S4.same s5
      refine ⟨.ref p, rfl, p, dx, _, rfl, (((s0.trans s3).trans s4).trans s5) _ _ h1, no _ (by decide +kernel) (by decide +kernel) (by decide +kernel) (by decide +kernel), p, Ti, Kk, Lo, n, [], [], rfl, S5, fun ba H6 s6 hb => ?_⟩
      refine ⟨by show 3 ≤ sizeLine; decide, fun r nr => ?_⟩
      have s7 := same_new (o := .tup [wv, .ref sa, .ref ba]) nr
      obtain rfl := told_zeros told cons
      have d1 : Dp K (upd H6 r (.tup [wv, .ref sa, .ref ba])) (.ref r) (dueD n) := .tup (SqT.of upd_same) (.cons (hW.tk (Same.tk ((s5.trans s6).trans s7))).dp (.cons (.tup (SqT.of (s7 _ _ (s6 _ _ hs))) (dp_ints _)) (.cons (.tup (SqT.of (s7 _ _ hb)) .nil) .nil)))
      have s27 := (((s3.trans s4).trans s5).trans s6).trans s7
      refine ⟨.ref D, rfl, dueD n, dueD n, d1, dD s27, shaped_due n, shaped_due n, _, rfl, ?_⟩
      rw [SeqAt.eqv_refl _ (lay_due n)]
      refine ⟨.ref p, rfl, p, Ti, Kk, Lo, n, rfl, S.same (s0.trans s27), fun H8 s8 => ⟨true, rfl, ?_⟩⟩
      exact ⟨_, rfl, s27.trans s8⟩
    · rintro σ' H3 ⟨y3, rfl, s3⟩
      refine ⟨.ref p, rfl, .int n, rfl, p, Ti, Kk, Lo, n, [], [], 0, [], rfl, S.same (s0.trans s3), si, fun a ha => (by cases ha), fun v H4 s4 st => ?_⟩
      obtain ⟨r, sa, ba, ra, wv, ss, rows, rfl, f1, f2, f3, f4, f5, f6, f7, f8, f9⟩ := st
      refine ⟨3, rfl, r, _, rfl, f1, fun r5 H5 s5 h5 => ?_⟩
      obtain rfl := told_zeros f3 f4
      have h5 : H5 r5 = some (.tup [wv, .ref sa, .ref ba]) := h5
      have d1 : Dp K H5 (.ref r5) (dueD n) := .tup (SqT.of h5) (.cons (f2.tk (Same.tk s5)).dp (.cons (.tup (SqT.of (s5 _ _ f5)) (dp_ints _)) (.cons (.tup (SqT.of (s5 _ _ f6)) .nil) .nil)))
      refine ⟨.ref D, rfl, dueD n, dueD n, d1, dD ((s3.trans s4).trans s5), shaped_due n, shaped_due n, ?_⟩
      rw [SeqAt.eqv_refl _ (lay_due n)]
      exact q _ (((s0.trans s3).trans s4).trans s5)
theorem ok_l_again_right {f C : Addr} {fd : FuncData} (F : Fun K "_law_again_right" "_law_again_right" s_l_again_right f fd) (M : Free mg) (T : STx K C) (D_l_state : Df P w K mg base 5 "_law_state" ["_law_stand", "_law_many", "_law_k"] (spState C)) (D_back : DfM P w K mg base 1 C "back" ["self"] (spSBack C)) (D_come : DfM P w K mg base 2 C "come" ["self", "one", "other", "kind"] (spSCome C)) : FnOk P w K mg base CX0 6 f fd ["_law_stand", "_law_many", "_law_ahead"] (spAgain C) := by
  obtain ⟨f_back, fd_back, G_back, m_back, b_back⟩ := D_back
  obtain ⟨f_come, fd_come, G_come, m_come, b_come⟩ := D_come
  obtain ⟨f_l_state, fd_l_state, G_l_state, g_l_state, k_l_state, b_l_state⟩ := D_l_state
  refine F.ok sc_l_again_right (fun vs H Q E h => ?_) (fun cdv A outer s H vs Q E hr h => ?_)
  · obtain ⟨p, Ti, Kk, Lo, A, n, ts, fl, t, f, as, v, R, rfl, _⟩ := h
    rfl
  · obtain ⟨p, Ti, Kk, Lo, Ah, n, ts, fl, t, f, as, v, R, rfl, S, si, rt, hA, nA, la, ea, st, inR, q⟩ := h
    refine ⟨_, (Evl.pss_cut (ps_set (i := 3) sc_l_again_right.nd rfl (.inl rfl) (pe_op op_sub (pe_callB call_len_seq (by rfl) M.len PySem.boot_len (pa_cons (pv 2) pa_nil)) pe_int))
      (pss_cons (ps_set (i := 4) sc_l_again_right.nd rfl (.inl rfl) (pe_call G_l_state (hr.mono (by decide)) (by rfl) g_l_state k_l_state b_l_state .nil pass0 (pa_cons (pv 0) (pa_cons (pv 1) (pa_cons (pv 3) pa_nil)))))
      (pss_cons (ps_set (i := 5) sc_l_again_right.nd rfl (.inl rfl) (pe_ix ix_tup (pe_ix ix_tup (pe_ix ix_tup (pv 4) pe_int (fun _ _ => rfl)) pe_int (fun _ _ => rfl)) (pv 3) (fun _ _ => rfl)))
      (pss_cons (ps_expr (pe_meth0 (pv 0) T.cl m_back G_back (hr.mono (by decide)) b_back .nil pass0))
      (pss_cons (ps_if (pt_cmpR (op_neD hr.units) (pe_call G_l_state (hr.mono (by decide)) (by rfl) g_l_state k_l_state b_l_state .nil pass0 (pa_cons (pv 0) (pa_cons (pv 1) (pa_cons (pv 3) pa_nil)))) (pe_ix ix_list (pv 2) (pv 3) (fun _ _ => rfl)) (nomark _))
        (pss_one (ps_ret pe_bl))
        pss_nil)
      (Evl.pss_cut (ps_set (i := 6) sc_l_again_right.nd rfl (.inl rfl) (pe_meth (pv 0) T.cl m_come G_come (hr.mono (by decide)) b_come .nil pass0 (pa_cons (pe_ix ix_tup (pv 5) pe_int (fun _ _ => rfl)) (pa_cons (pe_ix ix_tup (pv 5) pe_int (fun _ _ => rfl)) (pa_cons (pe_ix ix_tup (pv 5) pe_int (fun _ _ => rfl)) pa_nil)))))
      (pss_one (ps_ret (pe_and (pe_cmpR (op_eqD hr.units) (pe_call G_l_state (hr.mono (by decide)) (by rfl) g_l_state k_l_state b_l_state .nil pass0 (pa_cons (pv 0) (pa_cons (pv 1) (pa_cons (pv 3) pa_nil)))) (pv 4) (nomark _)) (pe_one (pe_cmpR op_eq (pe_cmpR op_isN (pv 6) pe_non (nomark _)) (pe_cmpR op_notIn_seq (pv 3) (pe_ix ix_tup (pv 4) pe_int (fun _ _ => rfl)) rfl) (nomark _)))))))))))), ?_⟩
    obtain ⟨dx, h1⟩ := id S.ob
    have no : ∀ m : Str, ¬ m = "lost" → ¬ m = "kept" → ¬ m = "ties" → ¬ m = "many" → (stF n Ti Kk Lo).lookup m = none := fun m a b c d => stF_no _ _ _ _ a b c d
    have len := si.len
    rw [List.length_append, List.length_append] at len
    have len : ts.length = fl.length := by simpa using len
    have si0 := si.less
    have okt := si.ok t (by simp)
    obtain ⟨rt0, rf⟩ := rt.inv rfl rfl
    have few := si.few
    rw [List.length_append] at few
    have few : ts.length + 1 ≤ 120 := few
    refine ⟨fun σ' H' => σ' = [some (.ref p), some (.int n), some (.ref Ah), some (.int (ts.length : Nat)), none, none, none] ∧ H' = H, ?_, ?_⟩
    · refine ⟨.ref Ah, rfl, Ah, as, rfl, .inl (SqL.of hA), _, 1, rfl, rfl, ?_⟩
      rw [la]
      have e : (((ts.length + 1 : Nat) : Int)) - 1 = ((ts.length : Nat) : Int) := by omega
      exact ⟨by show [some (V.ref p), some (.int n), some (.ref Ah), some (.int ((((ts.length + 1 : Nat) : Int)) - 1)), none, none, none] = _; rw [e], rfl⟩
    rintro σ' H' ⟨rfl, eH⟩
    subst eH
    -- as it is now
    refine ⟨.ref p, rfl, .int n, rfl, .int (ts.length : Nat), rfl, p, Ti, Kk, Lo, n, ts ++ [t], fl ++ [f], ts.length, [p, Ti, Kk, Lo], rfl, S, si, fun a ha => ?_, fun now H1 s1 st1 => ?_⟩
    · obtain ⟨us, h2, _⟩ := id S.hT
      simp only [List.mem_cons, List.not_mem_nil, or_false] at ha
      rcases ha with e | e | e | e <;> rw [e]
      · rw [h1]; simp
      · rw [h2]; simp
      · rw [S.hK]; simp
      · rw [S.hL]; simp
    have st1' := st1
    obtain ⟨r, sa, ba, ra, wv, ss, rows, rfl, f1, ⟨wa, wb, us, rfl, hwa, hwb, hp⟩, f3, f4, f5, f6, f7, f8, f9⟩ := st1
    have lu : us.length = ts.length + 1 := by rw [Paired.length hp, List.length_append]; rfl
    obtain ⟨t', et', c, ec, hc⟩ := Paired.at hp (List.getElem?_eq_getElem (show ts.length < us.length by omega))
    rw [List.getElem?_append_right (Nat.le_refl _), Nat.sub_self] at et'
    cases et'
    have eu : us[ts.length]? = some (.ref c) := by rw [List.getElem?_eq_getElem (show ts.length < us.length by omega), ec]
    refine ⟨.ref r, rfl, r, _, 0, .ref wa, rfl, rfl, SqT.of f1, rfl, wa, _, 1, .ref wb, rfl, rfl, SqT.of hwa, rfl, .int (ts.length : Nat), rfl, wb, us, (ts.length : Nat), .ref c, rfl, rfl, SqT.of hwb, atI_nat eu, ?_⟩
    -- taken back
    have S1 := S.same s1
    obtain ⟨dx1, h11⟩ := id S1.ob
    refine ⟨.ref p, rfl, p, dx1, _, rfl, h11, no _ (by decide +kernel) (by decide +kernel) (by decide +kernel) (by decide +kernel), p, Ti, Kk, Lo, n, ts, fl, t, f, rfl, S1, len, fun H2 k2 S2 => ?_⟩
    have tk2 := S1.tk k2
    have kr2 : KR [p, Ti, Kk, Lo] H1 H2 := k2.kr (by simp) (by simp) (by simp) (by simp)
    have st2 := (st.same s1).kr kr2 tk2 inR
    have now2 := st1'.kr kr2 tk2 (fun a ha => ha)
    have pA : Ah ≠ p := ne_of hA h1 (by intro z; cases z)
    have hA2 := k2 _ _ pA nA.1 nA.2.1 nA.2.2 (s1 _ _ hA)
    have hc2 := tk2 _ _ hc
    refine ⟨.ref p, rfl, .int n, rfl, .int (ts.length : Nat), rfl, p, Ti, Kk, Lo, n, ts, fl, ts.length, [], rfl, S2, si0, fun a ha => (by cases ha), fun v3 H3 s3 st3 => ?_⟩
    obtain ⟨d, d1, d2, d3, d4⟩ := StateAt.two (K := K) si0.okk st3 (st2.same s3)
    refine ⟨.ref Ah, rfl, .int (ts.length : Nat), rfl, Ah, as, (ts.length : Nat), v, rfl, rfl, SqL.of (s3 _ _ hA2), atI_nat ea, d, d, d1, d2, d3, d3, _, rfl, ?_⟩
    rw [SeqAt.eqv_refl _ d4]
    have S3 := S2.same s3
    obtain ⟨dx3, h13⟩ := id S3.ob
    have hc3 := s3 _ _ hc2
    -- come again
    refine ⟨fun σ' H' => ∃ (v6 : V), σ' = [some (.ref p), some (.int n), some (.ref Ah), some (.int (ts.length : Nat)), some (.ref r), some (.ref c), some v6] ∧ KS p Ti Kk Lo H3 H' ∧ StA C H' p Ti Kk Lo n (ts ++ [t]) (fl ++ [f]) ∧ decide (v6 = .non) = f, ?_, ?_⟩
    · refine ⟨.ref p, rfl, p, dx3, _, rfl, h13, no _ (by decide +kernel) (by decide +kernel) (by decide +kernel) (by decide +kernel), .ref c, rfl, c, _, 0, _, rfl, rfl, SqT.of hc3, rfl, .ref c, rfl, c, _, 1, _, rfl, rfl, SqT.of hc3, rfl, .ref c, rfl, c, _, 2, _, rfl, rfl, SqT.of hc3, rfl, p, Ti, Kk, Lo, n, ts, fl, t, rfl, S3, si0, okt, fun hk H4 k4 S4 => ?_, fun hk rr a b qs ms H4 k4 S4 hrr ha hb way par => ?_⟩
      · obtain rfl : f = true := rf.mpr hk
        exact ⟨_, rfl, k4, S4, rfl⟩
      · have : f = false := by
          cases f
          · rfl
          · exact absurd (rf.mp rfl) hk
        subst this
        exact ⟨_, rfl, k4, S4, decide_eq_false (fun z => by cases z)⟩
    rintro σ' H4 ⟨v6, rfl, k4, S4, e6⟩
    have tk4 := S3.tk k4
    have now4 := (now2.same s3).kr (k4.kr (R := [p, Ti, Kk, Lo]) (by simp) (by simp) (by simp) (by simp)) tk4 (fun a ha => ha)
    have f14 := tk4 _ _ (s3 _ _ (tk2 _ _ f1))
    have f64 := tk4 _ _ (s3 _ _ (tk2 _ _ f6))
    refine ⟨.ref p, rfl, .int n, rfl, .int (ts.length : Nat), rfl, p, Ti, Kk, Lo, n, ts ++ [t], fl ++ [f], ts.length, [], rfl, S4, si, fun a ha => (by cases ha), fun v5 H5 s5 st5 => ?_⟩
    obtain ⟨d, d1, d2, d3, d4⟩ := StateAt.two (K := K) si.okk st5 (now4.same s5)
    refine ⟨.ref r, rfl, d, d, d1, d2, d3, d3, _, rfl, ?_⟩
    rw [SeqAt.eqv_refl _ d4]
    have ef : (fl ++ [f])[ts.length]? = some f := by rw [len, List.getElem?_append_right (Nat.le_refl _)]; simp
    refine ⟨v6, rfl, rfl, .int (ts.length : Nat), rfl, .ref r, rfl, r, _, 2, .ref ba, rfl, rfl, SqT.of (s5 _ _ f14), rfl, ba, _, rfl, .inr (SqT.of (s5 _ _ f64)), rfl, flat_ints _, rfl, ?_⟩
    have ein : (if true = true then !inV (V.int (ts.length : Nat)) ((knT (fl ++ [f]) false).map V.int) else inV (V.int (ts.length : Nat)) ((knT (fl ++ [f]) false).map V.int)) = f := by
      rw [in_knT ef, if_pos rfl, Bool.not_not]
    have := q H5 ((((Same.ks s1).trans k2).trans (Same.ks s3)).trans (k4.trans (Same.ks s5))) (S4.same s5)
    rw [show (V.bl (if true = true then !inV (V.int (ts.length : Nat)) ((knT (fl ++ [f]) false).map V.int) else inV (V.int (ts.length : Nat)) ((knT (fl ++ [f]) false).map V.int))) = V.bl f from by rw [ein], e6, decide_eq_true rfl]
    exact this
end
/-! ### k30: the law -/
def spLawS (K : PySem.W.Frag) : Sp := fun vs H Q _ => ∃ (a : Addr) (ns : List Int), vs = [.ref a] ∧ SqL K H a (ns.map V.int) ∧ ns.length ≤ 63 ∧ ∀ H', Q (.bl true) H'
/-- the states ahead -/
structure Ah (H : Hp) (A : Addr) (R : List Addr) (n : Nat) (as : List V) (ts : List Tie) (fl : List Bool) : Prop where
  hA : H A = some (.lst as)
  st : ∀ (j : Nat) v, as[j]? = some v → j ≤ ts.length ∧ StateAt H R v n (ts.take j) (fl.take j) j
theorem Ah.kr {H H' : Hp} {A : Addr} {R R' : List Addr} {n : Nat} {as : List V} {ts : List Tie} {fl : List Bool} (h : Ah H A R n as ts fl) (k : KR R' H H') (tk : Tk H H') (hs : ∀ a ∈ R', a ∈ R) (hA : A ∉ R') : Ah H' A R n as ts fl :=
  ⟨k _ _ hA h.hA, fun j v e => ⟨(h.st j v e).1, (h.st j v e).2.kr k tk hs⟩⟩
theorem Ah.same {H H' : Hp} {A : Addr} {R : List Addr} {n : Nat} {as : List V} {ts : List Tie} {fl : List Bool} (h : Ah H A R n as ts fl) (s : Same H H') : Ah H' A R n as ts fl := h.kr (R' := []) (Same.kr s) (Same.tk s) (fun a ha => by cases ha) (by simp)
theorem Ah.push {H : Hp} {A : Addr} {R : List Addr} {n : Nat} {as : List V} {ts : List Tie} {fl : List Bool} {v : V} (h : Ah H A R n as ts fl) (la : as.length = ts.length) (hl : ts.length = fl.length) (hv : StateAt H R v n ts fl ts.length) (hA : A ∈ R) : Ah (upd H A (.lst (as ++ [v]))) A R n (as ++ [v]) ts fl := by
  have tk := tk_lst (ys := as ++ [v]) h.hA
  have kr : KR [A] H (upd H A (.lst (as ++ [v]))) := fun b o hb e => by rw [upd_ne (fun z => hb (by rw [z]; simp))]; exact e
  have hs : ∀ a ∈ [A], a ∈ R := fun a ha => by rw [List.mem_singleton.mp ha]; exact hA
  refine ⟨upd_same, fun j u e => ?_⟩
  by_cases hj : j < as.length
  · rw [List.getElem?_append_left hj] at e
    exact ⟨(h.st j u e).1, (h.st j u e).2.kr kr tk hs⟩
  · have hj2 : j = ts.length := by
      have := (List.getElem?_eq_some_iff.mp e).1
      rw [List.length_append] at this
      simp at this
      omega
    subst hj2
    rw [← la, List.getElem?_append_right (Nat.le_refl _), Nat.sub_self] at e
    cases e
    refine ⟨Nat.le_refl _, ?_⟩
    rw [List.take_length]
    conv => arg 6; rw [hl, List.take_length]
    exact hv.kr kr tk hs
theorem Ah.pop {H : Hp} {A : Addr} {R : List Addr} {n : Nat} {as : List V} {ts : List Tie} {fl : List Bool} {v : V} (h : Ah H A R n (as ++ [v]) ts fl) (hA : A ∈ R) : Ah (upd H A (.lst as)) A R n as ts fl := by
  have tk := tk_lst (ys := as) h.hA
  have kr : KR [A] H (upd H A (.lst as)) := fun b o hb e => by rw [upd_ne (fun z => hb (by rw [z]; simp))]; exact e
  refine ⟨upd_same, fun j u e => ?_⟩
  have hj := (List.getElem?_eq_some_iff.mp e).1
  have g := h.st j u (by rw [List.getElem?_append_left hj]; exact e)
  exact ⟨g.1, g.2.kr kr tk fun a ha => by rw [List.mem_singleton.mp ha]; exact hA⟩
theorem Ah.more {H : Hp} {A : Addr} {R : List Addr} {n : Nat} {as : List V} {ts : List Tie} {fl : List Bool} {t : Tie} {f : Bool} (h : Ah H A R n as ts fl) (hl : ts.length = fl.length) : Ah H A R n as (ts ++ [t]) (fl ++ [f]) := by
  refine ⟨h.hA, fun j v e => ?_⟩
  obtain ⟨h1, h2⟩ := h.st j v e
  rw [List.take_append_of_le_length h1, List.take_append_of_le_length (by omega), List.length_append]
  exact ⟨by omega, h2⟩
theorem Ah.less {H : Hp} {A : Addr} {R : List Addr} {n : Nat} {as : List V} {ts : List Tie} {fl : List Bool} {t : Tie} {f : Bool} (h : Ah H A R n as (ts ++ [t]) (fl ++ [f])) (hl : ts.length = fl.length) (la : as.length ≤ ts.length + 1) : Ah H A R n as ts fl := by
  refine ⟨h.hA, fun j v e => ?_⟩
  obtain ⟨h1, h2⟩ := h.st j v e
  have hj := (List.getElem?_eq_some_iff.mp e).1
  rw [List.take_append_of_le_length (by omega), List.take_append_of_le_length (by omega)] at h2
  exact ⟨by omega, h2⟩
/-- all of it -/
structure Pl (C : Addr) (H : Hp) (p T Kk Lo L A : Addr) (n : Nat) (as : List V) (ts : List Tie) (fl : List Bool) : Prop where
  S : StA C H p T Kk Lo n ts fl
  si : SI n ts fl
  rt : Rt ts fl
  ah : Ah H A [p, T, Kk, Lo, L, A] n as ts fl
  la : as.length = ts.length
structure Ap (T Kk Lo L A : Addr) : Prop where
  l1 : L ≠ T
  l2 : L ≠ Kk
  l3 : L ≠ Lo
  a1 : A ≠ T
  a2 : A ≠ Kk
  a3 : A ≠ Lo
  al : A ≠ L
theorem Pl.same {C : Addr} {H H' : Hp} {p T Kk Lo L A : Addr} {n : Nat} {as : List V} {ts : List Tie} {fl : List Bool} (h : Pl C H p T Kk Lo L A n as ts fl) (s : Same H H') : Pl C H' p T Kk Lo L A n as ts fl := ⟨h.S.same s, h.si, h.rt, h.ah.same s, h.la⟩
theorem Pl.pA {C : Addr} {H : Hp} {p T Kk Lo L A : Addr} {n : Nat} {as : List V} {ts : List Tie} {fl : List Bool} (h : Pl C H p T Kk Lo L A n as ts fl) : A ≠ p := by
  obtain ⟨dx, h1⟩ := h.S.ob
  exact ne_of h.ah.hA h1 (by intro z; cases z)
theorem Pl.out {C : Addr} {H : Hp} {p T Kk Lo L A : Addr} {n : Nat} {as : List V} {ts : List Tie} {fl : List Bool} (h : Pl C H p T Kk Lo L A n as ts fl) (ap : Ap T Kk Lo L A) : A ∉ [p, T, Kk, Lo] := by
  simp only [List.mem_cons, List.not_mem_nil, or_false, not_or]
  exact ⟨h.pA, ap.a1, ap.a2, ap.a3⟩
theorem sub4 {p T Kk Lo L A : Addr} : ∀ a ∈ [p, T, Kk, Lo], a ∈ [p, T, Kk, Lo, L, A] := fun a ha => by
  simp only [List.mem_cons, List.not_mem_nil, or_false] at ha ⊢
  rcases ha with e | e | e | e <;> simp [e]
theorem Pl.ks {C : Addr} {H H' : Hp} {p T Kk Lo L A : Addr} {n : Nat} {as : List V} {ts : List Tie} {fl : List Bool} (h : Pl C H p T Kk Lo L A n as ts fl) (ap : Ap T Kk Lo L A) (k : KS p T Kk Lo H H') (S' : StA C H' p T Kk Lo n ts fl) : Pl C H' p T Kk Lo L A n as ts fl :=
  ⟨S', h.si, h.rt, h.ah.kr (R' := [p, T, Kk, Lo]) (k.kr (by simp) (by simp) (by simp) (by simp)) (h.S.tk k) sub4 (h.out ap), h.la⟩
theorem Pl.put {C : Addr} {H : Hp} {p T Kk Lo L A : Addr} {n : Nat} {as xs ys : List V} {ts : List Tie} {fl : List Bool} (h : Pl C H p T Kk Lo L A n as ts fl) (ap : Ap T Kk Lo L A) (hL : H L = some (.lst xs)) : Pl C (upd H L (.lst ys)) p T Kk Lo L A n as ts fl :=
  ⟨h.S.put hL ap.l1 ap.l2 ap.l3, h.si, h.rt, h.ah.kr (R' := [L]) (fun b o hb e => by rw [upd_ne (fun z => hb (by rw [z]; simp))]; exact e) (tk_lst hL) (fun a ha => by rw [List.mem_singleton.mp ha]; simp) (by simp [ap.al]), h.la⟩
theorem Pl.kn {C : Addr} {H : Hp} {p T Kk Lo L A : Addr} {n : Nat} {as xs : List V} {ts : List Tie} {fl : List Bool} (h : Pl C H p T Kk Lo L A n as ts fl) (hL : H L = some (.lst xs)) : ∀ a ∈ [p, T, Kk, Lo, L, A], H a ≠ none := fun a ha => by
  obtain ⟨dx, h1⟩ := h.S.ob
  obtain ⟨us, h2, _⟩ := h.S.hT
  simp only [List.mem_cons, List.not_mem_nil, or_false] at ha
  rcases ha with e | e | e | e | e | e <;> rw [e]
  · rw [h1]; simp
  · rw [h2]; simp
  · rw [h.S.hK]; simp
  · rw [h.S.hL]; simp
  · rw [hL]; simp
  · rw [h.ah.hA]; simp
/-- a tie comes -/
theorem Pl.more {C : Addr} {H H3 : Hp} {p T Kk Lo L A : Addr} {n : Nat} {as : List V} {ts : List Tie} {fl : List Bool} {t : Tie} {f : Bool} {v : V} (h : Pl C H p T Kk Lo L A n as ts fl) (ap : Ap T Kk Lo L A) (sv : StateAt H [p, T, Kk, Lo, L, A] v n ts fl ts.length) (ok : TieOk n t) (few : ts.length ≤ 119) (k : KS p T Kk Lo (upd H A (.lst (as ++ [v]))) H3) (S3 : StA C H3 p T Kk Lo n (ts ++ [t]) (fl ++ [f])) (hf : f = true ↔ Kps (kt ts fl) t) : Pl C H3 p T Kk Lo L A n (as ++ [v]) (ts ++ [t]) (fl ++ [f]) := by
  have S2 : StA C (upd H A (.lst (as ++ [v]))) p T Kk Lo n ts fl := h.S.put h.ah.hA ap.a1 ap.a2 ap.a3
  have a2 := h.ah.push h.la h.si.len sv (by simp)
  refine ⟨S3, h.si.step ok few hf.mp, .snoc h.rt hf, (a2.kr (R' := [p, T, Kk, Lo]) (k.kr (by simp) (by simp) (by simp) (by simp)) (S2.tk k) sub4 (h.out ap)).more h.si.len, ?_⟩
  rw [List.length_append, List.length_append, h.la]
  rfl
/-- a tie taken back; A still has its state -/
theorem Pl.back {C : Addr} {H H1 : Hp} {p T Kk Lo L A : Addr} {n : Nat} {as : List V} {ts : List Tie} {fl : List Bool} {t : Tie} {f : Bool} (h : Pl C H p T Kk Lo L A n as (ts ++ [t]) (fl ++ [f])) (ap : Ap T Kk Lo L A) (k : KS p T Kk Lo H H1) : Ah H1 A [p, T, Kk, Lo, L, A] n as ts fl ∧ SI n ts fl ∧ Rt ts fl ∧ ts.length = fl.length ∧ ∃ as' v, as = as' ++ [v] ∧ as'.length = ts.length := by
  have len := h.si.len
  rw [List.length_append, List.length_append] at len
  have len : ts.length = fl.length := by simpa using len
  have la := h.la
  rw [List.length_append] at la
  have la : as.length = ts.length + 1 := la
  obtain ⟨as', v, rfl⟩ := unsnoc (l := as) (fun z => by rw [z] at la; simp at la)
  refine ⟨(h.ah.kr (R' := [p, T, Kk, Lo]) (k.kr (by simp) (by simp) (by simp) (by simp)) (h.S.tk k) sub4 (h.out ap)).less len (by omega), h.si.less, (h.rt.inv rfl rfl).1, len, as', v, rfl, ?_⟩
  rw [List.length_append] at la
  simp at la
  exact la
section
variable {P : Program} {w : World} {K : PySem.W.Frag} {mg : Str → Option Value} {base : Heap}
theorem ok_law {f C fI : Addr} {fd fdI : FuncData} (F : Fun K "law" "law" s_law f fd) (M : Free mg) (T : STx K C) (D_l_size : Df P w K mg base 2 "_law_size" ["_law_script"] (spSize K)) (D_l_deed : Df P w K mg base 2 "_law_deed" ["_law_script", "_law_k", "_law_many", "_law_ties", "_law_goes_round"] (spDeed K)) (D_l_state : Df P w K mg base 5 "_law_state" ["_law_stand", "_law_many", "_law_k"] (spState C)) (D_l_again_right : Df P w K mg base 6 "_law_again_right" ["_law_stand", "_law_many", "_law_ahead"] (spAgain C)) (D_l_empty_right : Df P w K mg base 6 "_law_empty_right" ["_law_stand", "_law_many"] (spEmpty C)) (mgC : mg "Stand" = some (.ref C)) (MK : Mk K C fI) (GI : FnOk P w K mg base CX0 1 fI fdI ["self", "many"] (spSInit C)) (bI : Binds K fdI ["self", "many"] []) (D_back : DfM P w K mg base 1 C "back" ["self"] (spSBack C)) (D_come : DfM P w K mg base 2 C "come" ["self", "one", "other", "kind"] (spSCome C)) : FnOk P w K mg base CX0 7 f fd ["_law_script"] (spLawS K) := by
  obtain ⟨f_back, fd_back, G_back, m_back, b_back⟩ := D_back
  obtain ⟨f_come, fd_come, G_come, m_come, b_come⟩ := D_come
  obtain ⟨f_l_size, fd_l_size, G_l_size, g_l_size, k_l_size, b_l_size⟩ := D_l_size
  obtain ⟨f_l_deed, fd_l_deed, G_l_deed, g_l_deed, k_l_deed, b_l_deed⟩ := D_l_deed
  obtain ⟨f_l_state, fd_l_state, G_l_state, g_l_state, k_l_state, b_l_state⟩ := D_l_state
  obtain ⟨f_l_again_right, fd_l_again_right, G_l_again_right, g_l_again_right, k_l_again_right, b_l_again_right⟩ := D_l_again_right
  obtain ⟨f_l_empty_right, fd_l_empty_right, G_l_empty_right, g_l_empty_right, k_l_empty_right, b_l_empty_right⟩ := D_l_empty_right
  refine F.ok sc_law (fun vs H Q E h => ?_) (fun cdv A outer s H vs Q E hr h => ?_)
  · obtain ⟨sc, ns, rfl, _⟩ := h
    rfl
  · obtain ⟨sc, ns, rfl, hS, few63, q⟩ := h
    refine ⟨_, (pss_cons (ps_asg (pe_call G_l_size (hr.mono (by decide)) (by rfl) g_l_size k_l_size b_l_size .nil pass0 (pa_cons (pv 0) pa_nil)) (pg_tup rfl (pgs_cons (pg_name (i := 1) sc_law.nd rfl (.inl rfl)) (pgs_cons (pg_name (i := 2) sc_law.nd rfl (.inl rfl)) (pgs_cons (pg_name (i := 3) sc_law.nd rfl (.inl rfl)) pgs_nil)))))
      (pss_cons (ps_set (i := 4) sc_law.nd rfl (.inl rfl) (pe_make MK GI (hr.mono (by decide)) (by rfl) mgC bI .nil pass0 (pa_cons (pv 1) pa_nil)))
      (pss_cons (ps_set (i := 5) sc_law.nd rfl (.inl rfl) (pe_lst pa_nil))
      (pss_cons (ps_set (i := 6) sc_law.nd rfl (.inl rfl) (pe_lst pa_nil))
      (Evl.pss_cut (ps_for PassesOwn.never rfl (pi_range1 (by rfl) M.range (pa_cons (pv 2) pa_nil)) (pg_name (i := 7) sc_law.nd rfl (.inl rfl))
        (Evl.pss_cut (ps_set (i := 8) sc_law.nd rfl (.inl rfl) (pe_call G_l_deed (hr.mono (by decide)) (by rfl) g_l_deed k_l_deed b_l_deed .nil pass0 (pa_cons (pv 0) (pa_cons (pv 7) (pa_cons (pv 1) (pa_cons (pv 6) (pa_cons (pv 3) pa_nil)))))))
        (pss_one (ps_if (pt_cmpR op_notN (pv 8) pe_non (nomark _))
          (pss_cons (ps_expr (pe_bm PySem.F.plainAttrs_list PySem.F.slot_list_append PySem.F.type_list_append mt_append (pv 5) (pa_cons (pe_call G_l_state (hr.mono (by decide)) (by rfl) g_l_state k_l_state b_l_state .nil pass0 (pa_cons (pv 4) (pa_cons (pv 1) (pa_cons (pe_callB call_len_seq (by rfl) M.len PySem.boot_len (pa_cons (pv 5) pa_nil)) pa_nil)))) pa_nil)))
          (Evl.pss_cut (ps_expr (pe_meth (pv 4) T.cl m_come G_come (hr.mono (by decide)) b_come .nil pass0 (pa_cons (pe_ix ix_tup (pv 8) pe_int (fun _ _ => rfl)) (pa_cons (pe_ix ix_tup (pv 8) pe_int (fun _ _ => rfl)) (pa_cons (pe_ix ix_tup (pv 8) pe_int (fun _ _ => rfl)) pa_nil)))))
          (pss_cons (ps_expr (pe_bm PySem.F.plainAttrs_list PySem.F.slot_list_append PySem.F.type_list_append mt_append (pv 6) (pa_cons (pv 8) pa_nil)))
          (pss_one (ps_if (PW.pt (pw_and (PW.pt (pw_or (pt_cmpR op_lt (pv 2) pe_int (nomark _)) (pw_or1 (pt_cmpR op_eq (pe_op op_mod (pv 7) pe_int) pe_int (nomark _))))) (pw_and1 (pt_not (pt_val (pe_call G_l_again_right (hr.mono (by decide)) (by rfl) g_l_again_right k_l_again_right b_l_again_right .nil pass0 (pa_cons (pv 4) (pa_cons (pv 1) (pa_cons (pv 5) pa_nil)))))))))
            (pss_one (ps_ret pe_bl))
            pss_nil)))))
          (pss_one (ps_if (pt_cmpR (op_eqE hr.units0) (pv 6) (pe_lst pa_nil) (nomark _))
            (pss_one (ps_if (pt_not (pt_val (pe_call G_l_empty_right (hr.mono (by decide)) (by rfl) g_l_empty_right k_l_empty_right b_l_empty_right .nil pass0 (pa_cons (pv 4) (pa_cons (pv 1) pa_nil)))))
              (pss_one (ps_ret pe_bl))
              pss_nil))
            (pss_cons (ps_expr (pe_meth0 (pv 4) T.cl m_back G_back (hr.mono (by decide)) b_back .nil pass0))
            (pss_cons (ps_expr (pe_bm0 PySem.F.plainAttrs_list PySem.F.slot_list_pop PySem.F.type_list_pop mt_pop (pv 6)))
            (pss_one (ps_if (pt_cmpR (op_neD hr.units) (pe_call G_l_state (hr.mono (by decide)) (by rfl) g_l_state k_l_state b_l_state .nil pass0 (pa_cons (pv 4) (pa_cons (pv 1) (pa_cons (pe_op op_sub (pe_callB call_len_seq (by rfl) M.len PySem.boot_len (pa_cons (pv 5) pa_nil)) pe_int) pa_nil)))) (pe_bm0 PySem.F.plainAttrs_list PySem.F.slot_list_pop PySem.F.type_list_pop mt_pop (pv 5)) (nomark _))
              (pss_one (ps_ret pe_bl))
              pss_nil))))))))))
      (pss_cons (ps_while PassesOwn.never (pt_cmpR (op_neE hr.units0) (pv 5) (pe_lst pa_nil) (nomark _))
        (pss_cons (ps_expr (pe_meth0 (pv 4) T.cl m_back G_back (hr.mono (by decide)) b_back .nil pass0))
        (pss_one (ps_if (pt_cmpR (op_neD hr.units) (pe_call G_l_state (hr.mono (by decide)) (by rfl) g_l_state k_l_state b_l_state .nil pass0 (pa_cons (pv 4) (pa_cons (pv 1) (pa_cons (pe_op op_sub (pe_callB call_len_seq (by rfl) M.len PySem.boot_len (pa_cons (pv 5) pa_nil)) pe_int) pa_nil)))) (pe_bm0 PySem.F.plainAttrs_list PySem.F.slot_list_pop PySem.F.type_list_pop mt_pop (pv 5)) (nomark _))
          (pss_one (ps_ret pe_bl))
          pss_nil))))
      (pss_one (ps_ret (pe_call G_l_empty_right (hr.mono (by decide)) (by rfl) g_l_empty_right k_l_empty_right b_l_empty_right .nil pass0 (pa_cons (pv 4) (pa_cons (pv 1) pa_nil))))))))))), ?_⟩
    have no : ∀ {n : Nat} {Ti Kk Lo : Addr} (m : Str), ¬ m = "lost" → ¬ m = "kept" → ¬ m = "ties" → ¬ m = "many" → (stF n Ti Kk Lo).lookup m = none := fun m a b c d => stF_no _ _ _ _ a b c d
    refine ⟨.ref sc, rfl, sc, ns, rfl, hS, fun r0 n de gb H0 s0 hr0 n1 n40 d0 d1 => ?_⟩
    refine ⟨r0, _, rfl, SqT.of hr0, rfl, _, _, rfl, _, _, rfl, _, _, rfl, rfl, ?_⟩
    have hS0 := s0.seq hS
    clear hr0 s0 hS
    refine ⟨.int n, rfl, fun p dx np ndx nex => ⟨p, dx, n, rfl, upd_same, fun Ti Kk Lo H1 nT nK nL S1 k1 => ⟨rfl, ?_⟩⟩⟩
    have e0 := (same_new (o := .own p) ndx).trans (same_new (p := p) (o := .ins C dx []) (by rw [upd_ne (Ne.symm nex)]; exact np))
    have nT0 := e0.free nT
    have nK0 := e0.free nK
    have nL0 := e0.free nL
    have s1 : Same H0 H1 := fun b o e => k1 b o (e0 _ _ e) (ne_of_none e np)
    clear e0 k1 nT nK nL ndx nex
    refine ⟨Nat.zero_le _, fun A nA => ⟨Nat.zero_le _, fun L nL => ?_⟩⟩
    have eA := same_new (o := .lst []) nA
    have eL := same_new (o := .lst []) nL
    have nA0 : H0 A = none := s1.free nA
    have nLL0 : H0 L = none := s1.free (eA.free nL)
    obtain ⟨us0, hT0, _⟩ := id S1.hT
    have ap : Ap Ti Kk Lo L A := by
      refine ⟨?_, ?_, ?_, ?_, ?_, ?_, ?_⟩
      · exact (ne_of_none (eA _ _ hT0) nL).symm
      · exact (ne_of_none (eA _ _ S1.hK) nL).symm
      · exact (ne_of_none (eA _ _ S1.hL) nL).symm
      · exact (ne_of_none hT0 nA).symm
      · exact (ne_of_none S1.hK nA).symm
      · exact (ne_of_none S1.hL nA).symm
      · exact ne_of_none (upd_same (H := H1) (a := A) (o := .lst [])) nL
    have hA0 := eL _ _ (upd_same (H := H1) (a := A) (o := .lst []))
    have hL0 := upd_same (H := upd H1 A (.lst [])) (a := L) (o := .lst [])
    have s2 := (s1.trans eA).trans eL
    have P2 : Pl C (upd (upd H1 A (.lst [])) L (.lst [])) p Ti Kk Lo L A n [] [] [] := ⟨S1.same (eA.trans eL), SI.nil n1 n40, .nil, ⟨hA0, fun j v e => by simp at e⟩, rfl⟩
    generalize upd (upd H1 A (.lst [])) L (.lst []) = H2 at hL0 s2 P2
    clear hA0 eA eL nA nL S1 s1 hT0
    refine ⟨fun σ' H' => ∃ (y7 y8 : Option V) (us as : List V) (ts : List Tie) (fl : List Bool), σ' = [some (.ref sc), some (.int n), some (.int de), some (.bl gb), some (.ref p), some (.ref A), some (.ref L), y7, y8] ∧ Pl C H' p Ti Kk Lo L A n as ts fl ∧ H' L = some (.lst us) ∧ Same H0 H', ?_, ?_⟩
    · refine ⟨.int de, rfl, de, rfl, by omega, by omega, ?_⟩
      refine for_range (lo := 0) (n := de.toNat) (fun i σ' H' => ∃ (y7 y8 : Option V) (us as : List V) (ts : List Tie) (fl : List Bool), σ' = [some (.ref sc), some (.int n), some (.int de), some (.bl gb), some (.ref p), some (.ref A), some (.ref L), y7, y8] ∧ Pl C H' p Ti Kk Lo L A n as ts fl ∧ H' L = some (.lst us) ∧ Paired (TieV H') us ts ∧ Same H0 H') ⟨none, none, [], [], [], [], rfl, P2, hL0, .nil, s2⟩ ?_ (fun σ' H' ⟨y7, y8, us, as, ts, fl, e, h1, h2, _, h4⟩ => ⟨y7, y8, us, as, ts, fl, e, h1, h2, h4⟩)
      clear P2 hL0 s2
      rintro i σ' H3 hi ⟨y7, y8, us, as, ts, fl, rfl, pl, hL, hp, s3⟩
      rw [show (0 : Int) + (i : Nat) = i from by omega]
      refine ⟨fun σ' H' => ∃ v8 : V, σ' = [some (.ref sc), some (.int n), some (.int de), some (.bl gb), some (.ref p), some (.ref A), some (.ref L), some (.int i), some v8] ∧ Same H3 H' ∧ (v8 = .non ∨ ∃ c t, v8 = .ref c ∧ H' c = some (.tup [.int t.one, .int t.other, .str (kindS t.foe)]) ∧ TieOk n t ∧ ts.length ≤ 119), ?_, ?_⟩
      · exact ⟨.ref sc, rfl, .int i, rfl, .int n, rfl, .ref L, rfl, .bl gb, rfl, sc, L, ns, i, n, us, ts, gb, rfl, s3.seq hS0, by omega, by omega, n1, n40, hL, hp, pl.si.ok, pl.si.few, fun H4 s4 => ⟨_, rfl, s4, .inl rfl⟩, fun c t H4 s4 hc ok few => ⟨_, rfl, s4, .inr ⟨c, t, rfl, hc, ok, few⟩⟩⟩
      rintro σ' H4 ⟨v8, rfl, s34, h8⟩
      have pl := pl.same s34
      have hL := s34 _ _ hL
      have hp := ties_tk (Same.tk s34) hp
      have s4 := s3.trans s34
      clear s3 s34
      refine ⟨v8, rfl, rfl, _, rfl, ?_⟩
      rcases h8 with rfl | ⟨c, t, rfl, hc, okt, few⟩
      · refine ⟨.ref L, rfl, Nat.zero_le _, fun Z nZ => ⟨L, Z, us, rfl, rfl, SqL.of (same_new nZ _ _ hL), SqL.of upd_same, _, rfl, ?_⟩⟩
        have eZ := same_new (o := .lst []) nZ
        have pl := pl.same eZ
        have hL := eZ _ _ hL
        have hp := ties_tk (Same.tk eZ) hp
        have s5 := s4.trans eZ
        generalize upd H4 Z (.lst []) = H5 at pl hL hp s5
        have lu : us.length = ts.length := Paired.length hp
        by_cases hu : us = []
        · subst hu
          obtain rfl : ts = [] := List.length_eq_zero_iff.mp lu.symm
          obtain rfl : fl = [] := List.length_eq_zero_iff.mp pl.si.len.symm
          refine ⟨.ref p, rfl, .int n, rfl, p, Ti, Kk, Lo, n, rfl, pl.S, n1, n40, fun H6 s6 => ⟨true, rfl, ?_⟩⟩
          exact ⟨_, _, [], as, [], [], rfl, pl.same s6, s6 _ _ hL, .nil, s5.trans s6⟩
        · rw [show us.isEmpty = false from by cases us; exact absurd rfl hu; rfl]
          obtain ⟨us0, u, rfl⟩ := unsnoc hu
          obtain ⟨ts0, t, rfl⟩ := unsnoc (l := ts) (fun z => hu (List.length_eq_zero_iff.mp (by rw [lu, z]; rfl)))
          have lf := pl.si.len
          obtain ⟨fl0, f, rfl⟩ := unsnoc (l := fl) (fun z => by rw [z] at lf; simp at lf)
          obtain ⟨us1, u1, eu, hp0, _⟩ := Paired.unsnoc hp
          obtain ⟨rfl, _⟩ := List.append_inj' eu rfl
          obtain ⟨dx5, ob5⟩ := id pl.S.ob
          have len0 : ts0.length = fl0.length := by simpa using lf
          refine ⟨.ref p, rfl, p, dx5, _, rfl, ob5, no _ (by decide +kernel) (by decide +kernel) (by decide +kernel) (by decide +kernel), p, Ti, Kk, Lo, n, ts0, fl0, t, f, rfl, pl.S, len0, fun H6 k6 S6 => ?_⟩
          obtain ⟨ah, si0, rt0, _, as0, v, rfl, la0⟩ := pl.back ap k6
          have pL : L ≠ p := ne_of hL ob5 (by intro z; cases z)
          have hL6 := k6 _ _ pL ap.l1 ap.l2 ap.l3 hL
          refine ⟨.ref L, rfl, .inl ⟨rfl, _, SqL.of hL6⟩, L, _, u, rfl, rfl, hL6, by simp, ?_⟩
          rw [List.dropLast_concat]
          have tk7 := tk_lst (ys := us0) hL6
          have S7 := S6.put (ys := us0) hL6 ap.l1 ap.l2 ap.l3
          have ah7 := ah.kr (R' := [L]) (H' := upd H6 L (.lst us0)) (fun b o hb e => by rw [upd_ne (fun z => hb (by rw [z]; simp))]; exact e) tk7 (fun a ha => by rw [List.mem_singleton.mp ha]; simp) (by simp [ap.al])
          have hL7 : (upd H6 L (.lst us0)) L = some (.lst us0) := upd_same
          have hp7 := ties_tk tk7 (ties_tk (pl.S.tk k6) hp0)
          have s7 : Same H0 (upd H6 L (.lst us0)) := Same.mut (k6.keep s5 np nT0 nK0 nL0) nLL0
          generalize upd H6 L (.lst us0) = H7 at S7 ah7 hL7 hp7 s7
          have st := ah7.st ts0.length v (by rw [← la0, List.getElem?_append_right (Nat.le_refl _)]; simp)
          have ek : ((((as0 ++ [v]).length : Nat) : Int)) - 1 = ((ts0.length : Nat) : Int) := by rw [List.length_append, la0]; show ((ts0.length + 1 : Nat) : Int) - 1 = _; omega
          refine ⟨.ref p, rfl, .int n, rfl, .ref A, rfl, A, _, rfl, .inl (SqL.of ah7.hA), _, 1, rfl, rfl, p, Ti, Kk, Lo, n, ts0, fl0, ts0.length, [A], by show [V.ref p, V.int n, V.int ((((as0 ++ [v]).length : Nat) : Int) - 1)] = _; rw [ek], S7, si0, fun a ha => (by rw [List.mem_singleton.mp ha, ah7.hA]; simp), fun v8 H8 s8 st8 => ?_⟩
          have ah8 := ah7.same s8
          refine ⟨.ref A, rfl, .inl ⟨rfl, _, SqL.of ah8.hA⟩, A, _, v, rfl, rfl, ah8.hA, by simp, ?_⟩
          rw [List.dropLast_concat]
          have ah9 := ah8.pop (by simp)
          have krA : KR [A] H8 (upd H8 A (.lst as0)) := fun b o hb e => by rw [upd_ne (fun z => hb (by rw [z]; simp))]; exact e
          have tk9 := tk_lst (ys := as0) ah8.hA
          have st9 := (st.2.same s8).kr krA tk9 (fun a ha => by rw [List.mem_singleton.mp ha]; simp)
          rw [List.take_length] at st9
          conv at st9 => arg 6; rw [len0, List.take_length]
          obtain ⟨d, d1, d2, d3, d4⟩ := StateAt.two (K := K) si0.okk (st8.kr krA tk9 (fun a ha => ha)) st9
          refine ⟨d, d, d1, d2, d3, d3, _, rfl, ?_⟩
          rw [SeqAt.eqv_refl _ d4]
          have S9 := (S7.same s8).put (ys := as0) ah8.hA ap.a1 ap.a2 ap.a3
          exact ⟨_, _, us0, as0, ts0, fl0, rfl, ⟨S9, si0, rt0, ah9, la0⟩, by rw [upd_ne (Ne.symm ap.al)]; exact s8 _ _ hL7, ties_tk tk9 (ties_tk (Same.tk s8) hp7), Same.mut (s7.trans s8) nA0⟩
      · have hA := pl.ah.hA
        have la := pl.la
        refine ⟨.ref A, rfl, .inl ⟨rfl, _, SqL.of hA⟩, .ref p, rfl, .int n, rfl, .ref A, rfl, A, as, rfl, .inl (SqL.of hA), p, Ti, Kk, Lo, n, ts, fl, ts.length, [p, Ti, Kk, Lo, L, A], by show [V.ref p, V.int n, V.int (as.length : Nat)] = _; rw [la], pl.S, pl.si, pl.kn hL, fun v H5 s5 st5 => ?_⟩
        have pl := pl.same s5
        have hL := s5 _ _ hL
        have hp := ties_tk (Same.tk s5) hp
        have hc := s5 _ _ hc
        refine ⟨A, as, v, rfl, rfl, pl.ah.hA, small1000 (by omega), ?_⟩
        have s5 := s4.trans s5
        have S5 := pl.S.put (ys := as ++ [v]) pl.ah.hA ap.a1 ap.a2 ap.a3
        have tk5 := tk_lst (ys := as ++ [v]) pl.ah.hA
        obtain ⟨dx5, ob5⟩ := id S5.ob
        refine ⟨fun σ' H' => ∃ f : Bool, σ' = [some (.ref sc), some (.int n), some (.int de), some (.bl gb), some (.ref p), some (.ref A), some (.ref L), some (.int i), some (.ref c)] ∧ KS p Ti Kk Lo (upd H5 A (.lst (as ++ [v]))) H' ∧ StA C H' p Ti Kk Lo n (ts ++ [t]) (fl ++ [f]) ∧ (f = true ↔ Kps (kt ts fl) t), ?_, ?_⟩
        · refine ⟨.ref p, rfl, p, dx5, _, rfl, ob5, no _ (by decide +kernel) (by decide +kernel) (by decide +kernel) (by decide +kernel), .ref c, rfl, c, _, 0, _, rfl, rfl, SqT.of (tk5 _ _ hc), rfl, .ref c, rfl, c, _, 1, _, rfl, rfl, SqT.of (tk5 _ _ hc), rfl, .ref c, rfl, c, _, 2, _, rfl, rfl, SqT.of (tk5 _ _ hc), rfl, p, Ti, Kk, Lo, n, ts, fl, t, rfl, S5, pl.si, okt, fun hk H6 k6 S6 => ⟨true, rfl, k6, S6, by simp [hk]⟩, fun hk rr a b qs ms H6 k6 S6 hrr ha hb way par => ⟨false, rfl, k6, S6, by simp [hk]⟩⟩
        rintro σ' H6 ⟨f, rfl, k6, S6, hf⟩
        have pl6 := pl.more ap st5 okt few k6 S6 hf
        have tk6 := S5.tk k6
        have pL : L ≠ p := ne_of hL (pl.S.ob.choose_spec) (by intro z; cases z)
        have hL6 := k6 _ _ pL ap.l1 ap.l2 ap.l3 (by rw [upd_ne (Ne.symm ap.al)]; exact hL)
        have hp6 := ties_tk tk6 (ties_tk tk5 hp)
        have hc6 := tk6 _ _ (tk5 _ _ hc)
        have s6 := k6.keep (Same.mut s5 nA0) np nT0 nK0 nL0
        have lu : us.length = ts.length := Paired.length hp
        refine ⟨.ref L, rfl, .inl ⟨rfl, _, SqL.of hL6⟩, .ref c, rfl, L, us, .ref c, rfl, rfl, hL6, small1000 (by omega), ?_⟩
        have tk7 := tk_lst (ys := us ++ [.ref c]) hL6
        have pl7 := pl6.put (ys := us ++ [.ref c]) ap hL6
        have hp7 : Paired (TieV (upd H6 L (.lst (us ++ [.ref c])))) (us ++ [.ref c]) (ts ++ [t]) := Paired.snoc (ties_tk tk7 hp6) ⟨c, rfl, tk7 _ _ hc6⟩
        have hL7 : (upd H6 L (.lst (us ++ [.ref c]))) L = some (.lst (us ++ [.ref c])) := upd_same
        have s7 := Same.mut (o := .lst (us ++ [.ref c])) s6 nLL0
        generalize upd H6 L (.lst (us ++ [.ref c])) = H7 at pl7 hp7 hL7 s7 tk7
        have ea : (as ++ [v])[ts.length]? = some v := by rw [← la, List.getElem?_append_right (Nat.le_refl _)]; simp
        have st7 := (pl7.ah.st ts.length v ea).2
        rw [List.take_append_of_le_length (Nat.le_refl _), List.take_length, List.take_append_of_le_length (by have := pl.si.len; omega)] at st7
        conv at st7 => arg 6; rw [pl.si.len, List.take_length]
        have fin : ∀ H8, KS p Ti Kk Lo H7 H8 → StA C H8 p Ti Kk Lo n (ts ++ [t]) (fl ++ [f]) → ∃ (y7 y8 : Option V) (us as : List V) (ts : List Tie) (fl : List Bool), [some (.ref sc), some (.int n), some (.int de), some (.bl gb), some (.ref p), some (.ref A), some (.ref L), some (.int i), some (.ref c)] = [some (.ref sc), some (.int n), some (.int de), some (.bl gb), some (.ref p), some (.ref A), some (.ref L), y7, y8] ∧ Pl C H8 p Ti Kk Lo L A n as ts fl ∧ H8 L = some (.lst us) ∧ Paired (TieV H8) us ts ∧ Same H0 H8 := fun H8 k8 S8 => ⟨_, _, us ++ [.ref c], as ++ [v], ts ++ [t], fl ++ [f], rfl, pl7.ks ap k8 S8, k8 _ _ pL ap.l1 ap.l2 ap.l3 hL7, ties_tk (pl7.S.tk k8) hp7, k8.keep s7 np nT0 nK0 nL0⟩
        refine ⟨.int de, rfl, de, 26, rfl, rfl, _, rfl, ?_⟩
        refine ite2 (fun _ => ?_) (fun _ => ⟨.int i, rfl, i, 8, rfl, rfl, (show (0 : Int) < 8 by decide), rfl, _, rfl, ?_⟩)
        · exact ⟨.ref p, rfl, .int n, rfl, .ref A, rfl, p, Ti, Kk, Lo, A, n, ts, fl, t, f, as ++ [v], v, [p, Ti, Kk, Lo, L, A], rfl, pl7.S, pl7.si, pl7.rt, pl7.ah.hA, ⟨ap.a1, ap.a2, ap.a3⟩, by rw [List.length_append, pl.la]; rfl, ea, st7, sub4, fun H8 k8 S8 => ⟨true, rfl, fin H8 k8 S8⟩⟩
        · refine ite2 (fun _ => ?_) (fun _ => fin H7 (Same.ks (Same.refl H7)) pl7.S)
          exact ⟨.ref p, rfl, .int n, rfl, .ref A, rfl, p, Ti, Kk, Lo, A, n, ts, fl, t, f, as ++ [v], v, [p, Ti, Kk, Lo, L, A], rfl, pl7.S, pl7.si, pl7.rt, pl7.ah.hA, ⟨ap.a1, ap.a2, ap.a3⟩, by rw [List.length_append, pl.la]; rfl, ea, st7, sub4, fun H8 k8 S8 => ⟨true, rfl, fin H8 k8 S8⟩⟩
    clear P2 hL0 s2
    rintro σ' H3 ⟨y7, y8, us, as, ts, fl, rfl, pl, hL, s3⟩
    refine ⟨fun m σ' H' => ∃ (as : List V) (ts : List Tie) (fl : List Bool), σ' = [some (.ref sc), some (.int n), some (.int de), some (.bl gb), some (.ref p), some (.ref A), some (.ref L), y7, y8] ∧ Pl C H' p Ti Kk Lo L A n as ts fl ∧ Same H0 H' ∧ m = as.length, ⟨_, as, ts, fl, rfl, pl, s3, rfl⟩, ?_⟩
    clear pl hL s3
    rintro m σ' H4 ⟨as, ts, fl, rfl, pl, s4, hm⟩
    refine ⟨.ref A, rfl, Nat.zero_le _, fun Z nZ => ⟨A, Z, as, rfl, rfl, SqL.of (same_new nZ _ _ pl.ah.hA), SqL.of upd_same, _, rfl, ?_⟩⟩
    have eZ := same_new (o := .lst []) nZ
    have pl := pl.same eZ
    have s5 := s4.trans eZ
    generalize upd H4 Z (.lst []) = H5 at pl s5
    by_cases hu : as = []
    · subst hu
      obtain rfl : ts = [] := List.length_eq_zero_iff.mp pl.la.symm
      obtain rfl : fl = [] := List.length_eq_zero_iff.mp pl.si.len.symm
      exact ⟨.ref p, rfl, .int n, rfl, p, Ti, Kk, Lo, n, rfl, pl.S, n1, n40, fun H6 s6 => q _⟩
    · rw [show (!as.isEmpty) = true from by cases as; exact absurd rfl hu; rfl]
      refine ⟨fun σ' H' => ∃ m', m' < m ∧ ∃ (as : List V) (ts : List Tie) (fl : List Bool), σ' = [some (.ref sc), some (.int n), some (.int de), some (.bl gb), some (.ref p), some (.ref A), some (.ref L), y7, y8] ∧ Pl C H' p Ti Kk Lo L A n as ts fl ∧ Same H0 H' ∧ m' = as.length, fun _ _ h => h, ?_⟩
      have la := pl.la
      obtain ⟨ts0, t, rfl⟩ := unsnoc (l := ts) (fun z => hu (List.length_eq_zero_iff.mp (by rw [la, z]; rfl)))
      have lf := pl.si.len
      obtain ⟨fl0, f, rfl⟩ := unsnoc (l := fl) (fun z => by rw [z] at lf; simp at lf)
      obtain ⟨dx5, ob5⟩ := id pl.S.ob
      have len0 : ts0.length = fl0.length := by simpa using lf
      refine ⟨.ref p, rfl, p, dx5, _, rfl, ob5, no _ (by decide +kernel) (by decide +kernel) (by decide +kernel) (by decide +kernel), p, Ti, Kk, Lo, n, ts0, fl0, t, f, rfl, pl.S, len0, fun H6 k6 S7 => ?_⟩
      obtain ⟨ah7, si0, rt0, _, as0, v, rfl, la0⟩ := pl.back ap k6
      have s7 : Same H0 H6 := k6.keep s5 np nT0 nK0 nL0
      have st := ah7.st ts0.length v (by rw [← la0, List.getElem?_append_right (Nat.le_refl _)]; simp)
      have ek : ((((as0 ++ [v]).length : Nat) : Int)) - 1 = ((ts0.length : Nat) : Int) := by rw [List.length_append, la0]; show ((ts0.length + 1 : Nat) : Int) - 1 = _; omega
      refine ⟨.ref p, rfl, .int n, rfl, .ref A, rfl, A, _, rfl, .inl (SqL.of ah7.hA), _, 1, rfl, rfl, p, Ti, Kk, Lo, n, ts0, fl0, ts0.length, [A], by show [V.ref p, V.int n, V.int ((((as0 ++ [v]).length : Nat) : Int) - 1)] = _; rw [ek], S7, si0, fun a ha => (by rw [List.mem_singleton.mp ha, ah7.hA]; simp), fun v8 H8 s8 st8 => ?_⟩
      have ah8 := ah7.same s8
      refine ⟨.ref A, rfl, .inl ⟨rfl, _, SqL.of ah8.hA⟩, A, _, v, rfl, rfl, ah8.hA, by simp, ?_⟩
      rw [List.dropLast_concat]
      have ah9 := ah8.pop (by simp)
      have krA : KR [A] H8 (upd H8 A (.lst as0)) := fun b o hb e => by rw [upd_ne (fun z => hb (by rw [z]; simp))]; exact e
      have tk9 := tk_lst (ys := as0) ah8.hA
      have st9 := (st.2.same s8).kr krA tk9 (fun a ha => by rw [List.mem_singleton.mp ha]; simp)
      rw [List.take_length] at st9
      conv at st9 => arg 6; rw [len0, List.take_length]
      obtain ⟨d, d1, d2, d3, d4⟩ := StateAt.two (K := K) si0.okk (st8.kr krA tk9 (fun a ha => ha)) st9
      refine ⟨d, d, d1, d2, d3, d3, _, rfl, ?_⟩
      rw [SeqAt.eqv_refl _ d4]
      have S9 := (S7.same s8).put (ys := as0) ah8.hA ap.a1 ap.a2 ap.a3
      exact ⟨as0.length, by rw [hm, List.length_append]; simp, as0, ts0, fl0, rfl, ⟨S9, si0, rt0, ah9, la0⟩, Same.mut (s7.trans s8) nA0, rfl⟩
end
/-! ### the end of a law whose defs hold generator expressions: their tables are empty behind the top -/
theorem walk_tabs {l : PySem.W.OpenLaw} {n k : Nat} {q : Program} {loose : List Str} {XP : (Str → Option Value) → Heap → Prop} {YP : World → Heap → Prop} {d : DefRec} {K : Params → PySem.W.Frag} {x : Str}
    (hn : l.most = some n) (hn2 : n ≤ sizeLine) (hdf : d.params.defaults = []) (hr : Room k callerA) (hY : ∀ (w : World) (h : Heap), YP w h → (K w.params).In h)
    (F : ∀ (w : World) (mg : Str → Option Value) (fa : Addr) (h : Heap), (K w.params).In h → h.Ns mainGlobals mg → mg d.name = some (.ref fa) →
      (∀ (y : Str) (fy : Addr), ((recsOf q).any fun e => e.name == y) = true → mg y = some (.ref fy) → LamX.OwnTab (K w.params) fy h) → LamX.LawAtS l w (K w.params) CX0 k n x mg fa h) :
    PySem.W.WalkO q loose XP YP l.row.toRowW d [] (fun f vs => PySem.call f vs) := by
  refine Att.attach_callB hn hdf fun w s₀ s₁ mg mb fa o pm cd doc a vs ns G Y ho hd hcd hmg hobj hints hlen hbits hg => ?_
  have KX := hY w _ Y
  have tabs : ∀ (y : Str) (fy : Addr), ((recsOf q).any fun e => e.name == y) = true → mg y = some (.ref fy) → LamX.OwnTab (K w.params) fy s₁.heap := fun y fy hy hm c P o1 fd1 e dd vs1 sl k1 k2 k3 k4 k5 => by
    obtain ⟨dL, hmem, hnm⟩ := List.any_eq_true.mp hy
    have hnm : dL.name = y := beq_iff_eq.mp hnm
    obtain ⟨a', o', fd', c', P', h1, h2, h3, h4, h5, h6⟩ := G.T.tab dL hmem
    rw [hnm, hm] at h1
    cases h1
    rw [KX _ _ k1] at h2
    cases h2
    rw [k2] at h3
    cases h3
    rw [k3] at h4
    cases h4
    obtain ⟨⟨oc, vc, e1, _, e3, e4⟩, hP⟩ := h6
    rw [KX _ _ k4] at e1
    cases e1
    cases e3
    rw [k5] at e4
    cases e4
    exact hP
  obtain ⟨fd, cs, sp, hT, nT, C, hb, hsp, hF⟩ := F w mg fa _ KX G.T.g hmg tabs
  exact LamX.law_callTs KX G.T.g G.T.b G.T.builtins G.T.nolimit hg hT nT C G.T.bmain hobj hints (Nat.le_trans hlen hn2) hr hF hb (fun H hH hS => hsp H a ns hlen hbits hH hS) fun H e s' z => z
/-- where a def stands, and where its code object does -/
structure At (K : PySem.W.Frag) (x : Str) (st : Stmt) (f : Addr) : Prop where
  ns : PySem.W.nsIn K mainGlobals x = some (some (.ref f))
  ex : ∃ (oc : Value) (od : Option Addr) (kV doc pm : Value) (an : Option Addr) (cdv ct : Value) (osl : Array (Option Value)),
    K.lookup f = some ⟨oc, od, .func (PySem.W.fnOf x x (defArgs st) (defBody st) (defScope st) .none kV doc pm an cdv ct), osl⟩ ∧ PySem.W.codeIn K cdv x = true
  kp : PySem.W.keepIn K (.ref f) = true
theorem at_mk {K : PySem.W.Frag} {x : Str} {st : Stmt} {f : Addr} {oc : Value} {od an : Option Addr} {osl : Array (Option Value)} {kV doc pm cdv ct : Value} (a : PySem.W.nsIn K mainGlobals x = some (some (.ref f)))
    (l : K.lookup f = some ⟨oc, od, .func (PySem.W.fnOf x x (defArgs st) (defBody st) (defScope st) .none kV doc pm an cdv ct), osl⟩) (c : PySem.W.codeIn K cdv x = true) (k : PySem.W.keepIn K (.ref f) = true) : At K x st f := ⟨a, ⟨oc, od, kV, doc, pm, an, cdv, ct, osl, l, c⟩, k⟩
theorem At.fn {K : PySem.W.Frag} {x : Str} {st : Stmt} {f : Addr} (h : At K x st f) : ∃ fd, Fun K x x st f fd := by
  obtain ⟨oc, od, kV, doc, pm, an, cdv, ct, osl, l, c⟩ := h.ex
  exact ⟨_, fun_mk l c h.kp⟩
section
variable {P : Program} {w : World} {K : PySem.W.Frag} {mg : Str → Option Value} {base : Heap}
theorem Df.of {x : Str} {st : Stmt} {f : Addr} {fd : FuncData} {k : Nat} {ps : List Str} {sp : Sp} (g : mg x = some (.ref f)) (F : Fun K x x st f fd) (G : FnOk P w K mg base CX0 k f fd ps sp)
    (h : ∀ (kV doc pm : Value) (an : Option Addr) (cdv ct : Value) (us : List Value), us.length = ps.length → bindArgs (PySem.W.fnOf x x (defArgs st) (defBody st) (defScope st) .none kV doc pm an cdv ct) ⟨us, []⟩ = pure (ps.zip us)) : Df P w K mg base k x ps sp :=
  ⟨f, fd, G, g, F.kp, F.binds h⟩
end
/-! ### a class at the top: its methods, itself -/
structure AtM (K : PySem.W.Frag) (C : Addr) (m q : Str) (st : Stmt) (f : Addr) : Prop where
  me : Meth K C m f
  ex : ∃ (oc : Value) (od : Option Addr) (kV doc pm : Value) (an : Option Addr) (cdv ct : Value) (osl : Array (Option Value)),
    K.lookup f = some ⟨oc, od, .func (PySem.W.fnOf m q (defArgs st) (defBody st) (defScope st) .none kV doc pm an cdv ct), osl⟩ ∧ PySem.W.codeIn K cdv q = true
theorem atM_mk {K : PySem.W.Frag} {C : Addr} {m q : Str} {st : Stmt} {f : Addr} {oc : Value} {od an : Option Addr} {osl : Array (Option Value)} {kV doc pm cdv ct : Value} (a : PySem.W.findIn K (.ref C) m = some (some (.ref f))) (i : PySem.W.isFn K (.ref f) = true)
    (l : K.lookup f = some ⟨oc, od, .func (PySem.W.fnOf m q (defArgs st) (defBody st) (defScope st) .none kV doc pm an cdv ct), osl⟩) (c : PySem.W.codeIn K cdv q = true) (k : PySem.W.keepIn K (.ref f) = true) : AtM K C m q st f := ⟨⟨a, i, k⟩, ⟨oc, od, kV, doc, pm, an, cdv, ct, osl, l, c⟩⟩
theorem AtM.fn {K : PySem.W.Frag} {C : Addr} {m q : Str} {st : Stmt} {f : Addr} (h : AtM K C m q st f) : ∃ fd, Fun K m q st f fd := by
  obtain ⟨oc, od, kV, doc, pm, an, cdv, ct, osl, l, c⟩ := h.ex
  exact ⟨_, fun_mk l c h.me.kp⟩
structure AtCl (K : PySem.W.Frag) (x : Str) (C : Addr) : Prop where
  ns : PySem.W.nsIn K mainGlobals x = some (some (.ref C))
  cl : Cls K C
  mks : PySem.W.makesIn K C = true
  kc : PySem.W.keepIn K (.ref C) = true
theorem atCl_mk {K : PySem.W.Frag} {x : Str} {C : Addr} (a : PySem.W.nsIn K mainGlobals x = some (some (.ref C))) (pg : PySem.W.plainGet K C Str.empty = true) (hd : PySem.W.hasDictIn K C = true) (po : PySem.W.plainOver K C = true) (sa : PySem.W.findIn K (.ref C) "__setattr__" = some (some (.builtin "object.__setattr__"))) (mk : PySem.W.makesIn K C = true) (kc : PySem.W.keepIn K (.ref C) = true) : AtCl K x C := ⟨a, ⟨pg, hd, po, sa⟩, mk, kc⟩
/-! ### what the top has written -/
section
variable {P : Program} {w : World} {K : PySem.W.Frag} {mg : Str → Option Value} {base : Heap}
theorem law_at {l : PySem.W.OpenLaw} {w : World} {K : PySem.W.Frag} {h : Heap} {mg : Str → Option Value} {fa f0 f1 f2 f3 f4 f5 f6 f7 f8 f9 f10 f11 f12 f13 f14 f15 f16 f17  eW e_NoTie e_NoFrame e_NoRow e_NotFlat e_NoText e_TooMany C0 m0_0 m0_1 m0_2 m0_3 m0_4 m0_5 m0_6 m0_7 : Addr} (X : K.In h) (G : h.Ns mainGlobals mg) (hfa : mg "law" = some (.ref fa))
    
    (a0 : At K "neighbours" s_neighbours f0)
    (a1 : At K "sides_from" s_sides_from f1)
    (a2 : At K "foes_in" s_foes_in f2)
    (a3 : At K "breaks" s_breaks f3)
    (a4 : At K "broken_by" s_broken_by f4)
    (a5 : At K "sides_of" s_sides_of f5)
    (a6 : At K "ties_around" s_ties_around f6)
    (a7 : At K "walk_from" s_walk_from f7)
    (a8 : At K "way_to" s_way_to f8)
    (a9 : At K "_law_cell_at" s_l_cell_at f9)
    (a10 : At K "_law_draw" s_l_draw f10)
    (a11 : At K "_law_size" s_l_size f11)
    (a12 : At K "_law_deed" s_l_deed f12)
    (a13 : At K "_law_state" s_l_state f13)
    (a14 : At K "_law_is_refused" s_l_is_refused f14)
    (a15 : At K "_law_empty_right" s_l_empty_right f15)
    (a16 : At K "_law_again_right" s_l_again_right f16)
    (a17 : At K "law" s_law f17)
    (z0 : PySem.W.nsIn K mainGlobals "len" = some none)
    (z1 : PySem.W.nsIn K mainGlobals "int" = some none)
    (z2 : PySem.W.nsIn K mainGlobals "bool" = some none)
    (z3 : PySem.W.nsIn K mainGlobals "str" = some none)
    (z4 : PySem.W.nsIn K mainGlobals "list" = some none)
    (z5 : PySem.W.nsIn K mainGlobals "tuple" = some none)
    (z6 : PySem.W.nsIn K mainGlobals "range" = some none)
    (z7 : PySem.W.nsIn K mainGlobals "isinstance" = some none)
    (z8 : PySem.W.nsIn K mainGlobals "sum" = some none)
    (z9 : PySem.W.nsIn K mainGlobals "abs" = some none)
    (z10 : PySem.W.nsIn K mainGlobals "enumerate" = some none)
    (z11 : PySem.W.nsIn K mainGlobals "min" = some none)
    (z12 : PySem.W.nsIn K mainGlobals "ValueError" = some none)
    (e0 : ErrK K "NoTie" e_NoTie eW)
    (k0_0 : KitK K e_NoTie "NoTie" e_NoTie true)
    (k0_1 : KitK K e_NoTie "NoFrame" e_NoFrame false)
    (k0_2 : KitK K e_NoTie "NoRow" e_NoRow false)
    (k0_3 : KitK K e_NoTie "NotFlat" e_NotFlat false)
    (k0_4 : KitK K e_NoTie "NoText" e_NoText false)
    (k0_5 : KitK K e_NoTie "TooMany" e_TooMany false)
    (v0 : PySem.W.kitOne K (.ref e_NoTie) (.type "ValueError") = some true)
    (cl0 : AtCl K "Stand" C0)
    (na0_many : PySem.W.findIn K (.ref C0) "many" = some none)
    (na0_ties : PySem.W.findIn K (.ref C0) "ties" = some none)
    (na0_kept : PySem.W.findIn K (.ref C0) "kept" = some none)
    (na0_lost : PySem.W.findIn K (.ref C0) "lost" = some none)
    (am0_0 : AtM K C0 "__init__" "Stand.__init__" s_Stand_init m0_0)
    (am0_1 : AtM K C0 "web" "Stand.web" s_Stand_web m0_1)
    (am0_2 : AtM K C0 "broken" "Stand.broken" s_Stand_broken m0_2)
    (am0_3 : AtM K C0 "back" "Stand.back" s_Stand_back m0_3)
    (am0_4 : AtM K C0 "come" "Stand.come" s_Stand_come m0_4)
    (am0_5 : AtM K C0 "kept_web" "Stand.kept_web" s_Stand_kept_web m0_5)
    (am0_6 : AtM K C0 "sides" "Stand.sides" s_Stand_sides m0_6)
    (am0_7 : AtM K C0 "between" "Stand.between" s_Stand_between m0_7) :
    LamX.LawAtS l w K CX0 7 63 "_law_script" mg fa h := by
  have efa := hfa.symm.trans (PySem.W.mg_of X G a17.ns)
  cases efa
  have M : Free mg := ⟨PySem.W.mg_none_of X G z0, PySem.W.mg_none_of X G z1, PySem.W.mg_none_of X G z2, PySem.W.mg_none_of X G z3, PySem.W.mg_none_of X G z4, PySem.W.mg_none_of X G z5, PySem.W.mg_none_of X G z6, PySem.W.mg_none_of X G z7, PySem.W.mg_none_of X G z8⟩
  have m_abs := PySem.W.mg_none_of X G z9
  have m_enumerate := PySem.W.mg_none_of X G z10
  have m_min := PySem.W.mg_none_of X G z11
  have m_ValueError := PySem.W.mg_none_of X G z12
  obtain ⟨d0, F0⟩ := a0.fn
  obtain ⟨d1, F1⟩ := a1.fn
  obtain ⟨d2, F2⟩ := a2.fn
  obtain ⟨d3, F3⟩ := a3.fn
  obtain ⟨d4, F4⟩ := a4.fn
  obtain ⟨d5, F5⟩ := a5.fn
  obtain ⟨d6, F6⟩ := a6.fn
  obtain ⟨d7, F7⟩ := a7.fn
  obtain ⟨d8, F8⟩ := a8.fn
  obtain ⟨d9, F9⟩ := a9.fn
  obtain ⟨d10, F10⟩ := a10.fn
  obtain ⟨d11, F11⟩ := a11.fn
  obtain ⟨d12, F12⟩ := a12.fn
  obtain ⟨d13, F13⟩ := a13.fn
  obtain ⟨d14, F14⟩ := a14.fn
  obtain ⟨d15, F15⟩ := a15.fn
  obtain ⟨d16, F16⟩ := a16.fn
  obtain ⟨d17, F17⟩ := a17.fn
  have g0 := PySem.W.mg_of X G a0.ns
  have g1 := PySem.W.mg_of X G a1.ns
  have g2 := PySem.W.mg_of X G a2.ns
  have g3 := PySem.W.mg_of X G a3.ns
  have g4 := PySem.W.mg_of X G a4.ns
  have g5 := PySem.W.mg_of X G a5.ns
  have g6 := PySem.W.mg_of X G a6.ns
  have g7 := PySem.W.mg_of X G a7.ns
  have g8 := PySem.W.mg_of X G a8.ns
  have g9 := PySem.W.mg_of X G a9.ns
  have g10 := PySem.W.mg_of X G a10.ns
  have g11 := PySem.W.mg_of X G a11.ns
  have g12 := PySem.W.mg_of X G a12.ns
  have g13 := PySem.W.mg_of X G a13.ns
  have g14 := PySem.W.mg_of X G a14.ns
  have g15 := PySem.W.mg_of X G a15.ns
  have g16 := PySem.W.mg_of X G a16.ns
  have hb0 : ∀ (s : Shared) (u : Value), BindsTo s d17 ⟨[u], []⟩ [("_law_script", u)] := by
    obtain ⟨oc, od, kV, doc, pm, an, cdv, ct, osl, rfl, _⟩ := F17.ex
    exact fun s u => .of_eq rfl
  refine ⟨d17, [], (spLawS K), (fun p hp => by simp at hp), (fun p hp => by simp at hp), (fun p hp => by simp at hp), hb0, fun H a ns hl _ hT hS => ⟨a, ns, rfl, hS, hl, fun _ => rfl⟩, fun base KB GB TB => ?_⟩
  have TC0 : STx K C0 := ⟨cl0.cl, na0_many, na0_ties, na0_kept, na0_lost⟩
  obtain ⟨dm0_0, Fm0_0⟩ := am0_0.fn
  obtain ⟨dm0_1, Fm0_1⟩ := am0_1.fn
  obtain ⟨dm0_2, Fm0_2⟩ := am0_2.fn
  obtain ⟨dm0_3, Fm0_3⟩ := am0_3.fn
  obtain ⟨dm0_4, Fm0_4⟩ := am0_4.fn
  obtain ⟨dm0_5, Fm0_5⟩ := am0_5.fn
  obtain ⟨dm0_6, Fm0_6⟩ := am0_6.fn
  obtain ⟨dm0_7, Fm0_7⟩ := am0_7.fn
  have D0 : Df l.prog w K mg base 1 "neighbours" ["web"] spNeighbours := .of g0 F0 (ok_neighbours F0 M) fun _ _ _ _ _ _ us hl => match us, hl with | [_], _ => rfl
  have D1 : Df l.prog w K mg base 1 "sides_from" ["start", "around"] spSidesFrom := .of g1 F1 (ok_sides_from F1 M) fun _ _ _ _ _ _ us hl => match us, hl with | [_, _], _ => rfl
  have D2 : Df l.prog w K mg base 1 "foes_in" ["web", "ring"] spFoesIn := .of g2 F2 (ok_foes_in F2 M) fun _ _ _ _ _ _ us hl => match us, hl with | [_, _], _ => rfl
  have D3 : Df l.prog w K mg base 1 "breaks" ["sides", "tie"] spBreaks := .of g3 F3 (ok_breaks F3 ) fun _ _ _ _ _ _ us hl => match us, hl with | [_, _], _ => rfl
  have D4 : Df l.prog w K mg base 2 "broken_by" ["web", "sides"] spBroken := .of g4 F4 (ok_broken_by F4 M m_enumerate D3) fun _ _ _ _ _ _ us hl => match us, hl with | [_, _], _ => rfl
  have D5 : Df l.prog w K mg base 3 "sides_of" ["web"] spFixed := .of g5 F5 (ok_sides_of F5 M D0 D1 D4) fun _ _ _ _ _ _ us hl => match us, hl with | [_], _ => rfl
  have D6 : Df l.prog w K mg base 1 "ties_around" ["web", "numbers"] spAround := .of g6 F6 (ok_ties_around F6) fun _ _ _ _ _ _ us hl => match us, hl with | [_, _], _ => rfl
  have D7 : Df l.prog w K mg base 1 "walk_from" ["start", "around"] spWalkFrom := .of g7 F7 (ok_walk_from F7 ) fun _ _ _ _ _ _ us hl => match us, hl with | [_, _], _ => rfl
  have D8 : Df l.prog w K mg base 1 "way_to" ["end", "walk"] spWayTo := .of g8 F8 (ok_way_to F8 M) fun _ _ _ _ _ _ us hl => match us, hl with | [_, _], _ => rfl
  have Gi0 : FnOk l.prog w K mg base CX0 1 m0_0 dm0_0 ["self", "many"] (spSInit C0) := ok_S_init Fm0_0 TC0
  have bi0 : Binds K dm0_0 ["self", "many"] [] := Fm0_0.binds (ps := ["self", "many"]) fun _ _ _ _ _ _ us hl => match us, hl with | [_, _], _ => rfl
  have E_web : DfM l.prog w K mg base 1 C0 "web" ["self"] (spSWeb C0) := ⟨m0_1, dm0_1, ok_S_web Fm0_1 TC0 M, am0_1.me, Fm0_1.binds (ps := ["self"]) fun _ _ _ _ _ _ us hl => match us, hl with | [_], _ => rfl⟩
  have E_broken : DfM l.prog w K mg base 1 C0 "broken" ["self"] (spSBroken C0) := ⟨m0_2, dm0_2, ok_S_broken Fm0_2 TC0 M, am0_2.me, Fm0_2.binds (ps := ["self"]) fun _ _ _ _ _ _ us hl => match us, hl with | [_], _ => rfl⟩
  have EX_back : DfMX l.prog w K mg base 1 C0 "back" ["self"] (spSBackX C0 e_NoTie) := ⟨m0_3, dm0_3, ok_S_backX Fm0_3 TC0 (e0.ref X G), am0_3.me, Fm0_3.binds (ps := ["self"]) fun _ _ _ _ _ _ us hl => match us, hl with | [_], _ => rfl⟩
  have E_back : DfM l.prog w K mg base 1 C0 "back" ["self"] (spSBack C0) := ⟨m0_3, dm0_3, ok_S_back Fm0_3 TC0 M, am0_3.me, Fm0_3.binds (ps := ["self"]) fun _ _ _ _ _ _ us hl => match us, hl with | [_], _ => rfl⟩
  have E_come : DfM l.prog w K mg base 2 C0 "come" ["self", "one", "other", "kind"] (spSCome C0) := ⟨m0_4, dm0_4, ok_S_come Fm0_4 TC0 M E_web D6 D7 D8 D2, am0_4.me, Fm0_4.binds (ps := ["self", "one", "other", "kind"]) fun _ _ _ _ _ _ us hl => match us, hl with | [_, _, _, _], _ => rfl⟩
  have E_kept_web : DfM l.prog w K mg base 1 C0 "kept_web" ["self"] (spSKept C0) := ⟨m0_5, dm0_5, ok_S_kept Fm0_5 TC0 M, am0_5.me, Fm0_5.binds (ps := ["self"]) fun _ _ _ _ _ _ us hl => match us, hl with | [_], _ => rfl⟩
  have E_sides : DfM l.prog w K mg base 4 C0 "sides" ["self"] (spSSides C0) := ⟨m0_6, dm0_6, ok_S_sides Fm0_6 TC0 E_kept_web D5, am0_6.me, Fm0_6.binds (ps := ["self"]) fun _ _ _ _ _ _ us hl => match us, hl with | [_], _ => rfl⟩
  have E_between : DfM l.prog w K mg base 2 C0 "between" ["self", "one", "other"] (spSBetween C0) := ⟨m0_7, dm0_7, ok_S_between Fm0_7 TC0 E_kept_web D0 D1, am0_7.me, Fm0_7.binds (ps := ["self", "one", "other"]) fun _ _ _ _ _ _ us hl => match us, hl with | [_, _, _], _ => rfl⟩
  have D9 : Df l.prog w K mg base 1 "_law_cell_at" ["_law_script", "_law_k"] (spCell K) := .of g9 F9 (ok_l_cell_at F9 M) fun _ _ _ _ _ _ us hl => match us, hl with | [_, _], _ => rfl
  have D10 : Df l.prog w K mg base 1 "_law_draw" ["_law_well", "_law_many"] spDraw := .of g10 F10 (ok_l_draw F10 m_abs) fun _ _ _ _ _ _ us hl => match us, hl with | [_, _], _ => rfl
  have D11 : Df l.prog w K mg base 2 "_law_size" ["_law_script"] (spSize K) := .of g11 F11 (ok_l_size F11 M D9 D10) fun _ _ _ _ _ _ us hl => match us, hl with | [_], _ => rfl
  have D12 : Df l.prog w K mg base 2 "_law_deed" ["_law_script", "_law_k", "_law_many", "_law_ties", "_law_goes_round"] (spDeed K) := .of g12 F12 (ok_l_deed F12 M D9 D10) fun _ _ _ _ _ _ us hl => match us, hl with | [_, _, _, _, _], _ => rfl
  have D13 : Df l.prog w K mg base 5 "_law_state" ["_law_stand", "_law_many", "_law_k"] (spState C0) := .of g13 F13 (ok_l_state F13 M TC0 m_min E_between E_broken E_sides E_web) fun _ _ _ _ _ _ us hl => match us, hl with | [_, _, _], _ => rfl
  have D14 : Df l.prog w K mg base 2 "_law_is_refused" ["_law_stand"] (spRefused C0) := .of g14 F14 (ok_l_is_refused F14 M TC0 m_ValueError (e0.ref X G) (k0_0.kit X G) (k0_1.kit X G) (k0_2.kit X G) (k0_3.kit X G) (k0_4.kit X G) (k0_5.kit X G) v0 EX_back) fun _ _ _ _ _ _ us hl => match us, hl with | [_], _ => rfl
  have D15 : Df l.prog w K mg base 6 "_law_empty_right" ["_law_stand", "_law_many"] (spEmpty C0) := .of g15 F15 (ok_l_empty_right F15 M TC0 D14 D13 E_broken E_sides E_web) fun _ _ _ _ _ _ us hl => match us, hl with | [_, _], _ => rfl
  have D16 : Df l.prog w K mg base 6 "_law_again_right" ["_law_stand", "_law_many", "_law_ahead"] (spAgain C0) := .of g16 F16 (ok_l_again_right F16 M TC0 D13 E_back E_come) fun _ _ _ _ _ _ us hl => match us, hl with | [_, _, _], _ => rfl
  exact ok_law F17 M TC0 D11 D12 D13 D16 D15 (PySem.W.mg_of X G cl0.ns) ⟨cl0.mks, am0_0.me.at_, am0_0.me.fn, cl0.kc⟩ Gi0 bi0 E_back E_come
end
end FF
open PySem PySem.W PyProof.Rows
set_option maxRecDepth 100000 in
set_option maxHeartbeats 0 in
theorem PySem.Challenge.cw_friendfoe_k30_taken_back_holds : PySem.Challenge.rw_friendfoe_k30_taken_back.Holds := by
  w_on; o_law; k_head; (case hw => w_witness2)
  k_fill
  refine FF.walk_tabs (l := PySem.Challenge.rw_friendfoe_k30_taken_back) (n := 63) (k := 7) (x := "_law_script") rfl (by decide) rfl ⟨rfl, by decide, by decide⟩ (fun w h Y => PySem.W.kIn_of Y) ?F
  case F =>
    intro w mg fa h KX G hmg tabs
    refine' FF.law_at KX G hmg  ?a0 ?a1 ?a2 ?a3 ?a4 ?a5 ?a6 ?a7 ?a8 ?a9 ?a10 ?a11 ?a12 ?a13 ?a14 ?a15 ?a16 ?a17 ?z0 ?z1 ?z2 ?z3 ?z4 ?z5 ?z6 ?z7 ?z8 ?z9 ?z10 ?z11 ?z12 ?e0 ?k0_0 ?k0_1 ?k0_2 ?k0_3 ?k0_4 ?k0_5 ?v0 ?cl0 ?na0_many ?na0_ties ?na0_kept ?na0_lost ?am0_0 ?am0_1 ?am0_2 ?am0_3 ?am0_4 ?am0_5 ?am0_6 ?am0_7
    (case a0 => refine' FF.at_mk ?p1 ?p2 ?p3 ?p4; (case p1 => k_is); (case p2 => k_is); (case p3 => k_is); (case p4 => k_is))
    (case a1 => refine' FF.at_mk ?p1 ?p2 ?p3 ?p4; (case p1 => k_is); (case p2 => k_is); (case p3 => k_is); (case p4 => k_is))
    (case a2 => refine' FF.at_mk ?p1 ?p2 ?p3 ?p4; (case p1 => k_is); (case p2 => k_is); (case p3 => k_is); (case p4 => k_is))
    (case a3 => refine' FF.at_mk ?p1 ?p2 ?p3 ?p4; (case p1 => k_is); (case p2 => k_is); (case p3 => k_is); (case p4 => k_is))
    (case a4 => refine' FF.at_mk ?p1 ?p2 ?p3 ?p4; (case p1 => k_is); (case p2 => k_is); (case p3 => k_is); (case p4 => k_is))
    (case a5 => refine' FF.at_mk ?p1 ?p2 ?p3 ?p4; (case p1 => k_is); (case p2 => k_is); (case p3 => k_is); (case p4 => k_is))
    (case a6 => refine' FF.at_mk ?p1 ?p2 ?p3 ?p4; (case p1 => k_is); (case p2 => k_is); (case p3 => k_is); (case p4 => k_is))
    (case a7 => refine' FF.at_mk ?p1 ?p2 ?p3 ?p4; (case p1 => k_is); (case p2 => k_is); (case p3 => k_is); (case p4 => k_is))
    (case a8 => refine' FF.at_mk ?p1 ?p2 ?p3 ?p4; (case p1 => k_is); (case p2 => k_is); (case p3 => k_is); (case p4 => k_is))
    (case a9 => refine' FF.at_mk ?p1 ?p2 ?p3 ?p4; (case p1 => k_is); (case p2 => k_is); (case p3 => k_is); (case p4 => k_is))
    (case a10 => refine' FF.at_mk ?p1 ?p2 ?p3 ?p4; (case p1 => k_is); (case p2 => k_is); (case p3 => k_is); (case p4 => k_is))
    (case a11 => refine' FF.at_mk ?p1 ?p2 ?p3 ?p4; (case p1 => k_is); (case p2 => k_is); (case p3 => k_is); (case p4 => k_is))
    (case a12 => refine' FF.at_mk ?p1 ?p2 ?p3 ?p4; (case p1 => k_is); (case p2 => k_is); (case p3 => k_is); (case p4 => k_is))
    (case a13 => refine' FF.at_mk ?p1 ?p2 ?p3 ?p4; (case p1 => k_is); (case p2 => k_is); (case p3 => k_is); (case p4 => k_is))
    (case a14 => refine' FF.at_mk ?p1 ?p2 ?p3 ?p4; (case p1 => k_is); (case p2 => k_is); (case p3 => k_is); (case p4 => k_is))
    (case a15 => refine' FF.at_mk ?p1 ?p2 ?p3 ?p4; (case p1 => k_is); (case p2 => k_is); (case p3 => k_is); (case p4 => k_is))
    (case a16 => refine' FF.at_mk ?p1 ?p2 ?p3 ?p4; (case p1 => k_is); (case p2 => k_is); (case p3 => k_is); (case p4 => k_is))
    (case a17 => refine' FF.at_mk ?p1 ?p2 ?p3 ?p4; (case p1 => k_is); (case p2 => k_is); (case p3 => k_is); (case p4 => k_is))
    (case z0 => k_is)
    (case z1 => k_is)
    (case z2 => k_is)
    (case z3 => k_is)
    (case z4 => k_is)
    (case z5 => k_is)
    (case z6 => k_is)
    (case z7 => k_is)
    (case z8 => k_is)
    (case z9 => k_is)
    (case z10 => k_is)
    (case z11 => k_is)
    (case z12 => k_is)
    (case e0 => refine' FF.errK_mk ?q1 ?q2 ?q3 ?q4 ?q5 ?q6 ?q7 ?q8 ?q9 ?q10 ?q11 ?q12 ?q13 ?q14 ?q15 ?q16 ?q17; (case q1 => first | k_is | rfl | kernel_rfl); (case q2 => first | k_is | rfl | kernel_rfl); (case q3 => first | k_is | rfl | kernel_rfl); (case q4 => first | k_is | rfl | kernel_rfl); (case q5 => first | k_is | rfl | kernel_rfl); (case q6 => first | k_is | rfl | kernel_rfl); (case q7 => first | k_is | rfl | kernel_rfl); (case q8 => first | k_is | rfl | kernel_rfl); (case q9 => first | k_is | rfl | kernel_rfl); (case q10 => first | k_is | rfl | kernel_rfl); (case q11 => first | k_is | rfl | kernel_rfl); (case q12 => first | k_is | rfl | kernel_rfl); (case q13 => first | k_is | rfl | kernel_rfl); (case q14 => first | k_is | rfl | kernel_rfl); (case q15 => first | k_is | rfl | kernel_rfl); (case q16 => first | k_is | rfl | kernel_rfl); (case q17 => first | k_is | rfl | kernel_rfl))
    (case k0_0 => refine' FF.kitK_mk ?q1 ?q2; (case q1 => k_is); (case q2 => first | k_is | rfl | kernel_rfl))
    (case k0_1 => refine' FF.kitK_mk ?q1 ?q2; (case q1 => k_is); (case q2 => first | k_is | rfl | kernel_rfl))
    (case k0_2 => refine' FF.kitK_mk ?q1 ?q2; (case q1 => k_is); (case q2 => first | k_is | rfl | kernel_rfl))
    (case k0_3 => refine' FF.kitK_mk ?q1 ?q2; (case q1 => k_is); (case q2 => first | k_is | rfl | kernel_rfl))
    (case k0_4 => refine' FF.kitK_mk ?q1 ?q2; (case q1 => k_is); (case q2 => first | k_is | rfl | kernel_rfl))
    (case k0_5 => refine' FF.kitK_mk ?q1 ?q2; (case q1 => k_is); (case q2 => first | k_is | rfl | kernel_rfl))
    (case v0 => first | k_is | rfl | kernel_rfl)
    (case cl0 => refine' FF.atCl_mk ?q1 ?q2 ?q3 ?q4 ?q5 ?q6 ?q7; (case q1 => k_is); (case q2 => k_is); (case q3 => k_is); (case q4 => k_is); (case q5 => k_is); (case q6 => k_is); (case q7 => k_is))
    (case na0_many => k_is)
    (case na0_ties => k_is)
    (case na0_kept => k_is)
    (case na0_lost => k_is)
    (case am0_0 => refine' FF.atM_mk ?q1 ?q2 ?q3 ?q4 ?q5; (case q1 => k_is); (case q2 => k_is); (case q3 => k_is); (case q4 => k_is); (case q5 => k_is))
    (case am0_1 => refine' FF.atM_mk ?q1 ?q2 ?q3 ?q4 ?q5; (case q1 => k_is); (case q2 => k_is); (case q3 => k_is); (case q4 => k_is); (case q5 => k_is))
    (case am0_2 => refine' FF.atM_mk ?q1 ?q2 ?q3 ?q4 ?q5; (case q1 => k_is); (case q2 => k_is); (case q3 => k_is); (case q4 => k_is); (case q5 => k_is))
    (case am0_3 => refine' FF.atM_mk ?q1 ?q2 ?q3 ?q4 ?q5; (case q1 => k_is); (case q2 => k_is); (case q3 => k_is); (case q4 => k_is); (case q5 => k_is))
    (case am0_4 => refine' FF.atM_mk ?q1 ?q2 ?q3 ?q4 ?q5; (case q1 => k_is); (case q2 => k_is); (case q3 => k_is); (case q4 => k_is); (case q5 => k_is))
    (case am0_5 => refine' FF.atM_mk ?q1 ?q2 ?q3 ?q4 ?q5; (case q1 => k_is); (case q2 => k_is); (case q3 => k_is); (case q4 => k_is); (case q5 => k_is))
    (case am0_6 => refine' FF.atM_mk ?q1 ?q2 ?q3 ?q4 ?q5; (case q1 => k_is); (case q2 => k_is); (case q3 => k_is); (case q4 => k_is); (case q5 => k_is))
    (case am0_7 => refine' FF.atM_mk ?q1 ?q2 ?q3 ?q4 ?q5; (case q1 => k_is); (case q2 => k_is); (case q3 => k_is); (case q4 => k_is); (case q5 => k_is))
